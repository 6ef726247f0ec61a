import PyProof.Rows.All
import Wide.All
import OpenK.AllK
import Wide.FinOn
import Lean
import PyProof.EqAt
import PyProof.EqKinds
import PyProof.TupleCall
import KE.KIntText
import KE.KRevSl
import PyProof.Rows.SeqMore
import PyProof.WalkInts
import PyProof.Rows.MinMaxN
import PyProof.ExcInit
import OpenK.KMake
import PyProof.InstStoreFacts
import PyProof.FString2
import PyProof.Rows.FStr
import PyProof.Rows.SetFrom
import PyProof.SeqRoads2
import PyProof.RangeFor
import PyProof.WalksMore
import PyProof.StrBlock2
import PyProof.Rows.SortShell
import PyProof.TupleOfSeq
import KE.KDictList
import KE.KDictOf
import PyProof.IsiH_tuple
import PyProof.Rows.RuleN_abs
import PyProof.Rows.Range3
import KE.KRevIter
import PyProof.StrLawsRepr
import PyProof.ReprStr
import PySem.Challenge.RW_chordbed_k24_whole_beds_read
set_option compiler.extract_closed false
set_option genSizeOf false
set_option genInjectivity false
set_option Elab.async false
set_option linter.all false
set_option maxRecDepth 100000
abbrev ak:=@if_pos
abbrev ar:=@if_neg
abbrev a4:=@decide_eq_true
abbrev a5:=@decide_eq_false
abbrev a6:=@of_decide_eq_true
abbrev a7:=@absurd
abbrev a8:=@Or.inl
abbrev cv:=@Or.inr
abbrev cM:=@List
abbrev c5:=@Option
abbrev c6:=@PySem.Heap.get?_push_of_some
abbrev dt:=@PySem.Heap.lt_size
abbrev dN:=@PySem.Heap.get?_push_size
abbrev d4:=@PySem.Heap.get?_update_other
abbrev ea:=@PySem.Heap.get?_update_self
abbrev ec:=@PySem.Heap.size_push
abbrev ee:=@PySem.Heap.get?_none_of_le
abbrev ek:=@PySem.Obj.data_mapFields
abbrev en:=@PySem.Obj.isFreed_of_fields
abbrev et:=@Ne.symm
abbrev e9:=@congrArg
abbrev fo:=@beq_self_eq_true
local macro_rules|`(tactic|left)=>`(tactic|decide+kernel)|`(tactic|change $e)=>`(tactic|with_reducible exact $e)|`(tactic|specialize $e)=>`(tactic|with_reducible refine $e)
local macro_rules|`(def $i:declId $s:optDeclSig $v:declVal)=>`(noncomputable def $i:declId $s:optDeclSig $v:declVal)|`(abbrev $i:declId $s:optDeclSig $v:declVal)=>`(noncomputable abbrev $i:declId $s:optDeclSig $v:declVal)
local macro_rules|`(tactic|ext)=>`(tactic|omega)
local macro_rules|`(tactic|ext)=>`(tactic|lia)
open Option renaming some->ax,none->cL,map_eq_some_iff->TJ,isSome_iff_exists->Wx,map_eq_none_iff->W6,toList_some->Ya,toList_none->abO,getD_none->acB,bind_some->acF
open PySem renaming PyData->lD,wpAny_bind->Ld,Value->Rf,Shared->Ro,Addr->Rq,wpAny_pure->Ru,mainGlobals->RD,sizeLine->RL,Program->RT,starEach->R0,Builtin->R8,NameKind->Sj,Around->Sk,World->SG,Expr->SI,wpAny_field->SJ,bootBuiltins->SS,FuncData->S5,compareOp->To,Stmt->Tq,codeAny_call_builtin->TK,mem_of_lookup->TM,wpAny_truthy_bool->TU,wpAny_newObj_type->TV,swapsWith->Ug,wpAny_callSpecial?_slot->Uh,wpAny_loadPart_at->Uj,call_meets->Uk,wpAny_standAt->Uq,cellsFrom->Ut,binaryOp->UB,intText?->UC,wpAny_pyIter_tuple->UH,PassesOwn->UK,wpAny_call_entry->UL,wpAny_seqItems->UM,wpAny_setField->UN,wpAny_setField_rec->UW,wpAny_holding->U1,wpAny_pyIter_enum->U6,codeAny_mono->Vk,wpAny_isSubtype_exc->Vq,sizeLine_eq->Vy,wpAny_getItem_str_slice->Vz,Scope->VI,ExcBaseFacts->VO,wpAny_passesOwn->Wl,wpAny_loadPart'->Wm,DictEntry->WJ,typeIs_str->WO,wpAny_letOwnedTupleGo_enum->WQ,GenState->XF,wpAny_call->XW,wpAny_execs_nil->X9,post_val_or_str->Yb,IsPart->Ys,wpAny_pyIter_list->Yu,wpAny_updateSeq_pair->Yv,refuseLoop_ref->Yw,BindsTo->YO,Keyword->YQ,wpAny_onRaise->Y4,wpAny_Call_Name_kw->Y9,typeIs_int->Zd,JoinOk->Zh,wpAny_typeOf->ZL,Data->ZM,ZipApart->ZN,wpAny_Call_ofName->ZO,plainObj_wpAny_Assign_Attribute->Z0,Code->aah,Model->aaw,wpAny_letGo->aaA,pushCells_keeps->aaG,codeAny_of_tree->aaH,OsState->aa5,fitsIndex_both->abb,IsEnum->abd,wpAny_rule->abf,IsZip->abg,wpAny_loadPart->abh,wpAny_binaryOp_repeat_ref->abN,wpAny_comprehension_free->ab5,Drawn->acz,wpAny_pyNext_enum_itemD->acC,wpAny_pyNext_enum_endD->acQ,weight_type_call_type->adn,ReadsAll->ady,sysModules->aet,Within->aeu,wpAny_Name->aev,wpAny_Constant_int->aew,Result->aey,wpAny_assign_Name->afd,Walks->afe,wpAny_sequenceKey->aff,slot_list_getitem->afg,OwnTail->afi,wpAny_pyHash_int->afM,wpAny_pyHash_str->afN,wpAny_execs_cons->afO,noFill_tuple_add->afX,call->afY,wpAny_pyIter_zip->afZ,wpAny_lookBehind->af4,pastItsLine_dict->af5,beq_builtin_none->af6,wpAny_stack_any->ahX,codeAny_builtin->ahY,intBits_le_64->alr,seq_tuple_add->als,evalPart_none->alu,call_list_seq->alv,sub_enumerate->alw,wpAny_attempt->alx,strLen_append->aly
open PySem.W renaming Frag->td,nsIn->RG,findIn->RI,subIn->RK,kitOne->Sq,mg_none_of->Sx,mg_of->SK,typeIn->Td,isClsIn->Ts,hasDictIn->T7,specialIn->Ur,isFn->Us,keepIn->UA,nsOkIn->UY,kia_one->Vg,cellsFrom_some->Vn,fnOf->Vp,InstAt->Vr,clsIn->VA,readsIn->VP,findCls->VQ,tailIn->Xg,mroIn->XM,excIn->XN,methodObj->Yd,codeIn->Zb,notCls->Zi,pyHash_slot->aa6,tail_of_in->abi,plainOver->abM,plainGet->ab4,instObj->acy,makesIn->acA,OpenLaw->acD,lookIn->acP
open List renaming length_map->CL,mem_cons_self->Ri,getElem?_eq_getElem->Rj,length_cons->Rk,mem_cons_of_mem->Rm,mem_cons->Rn,getElem?_eq_some_iff->Rp,getElem?_map->Rt,not_mem_nil->Rv,length_append->Ry,mem_singleton->RA,size_toArray->RB,mem_map->RF,replicate->RH,map_cons->RJ,mem_append_right->RN,length_range->RQ,mem_of_getElem?->RU,Nodup->RY,range->Sb,length_take->Sd,mem_range->Sf,length_drop->Sl,mem_append->Sv,map_map->Sw,getD_eq_getElem?_getD->SD,replicate_succ->SQ,append_nil->SW,length_singleton->S0,lookup_cons->S3,map_append->S6,length_replicate->S8,getElem?_set->Tb,take_add_one->Tc,take_of_length_le->Th,getElem?_append_left->Tj,mem_iff_getElem?->Tr,find?_range_eq_some->Tt,pairwise_cons->Tw,contains_cons->Tx,getElem?_append_right->TN,map_nil->TQ,length_nil->TR,take_append_drop->TY,getElem_mem->T1,mem_append_left->T6,append_assoc->T9,drop_eq_nil_of_le->Ui,cons_append->Ul,find?_eq_none->Um,mem_filter->Uw,all_cons->Uz,take_length->UD,nodup_cons->UQ,length_set->UR,getElem?_eq_none->UT,flatten_cons->UU,mem_of_mem_take->U3,all_eq_true->U7,cons_ne_nil->U8,getElem?_eq_none_iff->Va,foldl_cons->Vl,getElem?_replicate->Vo,cons_lt_cons_iff->VF,any_cons->VN,sum_cons->VR,mem_of_mem_drop->VV,nil_append->VY,map_congr_left->V1,getElem?_drop->Wi,drop_eq_getElem_cons->Wy,lookup->WA,ext_getElem?->WB,count_append->WC,map_drop->WN,getElem?_cons_succ->W5,getElem?_set_self->Xb,foldl->Xd,forIn_cons->Xf,getElem?_set_ne->XI,filterMap_cons->X8,map_take->Yf,mem_filterMap->Yn,getElem_range->Yp,foldlM_append->Yr,length->Za,of_mem_zip->ZG,forIn_nil->ZW,drop_zero->ZZ,filterMap->Z5,pairwise_iff_getElem->aak,getElem?_take_of_lt->aax,filterMap_cons_none->aay,filterMap_cons_some->aaz,take_nil->aaB,headD_eq_head?_getD->aaC,pairwise_singleton->aaJ,head?_eq_getElem?->aa7,take_eq_take_iff->abj,count_cons_of_ne->abk,count_le_length->abQ,map_eq_nil_iff->ab7,map_inj_right->acE,set_cons_zero->acH,set_cons_succ->acI,zipIdx_cons->adm,any_eq_true->ado,perm_middle->adp,zipIdx_nil->adz,foldlM->agc
open Bool renaming true->OK,false_ne_true->Rg,false->Rh,and_eq_true->Rz,false_or->Sz,and_self->Te,eq_iff_iff->Uc,true_or->Ux,or_true->Uy,not_eq_true'->UX,decide_and->VZ,eq_false_iff->Wz,true_and->WL,false_and->XJ,or_eq_false_iff->XO,or_false->Ye,and_true->Yg,false_eq_true->Yo,not_eq_false'->Yq,or_eq_true->ZH
open Nat renaming le_refl->Rr,lt_of_lt_of_le->RM,ne_of_lt->RO,le_of_ble_eq_true->RP,le_trans->SH,ne_of_gt->Ti,zero_le->Tp,lt_irrefl->T5,lt_succ_of_lt->U0,le_of_lt->Vx,le_succ->VW,zero_add->Wf,add_sub_cancel->Wn,le_of_succ_le->WK,not_lt_zero->Xz,lt_of_le_of_lt->Yt,add_comm->YW,min_le_right->Zc,le_of_not_lt->Ze,lt_succ_self->Zf,succ_ne_self->Zg,min_eq_left->ZQ,succ_mul->abc,lt_trans->abe,cast->ab6,pow_le_pow_right->ab8,succ_ne_zero->adA,lt_of_not_le->adB,mul_le_mul->aez,add_assoc->afj,sub_zero->af3,sub_self->af7,log2_lt->ahW
open PySem.Str renaming join->Rx,length_append->S9,ofString->Ue,append_assoc->Vm,empty->WM,cps_append->aaj,ext'->amM
open PySem.F renaming plainAttrs_str->RZ,plainAttrs_list->Sg,slot_list_append->SX,type_list_append->SY,slot_str_split->Tf,type_str_split->Tg,slot_str_join->UO,type_str_join->UP,attrBase_ValueError->US,excBase_ValueError->UZ,slot_list_insert->U9,type_list_insert->Wo,slot_str_startswith->Y5,type_str_startswith->Y6,args_tuple_add_2->ZK,store_ValueError->ZP,entry_tuple_add->ZV,slot_list_count->ZX,slot_list_index->ZY,slot_tuple_add->aai,store_object->aaI
open Option.some renaming inj->R9
open PyProof.Rows renaming envOfC->Se,step_dedup->Sr,slot_tuple_getitem->S7,callWith_type1->UG,firstMet->Zj,callWith_builtin1->ahV,evalArgs_kwB->ahZ,kws_cons->ah0,kws_nil->ah1,split_pos->ah2,IntsAre->ah3,codeAny_set_update_loopS->ah4,SetOf_congr->ah5,setObjOf_fresh->ah6,litPairs->ah8
open Int renaming toNat_natCast->Sy,emod_nonneg->Tv,emod_lt_of_pos->T3,toNat_of_nonneg->Vh,le_trans->af2,le_refl->ah7
open Array renaming getElem?_eq_some_iff->S2,mem_toList_iff->VJ,length_toList->VX,getElem?_toList->Xe,getElem?_setIfInBounds_self_of_lt->Xy,all_eq_true_iff_forall_mem->Yx,getElem?_setIfInBounds_ne->YU,toList_inj->YY,toList_append->abP,find?_toList->ab3,all_toList->acR,toList->aex
open List.cons renaming inj->Vw,injEq->amO
open List.Pairwise renaming nil->VU,filter->Zk
open PySem.StrLaws renaming subAt_one->V2,glued_eq_join->Yc,joinFits->YZ,join_split->af0,split_free->af1,found_one->af8,sliced_plain->af9,strSliceIndices_plain->aga,occ_head->agb
open List.Sublist renaming refl->XA
open List.Perm renaming refl->YX,swap->amK
open PyProof.Rows.IntsAre renaming int_at->acG
open PySem.PassesOwn renaming never->aeA
open PySem.AutoSeq1 renaming list_insert_list_int_val_1->afh
open PySem.EqMixed renaming eq_bool_str->afP,eq_int_str->afQ,eq_str_bool->afR,eq_str_int->afS,ne_bool_str->afT,ne_int_str->afU,ne_str_bool->afV,ne_str_int->afW
open PySem.EqNone renaming eq_none_none->ahH,eq_none_bool->ahI,eq_none_int->ahJ,eq_none_str->ahK,eq_bool_none->ahL,eq_int_none->ahM,eq_str_none->ahN,ne_none_none->ahO,ne_none_bool->ahP,ne_none_int->ahQ,ne_none_str->ahR,ne_bool_none->ahS,ne_int_none->ahT,ne_str_none->ahU
open PySem.SeqAt renaming compareEq_reads->ai9,compareNe_reads->aja,in_list_reads->ajb,in_tuple_reads->ajc,notIn_list_reads->ajd,notIn_tuple_reads->aje
open PySem.W.KIN renaming call_text->ajf
open PySem.IsL renaming update->amI
open PyProof.V renaming same_str->amL
namespace L2
open PySem PySem.Spec PyProof.Rows
abbrev rC:=Sum Int Str
def JP:rC->Rf->Bool
 |.inl k,v=>Rf.isInt k v
 |.inr x,v=>Rf.isStrOf x v
def Qd(w:SG):rC->Int
 |.inl k=>hashInt k
 |.inr x=>hashStr w x
theorem fw:∀{k:rC} {v:Rf},JP k v=OK->(∃i t,k=Sum.inl i/\v=Rf.int i t)\/(∃x t,k=Sum.inr x/\v=Rf.str x t)
 |.inl i,v,h=>by obtain⟨t,e⟩:=Rf.isInt_shape h;exact .inl ⟨i,t,rfl,e⟩
 |.inr x,v,h=>by obtain⟨t,e⟩:=Rf.isStrOf_shape h;exact .inr ⟨x,t,rfl,e⟩
theorem Lx(a b:Int):decide ((Sum.inl a:rC)=Sum.inl b)=(a==b):=by
 by_cases e:a=b
 .subst e;simp
 .have h:¬(Sum.inl a:rC)=Sum.inl b:=λq=>e (Sum.inl.inj q);rw[a5 h];exact(beq_eq_false_iff_ne.mpr e).symm
theorem L6(a b:Str):decide ((Sum.inr a:rC)=Sum.inr b)=decide (a=b):=by
 by_cases e:a=b
 .subst e;simp
 .have h:¬(Sum.inr a:rC)=Sum.inr b:=λq=>e (Sum.inr.inj q);rw[a5 h,a5 e]
theorem K2(a:Int)(b:Str):decide ((Sum.inl a:rC)=Sum.inr b)=Rh:=a5 (λq=>nomatch q)
theorem KC(a:Str)(b:Int):decide ((Sum.inr a:rC)=Sum.inl b)=Rh:=a5 (λq=>nomatch q)
def BL(prog:RT)(w:SG):PySem.KeyKind prog w rC where
 is:=JP
 hash:=Qd w
 inj:=λv a b ha d=>by
  rcases fw ha with⟨i,t,rfl,rfl⟩|⟨x,t,rfl,rfl⟩
  .rcases fw d with⟨j,u,rfl,e⟩|⟨y,u,rfl,e⟩
   .injection e with e1 _;rw[e1]
   .exact nomatch e
  .rcases fw d with⟨j,u,rfl,e⟩|⟨y,u,rfl,e⟩
   .exact nomatch e
   .injection e with e1 _;rw[e1]
 byValue:=λk v h=>by rcases fw h with⟨i,t,rfl,rfl⟩|⟨x,t,rfl,rfl⟩<;>rfl
 pyHash:=λc h=>by
  rcases fw c with⟨i,t,rfl,rfl⟩|⟨x,t,rfl,rfl⟩
  .exact afM h
  .exact afN h
 eqBool:=λf c h=>by
  rcases fw f with⟨i,t,rfl,rfl⟩|⟨x,t,rfl,rfl⟩
  .rcases fw c with⟨j,u,rfl,rfl⟩|⟨y,u,rfl,rfl⟩
   .rw[Lx]at h;exact wpAny_eqBool_int h
   .rw[K2]at h;exact SeqAt.EqAt.int_str i t y u _ _ _ _ h
  .rcases fw c with⟨j,u,rfl,rfl⟩|⟨y,u,rfl,rfl⟩
   .rw[KC]at h;exact SeqAt.EqAt.str_int x t j u _ _ _ _ h
   .rw[L6]at h;exact wpAny_eqBool_str h
 «strs»:=λk x t v h=>by
  rcases fw h with⟨i,u,rfl,e⟩|⟨y,u,rfl,e⟩
  .exact nomatch e
  .injection e with e1 _
   subst e1;cases v<;>rfl
inductive V where
 |Uo|bl (b:Bool)|int (i:Int)|str (x:Str)|byt (b:Array UInt8)|flt (b:UInt64)|ref (a:Rq)|ty (n:String)
 deriving DecidableEq
def RelV:V->Rf->Prop
 |.Uo,u=>u=Rf.none
 |.bl b,u=>u=Rf.bool b
 |.int i,u=>∃t,u=Rf.int i t
 |.str x,u=>∃t,u=Rf.str x t
 |.byt b,u=>∃t,u=Rf.bytes b t
 |.flt b,u=>∃t,u=Rf.float b t
 |.ref a,u=>u=Rf.ref a
 |.ty n,u=>u=Rf.type n
abbrev Vals:cM V->cM Rf->Prop:=Paired RelV
theorem Vals.length(r:Vals xs us):xs.length=us.length:=Paired.length r
theorem Vals.get:∀{xs:cM V} {a:cM Rf} {i:Nat} {x:V},Vals xs a->xs[i]?=ax x->∃u,a[i]?=ax u/\RelV x u
 |_,_,_,_,.nil,e=>by simp at e
 |_,_,0,_,.cons r _,e=>by simp at e;subst e;exact⟨_,rfl,r⟩
 |_,_,i+1,x,.cons _ t,e=>by obtain⟨u,c,b⟩:=Vals.get t (by simpa using e);exact⟨u,by simpa using c,b⟩
theorem Vals.append:∀{xs a:cM V} {b ws:cM Rf},Vals xs b->Vals a ws->Vals (xs++a) (b++ws)
 |_,_,_,_,.nil,s=>s
 |_,_,_,_,.cons r t,s=>.cons r (Vals.append t s)
theorem Vals.take:∀{xs:cM V} {a:cM Rf} (n:Nat),Vals xs a->Vals (xs.take n) (a.take n)
 |_,_,0,_=>.nil
 |_,_,_+1,.nil=>.nil
 |_,_,n+1,.cons r t=>.cons r (Vals.take n t)
theorem Vals.drop:∀{xs:cM V} {a:cM Rf} (n:Nat),Vals xs a->Vals (xs.drop n) (a.drop n)
 |_,_,0,r=>r
 |_,_,_+1,.nil=>.nil
 |_,_,n+1,.cons _ t=>Vals.drop n t
def aa2:c5 V->c5 Rf->Prop
 |some v,ax u=>RelV v u
 |none,cL=>True
 |_,_=>False
def KV:cM (κ×V)->cM (κ×Rf)->Prop:=Paired λ(p:κ×V) (q:κ×Rf)=>p.1=q.1/\RelV p.2 q.2
def kV:rC->V
 |.inl i=>.int i
 |.inr x=>.str x
inductive HO where
 |lst (xs:cM V)
 |tup (xs:cM V)
 |dK (W9:cM (rC×V))|dT (W9:cM (cM rC×V))
 |set (S:Int->Bool) (n:Nat)
 |ins (C dx:Rq) (fs:cM (Str×V))
 |own (x:Rq)
 |xd (fs:cM (Str×V))
 |met (f x:Rq)
 |rng (lo hi:Int)
 |frz (o:Obj) (u:HO)
 |tbl (ps:Array Rf)
 |ext (φ:Heap->Prop)
 |exw (φ:SG->Heap->Prop)
abbrev Hp:=Rq->c5 HO
def dg(H:Hp)(a:Rq)(o:HO):Hp:=λb=>if b=a then ax o else H b
theorem bz:dg H a o a=ax o:=by unfold dg;rw[ak rfl]
theorem aM(h:b≠a):dg H a o b=H b:=by unfold dg;rw[ar h]
theorem Hf:dg (dg H a o) a u=dg H a u:=by funext b;unfold dg;split<;>rfl
theorem dQ{H:Hp}(h:H a=ax o)(h':H b=cL):a≠b:=by intro e;subst e;rw[h]at h';cases h'
def Zs(h:Heap)(a:Rq)(b:Array Rf):Prop:=∃o,h.get? a=ax o/\(o.cls=.type "tuple"/\∃n,o.data=.seq b n)/\o.dict=cL
theorem Zs.tup(x:Zs h a items):IsTup h a items:=let⟨o,e,c,_⟩:=x;⟨o,e,c⟩
theorem Zs.lt(x:Zs h a items):a<h.objs.size:=let⟨_,e,_⟩:=x;dt e
theorem Zs.new(h:Heap)(xs:Array Rf):Zs (h.push {cls:=.type "tuple",data:=.seq xs}) h.objs.size xs:=⟨_,dN _ rfl,⟨rfl,_,rfl⟩,rfl⟩
section
variable(P:RT)(w:SG)
def UE(H:Hp)(h:Heap)(a:Rq):HO->Prop
 |.lst xs=>xs.length<=RL/\∃(b:cM Rf) (n:Nat),Vals xs b/\h.get? a=ax {cls:=.type "list",data:=.seq b.toArray n}
 |.tup xs=>xs.length<=RL/\∃b:cM Rf,Vals xs b/\Zs h a b.toArray
 |.dK W9=>W9.length<=RL/\(a==aet)=Rh/\∃vs,KV W9 vs/\h.DictOf (BL P w) a vs
 |.dT W9=>W9.length<=RL/\(a==aet)=Rh/\∃xs:cM (cM rC×Rq×Rf),
   Paired (λ(p:cM rC×V) (q:cM rC×Rq×Rf)=>p.1=q.1/\H q.2.1=ax (.tup (p.1.map kV))/\RelV p.2 q.2.2) W9 xs/\
   ∃o es ep,h.get? a=ax o/\o.ExactDict/\o.data=.dict es ep/\es.toList=xs.map (entryOfKey (tupleKind (BL P w)))/\(xs.map (·.1)).Nodup
 |.set S n=>h.SetOf (intKind P w) a S n
 |.ins C dx fs=>H dx=ax (.own a)/\fs.length<=1000/\dx≠a/\h.get? a=ax (acy C dx)/\
   ∃mA,h.Ns1 dx mA/\(∀f,aa2 (fs.lookup f) (mA f))/\aeu mA (fs.map (·.1))
 |.own _=>∃o,h.get? a=ax o
 |.xd fs=>∃mA,h.Ns1 a mA/\∀f,aa2 (fs.lookup f) (mA f)
 |.rng lo hi=>∃t u v,h.get? a=ax {cls:=.type "range",data:=.fields #[.int lo t,.int hi u,.int 1 v]}
 |.frz o u=>h.get? a=ax o/\UE H h a u
 |.tbl ps=>h.get? a=ax {cls:=.none,data:=.fields ps}
 |.met f x=>h.get? a=ax (Yd (.ref f) (.ref x))
 |.ext φ=>φ h/\(∃o,h.get? a=ax o)/\∀h1 h2:Heap,φ h1->(∀o,h1.get? a=ax o->h2.get? a=ax o)->φ h2
 |.exw φ=>φ w h/\(∃o,h.get? a=ax o)/\∀h1 h2:Heap,φ w h1->(∀o,h1.get? a=ax o->h2.get? a=ax o)->φ w h2
def YF(H:Hp)(h:Heap):Prop:=∀a o,H a=ax o->UE P w H h a o
end
section
variable{P:RT}{w:SG}{H H':Hp}{h h':Heap}{a:Rq}{o:HO}
theorem UE.lt(x:UE P w H h a o):a<h.objs.size:=by
 cases o with
 |lst xs=>obtain⟨_,_,_,_,e⟩:=x;exact dt e
 |tup xs=>obtain⟨_,_,_,p⟩:=x;exact p.lt
 |dK W9=>obtain⟨_,_,_,_,o,_,_,e,_⟩:=x;exact dt e
 |dT W9=>obtain⟨_,_,_,_,o,_,_,e,_⟩:=x;exact dt e
 |set S n=>obtain⟨o,_,_,_,e,_⟩:=x;exact dt e
 |ins C dx fs=>obtain⟨_,_,_,e,_⟩:=x;exact dt e
 |own y=>obtain⟨_,e⟩:=x;exact dt e
 |xd fs=>obtain⟨_,⟨_,_,_,e,_⟩,_⟩:=x;exact dt e
 |rng lo hi=>obtain⟨_,_,_,e⟩:=x;exact dt e
 |frz b u=>obtain⟨e,_⟩:=x;exact dt e
 |tbl ps=>exact dt (show h.get? a=ax _ from x)
 |met f y=>exact dt (show h.get? a=ax _ from x)
 |ext φ=>obtain⟨_,⟨_,e⟩,_⟩:=x;exact dt e
 |exw φ=>obtain⟨_,⟨_,e⟩,_⟩:=x;exact dt e
theorem Paired.aeU:∀{l₁:cM α} {l₂:cM β},Paired F l₁ l₂->(∀a b,F a b->G a b)->Paired G l₁ l₂
 |_,_,.nil,_=>.nil
 |_,_,.cons r t,f=>.cons (f _ _ r) (Paired.aeU t f)
theorem UE.WV(x:UE P w H h a o)(k:∀b u,(b=a\/H b=ax (.own a))->h.get? b=ax u->h'.get? b=ax u)
  (G:∀b,H b=ax (.own a)->H' b=ax (.own a)) (F:∀b xs,H b=ax (.tup xs)->H' b=ax (.tup xs)):UE P w H' h' a o:=by
 induction o with
 |lst xs=>obtain⟨z,B,n,r,e⟩:=x;exact⟨z,B,n,r,k _ _ (.inl rfl) e⟩
 |tup xs=>obtain⟨z,B,r,g,e,c⟩:=x;exact⟨z,B,r,g,k _ _ (.inl rfl) e,c⟩
 |dK W9=>obtain⟨z,y,vs,r,g,i,j,e,c⟩:=x;exact⟨z,y,vs,r,g,i,j,k _ _ (.inl rfl) e,c⟩
 |dT W9=>obtain⟨z,y,xs,r,g,i,j,e,c⟩:=x;exact⟨z,y,xs,Paired.aeU r λp q z=>⟨z.1,F _ _ z.2.1,z.2.2⟩,g,i,j,k _ _ (.inl rfl) e,c⟩
 |set S n=>obtain⟨g,i,j,t,e,c⟩:=x;exact⟨g,i,j,t,k _ _ (.inl rfl) e,c⟩
 |ins C dx fs=>obtain⟨d,z,ne,e,A,⟨m,i,j,I,c⟩,r⟩:=x;exact⟨G _ d,z,ne,k _ _ (.inl rfl) e,A,⟨m,i,j,k _ _ (.inr d) I,c⟩,r⟩
 |own y=>obtain⟨g,e⟩:=x;exact⟨g,k _ _ (.inl rfl) e⟩
 |xd fs=>obtain⟨A,⟨m,i,j,e,c⟩,r⟩:=x;exact⟨A,⟨m,i,j,k _ _ (.inl rfl) e,c⟩,r⟩
 |rng lo hi=>obtain⟨t,u,v,e⟩:=x;exact⟨t,u,v,k _ _ (.inl rfl) e⟩
 |frz g u E=>obtain⟨e,q⟩:=x;exact⟨k _ _ (.inl rfl) e,E q⟩
 |tbl ps=>have e:h.get? a=ax {cls:=.none,data:=.fields ps}:=x;show h'.get? a=ax {cls:=.none,data:=.fields ps};exact k a _ (.inl rfl) e
 |met f y=>have e:h.get? a=ax (Yd (.ref f) (.ref y)):=x;show h'.get? a=ax (Yd (.ref f) (.ref y));exact k a _ (.inl rfl) e
 |ext φ=>obtain⟨p,⟨o,e⟩,l⟩:=x;exact⟨l _ _ p λo q=>k _ _ (.inl rfl) q,⟨o,k _ _ (.inl rfl) e⟩,l⟩
 |exw φ=>obtain⟨p,⟨o,e⟩,l⟩:=x;exact⟨l _ _ p λo q=>k _ _ (.inl rfl) q,⟨o,k _ _ (.inl rfl) e⟩,l⟩
theorem YF.lt(x:YF P w H h)(e:H a=ax o):a<h.objs.size:=(x a o e).lt
theorem YF.fresh(x:YF P w H h)(e:h.objs.size<=a):H a=cL:=by
 cases q:H a with
 |none=>rfl
 |some u=>exact a7 (RM (x.lt q) e) (T5 _)
theorem YF.kept(x:YF P w H h)(k:∀b u,h.get? b=ax u->h'.get? b=ax u):YF P w H h':=λa o e=>
 (x a o e).WV (λb u _ q=>k b u q) (λ_ q=>q) λ_ _ q=>q
theorem YF.laid(x:YF P w H h)(k:∀b u,h.get? b=ax u->h'.get? b=ax u)(f:h.objs.size<=a)(new:UE P w (dg H a o) h' a o):YF P w (dg H a o) h':=λb u e=>by
 have hn:=x.fresh f;by_cases d:b=a
 .subst d;rw[bz]at e;cases e;exact new
 .rw[aM d]at e;exact(x b u e).WV (λc v _ q=>k c v q) (λc q=>by rw[aM (dQ q hn)];exact q) λc xs q=>by rw[aM (dQ q hn)];exact q
end
def Rd(H:Hp)(a:Rq)(u:HO):Prop:=H a=ax u\/∃o,H a=ax (.frz o u)
theorem Rd.of(h:H a=ax u):Rd H a u:=.inl h
theorem Rd.ok(r:Rd H a u)(x:YF P w H h):UE P w H h a u:=by
 rcases r with r|⟨o,r⟩
 .exact x a u r
 .obtain⟨_,q⟩:=x a _ r;exact q
def OU:c5 HO->Prop
 |some (.lst _)=>True
 |some (.dK _)=>True
 |some (.dT _)=>True
 |some (.set _ _)=>True
 |some (.ins _ _ _)=>True
 |some (.ext _)=>True
 |some (.exw _)=>True
 |_=>False
section
variable{P:RT}{w:SG}{H:Hp}{h h':Heap}{x e:Rq}{Z:HO}
theorem YF.write(ok:YF P w H h)(f:OU (H x))(n:e=x\/H e=ax (.own x))(k:∀b u,b≠e->h.get? b=ax u->h'.get? b=ax u)(j:∃u,h'.get? e=ax u)
  (new:UE P w (dg H x Z) h' x Z):YF P w (dg H x Z) h':=λb u q=>by
 have d:∀c y,H c=ax (.own y)->c≠x:=λc y r z=>by subst z;rw[r]at f;exact f
 have l:∀c xs,H c=ax (.tup xs)->c≠x:=λc xs r z=>by subst z;rw[r]at f;exact f
 by_cases i:b=x
 .subst i;rw[bz]at q;cases q;exact new
 .rw[aM i]at q
  by_cases a:b=e
  .have m:H b=ax (.own x):=by
    rcases n with z|z
    .exact a7 (a.trans z) i
    .rw[a];exact z
   rw[q]at m;cases m;obtain⟨v,o⟩:=j;exact⟨v,by rw[a];exact o⟩
  .refine(ok b u q).WV (λc v g r=>k c v ?_ r) (λc r=>by rw[aM (d c b r)];exact r) λc xs r=>by rw[aM (l c xs r)];exact r
   rcases g with rfl|g
   .exact a
   .rintro rfl
    rcases n with z|z
    .exact d c b g z
    .rw[g]at z;cases z;exact i rfl
end
structure Un(fs ex:cM Rq)(H H':Hp)(h h':Heap):Prop where
 keep:∀b o,h.get? b=ax o->H b=cL->b∉fs->b∉ex->h'.get? b=ax o
 slot:∀b o,h.get? b=ax o->H b=cL->b∈fs->b∉ex->∃sl,h'.get? b=ax {o with slots:=sl}
 free:∀b o,h.get? b=ax o->H b=cL->b∉ex->H' b=cL
 there:∀b o,h.get? b=ax o->b∉ex->∃o',h'.get? b=ax o'
 Y1:∀b xs,H b=ax (.tup xs)->H' b=ax (.tup xs)
 YN:∀b o u,H b=ax (.frz o u)->H' b=ax (.frz o u)
 Y3:∀b ps,H b=ax (.tbl ps)->∃more,H' b=ax (.tbl (ps++more))
section
variable{fs fs' ex ex':cM Rq}{H H1 H2:Hp}{h h1 h2 h':Heap}{a x e:Rq}{o:HO}
theorem Un.any(u:Un fs ex H H1 h h1)(q:h.get? b=ax ob)(n:H b=cL)(c:b∉ex):∃sl,h1.get? b=ax {ob with slots:=sl}:=by
 by_cases d:b∈fs
 .exact u.slot b ob q n d c
 .exact⟨ob.slots,u.keep b ob q n d c⟩
theorem Un.kept(k:∀b u,h.get? b=ax u->h'.get? b=ax u):Un fs ex H H h h':=
 ⟨λb c q _ _ _=>k b c q,λb c q _ _ _=>⟨c.slots,k b c q⟩,λ_ _ _ n _=>n,λb c q _=>⟨c,k b c q⟩,λ_ _ q=>q,λ_ _ _ q=>q,λ_ ps q=>⟨#[],by rw[q];simp⟩⟩
theorem Un.refl:Un fs ex H H h h:=Un.kept λ_ _ q=>q
theorem Un.laid(k:∀b u,h.get? b=ax u->h'.get? b=ax u)(c:h.objs.size<=a)(hn:H a=cL):Un fs ex H (dg H a o) h h' where
 keep:=λb u q _ _ _=>k b u q
 slot:=λb u q _ _ _=>⟨u.slots,k b u q⟩
 free:=λb u q n _=>by rw[aM (RO (RM (dt q) c))];exact n
 there:=λb u q _=>⟨u,k b u q⟩
 Y1:=λb xs q=>by rw[aM (dQ q hn)];exact q
 YN:=λb u xs q=>by rw[aM (dQ q hn)];exact q
 Y3:=λb ps q=>⟨#[],by rw[aM (dQ q hn),q];simp⟩
theorem Un.write(d:OU (H x))(l:e=x\/H e=ax (.own x))(k:∀b u,b≠e->h.get? b=ax u->h'.get? b=ax u)(f:∃u,h'.get? e=ax u):Un fs ex H (dg H x o) h h':=by
 have g:∀b,H b=cL->b≠x:=λb n z=>by subst z;rw[n]at d;exact d
 have i:∀b,H b=cL->b≠e:=λb n z=>by
  subst z;rcases l with r|r
  .exact g b n r
  .rw[n]at r;cases r
 have hm:∀b u,H b=ax u->¬OU (ax u)->b≠x:=λb u q j z=>by subst z;rw[q]at d;exact j d
 refine⟨λb u q n _ _=>k b u (i b n) q,λb u q n _ _=>⟨u.slots,k b u (i b n) q⟩,λb u q n _=>by rw[aM (g b n)];exact n,λb u q _=>?_,
  λb xs q=>by rw[aM (hm b _ q λz=>z)];exact q,λb u xs q=>by rw[aM (hm b _ q λz=>z)];exact q,λb ps q=>⟨#[],by rw[aM (hm b _ q λz=>z),q];simp⟩⟩
 by_cases c:b=e
 .subst c;exact f
 .exact⟨u,k b u c q⟩
end
def OT(h:Heap)(H:Hp):cM Rq:=(Sb h.objs.size).filter λa=>(H a).isSome
def xJ(h:Heap)(H:Hp):Heap:=PySem.W.hideAll h (OT h H)
theorem Dh(h:Heap)(H:Hp):(xJ h H).objs.size=h.objs.size:=PySem.W.hideAll_size _ _
theorem D9(e:h.get? b=ax o)(n:H b=cL):(xJ h H).get? b=ax o:=
 PySem.W.hideAll_get _ e λhm=>by have q:=(Uw.mp hm).2;rw[n]at q;simp at q
theorem IJ(e:(xJ h H).get? b=ax o):h.get? b=ax o/\H b=cL:=by
 have a:=PySem.W.of_hideAll (OT h H) e;refine⟨a,?_⟩;cases q:H b with
 |none=>rfl
 |some x=>have hm:b∈OT h H:=Uw.mpr ⟨Sf.mpr (dt a),by simp[q]⟩;have z:(xJ h H).get? b=cL:=PySem.W.hideAll_none (OT h H) hm;rw[z]at e;cases e
structure Mod(K:td)(mg:Str->c5 Rf)(base:Heap):Prop where
 kin:K.In base
 glob:base.Ns RD mg
 blt:∃mb,base.Ns builtinsNs mb/\∀x:Str,x≠ "__name__"->mb x=SS x
 nolimit:base.NoLimit
structure Cx where
 prog:RT
 w:SG
 K:td
 mg:Str->c5 Rf
 base:Heap
 A:Sk
 N:cM Str
 s₀:Ro
 H₀:Hp
 env:Env
 outer:cM Env
 stack:cM Env
 ex:cM Rq
 fn:Str->Bool
 calm:Bool
 pn:cM (Rq×Obj)
 xe:Rf->Ro->Prop
def yP(l:cM Env):cM Rq:=l.filterMap (·.frame)
abbrev Cx.fs(X:Cx):cM Rq:=yP X.outer
def PD(sc:VI)(x:Str):Prop:=sc.names.lookup x=ax .local\/sc.names.lookup x=ax .cell\/sc.names.lookup x=ax .free
def O0(sc:VI)(x:Str):Prop:=sc.names.lookup x=ax .local\/sc.names.lookup x=ax .cell
def Qb(env:Env)(h:Heap)(m:Str->c5 Rf)(x:Str)(u:Rf):Prop:=
 (env.kindOf x=ax .local/\m x=ax u)\/((env.kindOf x=ax .cell\/env.kindOf x=ax .free)/\∃c,env.cells.lookup x=ax c/\h.IsCell c (ax u))
structure Cx.Ok(X:Cx):Prop where
 mod:Mod X.K X.mg X.base
 kind:X.env.scope.kind=.function
 glob:X.env.globals=RD
 blt:X.env.builtins=builtinsNs
 above:X.s₀.heap.objs.size<=X.env.locals
 inj:∀x y c,X.env.cells.lookup x=ax c->X.env.cells.lookup y=ax c->x=y
 has:∀x,(X.env.kindOf x=ax .cell\/X.env.kindOf x=ax .free)->∃c,X.env.cells.lookup x=ax c
 cab:∀x c,X.fn x=OK->X.env.cells.lookup x=ax c->X.s₀.heap.objs.size<=c
 hd:X.calm=OK->X.A.handled=cL
 frames:X.A.frames=ax X.stack
 stk:X.stack=X.outer\/(X.stack=X.env::X.outer/\X.env.frame=ax X.env.locals)
 exf:∀b∈X.ex,b≠X.env.locals/\∀x c,X.env.cells.lookup x=ax c->c≠b
 bs:∀b o,X.base.get? b=ax o->X.s₀.heap.get? b=ax o/\X.H₀ b=cL
 bsz:X.base.objs.size<=X.s₀.heap.objs.size
 aaN:∀b o,X.base.get? b=ax o->b∉X.ex
 aaO:∀b∈X.ex,b∉X.fs
 XX:X.s₀.heap.FunFrames X.base X.outer
 frf:∀b∈X.fs,X.H₀ b=cL
structure Inv(X:Cx)(pins:cM (Rq×Obj))(σ:cM (c5 V))(H:Hp)(s:Ro):Prop where
 ok:X.Ok
 os:s.os=X.s₀.os
 bare:AllBare s.gens
 base:Un X.fs X.ex X.H₀ H X.s₀.heap s.heap
 loc:∃m,s.heap.Ns X.env.locals m/\∀(i:Nat) (x:Str) (v:V),X.N[i]?=ax x->σ[i]?=ax (ax v)->PD X.env.scope x->∃u,RelV v u/\Qb X.env s.heap m x u
 cell:∀x c,X.env.cells.lookup x=ax c->∃v,s.heap.IsCell c v
 free:H X.env.locals=cL
 VG:∀x c,X.env.cells.lookup x=ax c->H c=cL
 pin:∀p∈X.pn++pins,s.heap.get? p.1=ax p.2/\H p.1=cL/\p.1≠X.env.locals/\p.1∉X.fs/\∀v,p.2.data≠.cell v
 TL:YF X.prog X.w H s.heap
 len:σ.length=X.N.length
section
variable{X:Cx}{Z:cM (Rq×Obj)}{Y:cM (c5 V)}{H H':Hp}{s:Ro}{h':Heap}
theorem Cx.Ok.akU(ok:X.Ok)(e:X.base.get? b=ax o):b∉X.fs:=λa=>by have:=(ok.XX.mem a).1;rw[e]at this;cases this
theorem Inv.bs(I:Inv X Z Y H s):∀b o,X.base.get? b=ax o->s.heap.get? b=ax o/\H b=cL:=λb o e=>
 ⟨I.base.keep b o (I.ok.bs b o e).1 (I.ok.bs b o e).2 (I.ok.akU e) (I.ok.aaN b o e),I.base.free b o (I.ok.bs b o e).1 (I.ok.bs b o e).2 (I.ok.aaN b o e)⟩
theorem Inv.bk(I:Inv X Z Y H s):∀b o,X.base.get? b=ax o->s.heap.get? b=ax o:=λb o e=>(I.bs b o e).1
theorem Inv.mod(I:Inv X Z Y H s):Mod X.K X.mg X.base:=I.ok.mod
theorem Inv.YE(I:Inv X Z Y H s):X.K.In s.heap:=I.ok.mod.kin.keeps I.bk
theorem Inv.lt(I:Inv X Z Y H s):X.env.locals<s.heap.objs.size:=let⟨_,hn,_⟩:=I.loc;hn.lt
theorem Inv.sz(I:Inv X Z Y H s):X.s₀.heap.objs.size<=s.heap.objs.size:=SH I.ok.above (Vx I.lt)
theorem Inv.ag5(I:Inv X Z Y H s)(h:s.heap.objs.size<=a):a∉X.fs:=λc=>by obtain⟨_,o,b,_⟩:=I.ok.XX.mem c;exact a7 (RM (dt b) (SH I.sz h)) (T5 _)
theorem Inv.cne(I:Inv X Z Y H s):∀x c,X.env.cells.lookup x=ax c->c≠X.env.locals:=λx c e z=>by obtain⟨v,o,b,d⟩:=I.cell x c e;obtain⟨m,⟨g,h,i,a,f,_⟩,_⟩:=I.loc;rw[z,a]at b;cases b;rw[f]at d;cases d
theorem Inv.XX(I:Inv X Z Y H s):s.heap.FunFrames X.base X.outer:=by
 have all:∀(l:cM Env),(∀b∈yP l,b∈X.fs)->X.s₀.heap.FunFrames X.base l->s.heap.FunFrames X.base l:=by
  intro l
  induction l with
  |nil=>intro _ _;trivial
  |cons n r g=>intro f j;obtain⟨k,⟨L,o,a,hn,i,m⟩,h⟩:=j;have d:=f L (by unfold yP;rw[X8,a];exact Ri);obtain⟨p,e⟩:=I.base.slot L o i (I.ok.frf L d) d λz=>I.ok.aaO L z d;exact⟨k,⟨L,_,a,hn,e,m⟩,g (λb c=>f b (by unfold yP;rw[X8,a];exact Rm _ c)) h⟩
 exact all X.outer (λ_ c=>c) I.ok.XX
theorem Inv.stack(I:Inv X Z Y H s):s.heap.FunFrames X.base X.stack:=by
 rcases I.ok.stk with e|⟨e,hf⟩
 .rw[e];exact I.XX
 .rw[e];obtain⟨m,hn,_⟩:=I.loc;refine .cons (by rw[I.ok.kind];decide) hf hn ?_ I.XX;exact ee (SH I.ok.bsz I.ok.above)
theorem Inv.YH(I:Inv X Z Y H s):∀b∈yP X.stack,b∈X.env.locals::X.fs:=λb a=>by
 rcases I.ok.stk with e|⟨e,hf⟩
 .rw[e]at a;exact Rm _ a
 .rw[e]at a;unfold yP at a;rw[X8,hf]at a;exact a
theorem Inv.Y7(I:Inv X Z Y H s):∀b∈yP X.stack,H b=cL:=λb a=>by
 rcases Rn.mp (I.YH b a)with e|a
 .rw[e];exact I.free
 .obtain⟨_,o,c,_⟩:=I.ok.XX.mem a;exact I.base.free b o c (I.ok.frf b a) λz=>I.ok.aaO b z a
theorem Inv.step{g':Array XF}{t':Nat}{d':acz}{ch:cM Rq}(I:Inv X Z Y H s)
  (g:∀b∈ch,(b∈X.ex\/X.s₀.heap.objs.size<=b)/\b≠X.env.locals/\(∀x c,X.env.cells.lookup x=ax c->c≠b)/\∀p∈X.pn++Z,p.1≠b)
  (keep:∀b o,b≠X.env.locals->b∉X.fs->b∉ch->s.heap.get? b=ax o->H b=cL->h'.get? b=ax o)
  (slot:∀b o,b≠X.env.locals->b∈X.fs->b∉ch->s.heap.get? b=ax o->H b=cL->∃sl,h'.get? b=ax {o with slots:=sl}) (free:∀b o,b∉ch->s.heap.get? b=ax o->H b=cL->H' b=cL)
  (there:∀b o,b∉ch->s.heap.get? b=ax o->∃o',h'.get? b=ax o')
  (Y1:∀b xs,H b=ax (.tup xs)->H' b=ax (.tup xs)) (YN:∀b o u,H b=ax (.frz o u)->H' b=ax (.frz o u)) (Y3:∀b ps,H b=ax (.tbl ps)->∃more,H' b=ax (.tbl (ps++more)))
  (ns:∀m,s.heap.Ns X.env.locals m->h'.Ns X.env.locals m) (TL:YF X.prog X.w H' h') (O:AllBare g'):
  Inv X Z Y H' {s with heap:=h',gens:=g',drawn:=d',toks:=t'}:=by
 have B:∀b o,X.s₀.heap.get? b=ax o->b≠X.env.locals:=λb o e=>RO (RM (dt e) I.ok.above);have j:∀b o,X.s₀.heap.get? b=ax o->b∉X.ex->b∉ch:=λb o e a y=>by
  rcases(g b y).1 with z|z
  .exact a z
  .exact a7 (RM (dt e) z) (T5 _)
 have h:∀x c,X.env.cells.lookup x=ax c->∀v,s.heap.IsCell c v->h'.IsCell c v:=λx c e v ⟨o,A,F⟩=>by
  have f:c∉ch:=λz=>(g c z).2.2.1 x c e rfl;by_cases K:c∈X.fs
  .obtain⟨sl,q⟩:=slot c o (I.cne x c e) K f A (I.VG x c e);exact⟨_,q,F⟩
  .exact⟨o,keep c o (I.cne x c e) K f A (I.VG x c e),F⟩
 refine⟨I.ok,I.os,O,⟨λb o e n y a=>?_,λb o e n y a=>?_,λb o e n a=>?_,λb o e a=>?_,λb xs e=>Y1 b xs (I.base.Y1 b xs e),λb o xs e=>YN b o xs (I.base.YN b o xs e),λb ps e=>?_⟩,?_,λx c e=>?_,?_,λx c e=>?_,λp J=>?_,TL,I.len⟩
 .exact keep b o (B b o e) y (j b o e a) (I.base.keep b o e n y a) (I.base.free b o e n a)
 .obtain⟨sl,t⟩:=I.base.slot b o e n y a;obtain⟨E,C⟩:=slot b _ (B b o e) y (j b o e a) t (I.base.free b o e n a);exact⟨E,C⟩
 .obtain⟨o',t⟩:=I.base.there b o e a;exact free b o' (j b o e a) t (I.base.free b o e n a)
 .obtain⟨o',t⟩:=I.base.there b o e a;exact there b o' (j b o e a) t
 .obtain⟨M,t⟩:=I.base.Y3 b ps e;obtain⟨L,C⟩:=Y3 b _ t;exact⟨M++L,by rw[C,Array.append_assoc]⟩
 .obtain⟨m,hn,N⟩:=I.loc
  refine⟨m,ns m hn,λi x v t C P=>?_⟩;obtain⟨u,r,l⟩:=N i x v t C P;refine⟨u,r,?_⟩;rcases l with l|⟨k,c,e,z⟩
  .exact .inl l
  .exact .inr ⟨k,c,e,h x c e _ z⟩
 .obtain⟨v,z⟩:=I.cell x c e;exact⟨v,h x c e v z⟩
 .obtain⟨m,⟨o,_,_,A,_⟩,_⟩:=I.loc;exact free _ o (λz=>(g _ z).2.1 rfl) A I.free
 .obtain⟨v,o,A,F⟩:=I.cell x c e;exact free c o (λz=>(g c z).2.2.1 x c e rfl) A (I.VG x c e)
 .obtain⟨e,n,ne,G,d⟩:=I.pin p J;have f:p.1∉ch:=λz=>(g p.1 z).2.2.2 p J rfl;exact⟨keep p.1 p.2 ne G f e n,free p.1 p.2 f e n,ne,G,d⟩
theorem Inv.un{t':Nat}(I:Inv X Z Y H s)(u:Un X.fs [] H H' s.heap h')(TL:YF X.prog X.w H' h'):Inv X Z Y H' {s with heap:=h',toks:=t'}:=by obtain⟨m,⟨o,p,q,g,r⟩,_⟩:=id I.loc;obtain⟨j,i⟩:=u.any g I.free (by simp);exact I.step (g':=s.gens) (d':=s.drawn) (ch:=[]) (λ_ z=>nomatch z) (λb o _ c _ e n=>u.keep b o e n c (by simp)) (λb o _ c _ e n=>u.slot b o e n c (by simp)) (λb o _ e n=>u.free b o e n (by simp)) (λb o _ e=>u.there b o e (by simp)) u.Y1 u.YN u.Y3 (λl hm=>by obtain⟨k,d,f,a,h⟩:=hm;rw[g]at a;cases a;exact⟨_,d,f,i,h⟩) TL I.bare
theorem Inv.call{g':Array XF}{t':Nat}{d':acz}{ch:cM Rq}(I:Inv X Z Y H s)(u:Un (yP X.stack) ch H H' s.heap h')(TL:YF X.prog X.w H' h')(l:AllBare g')
  (f:∀b∈ch,(b∈X.ex\/X.s₀.heap.objs.size<=b)/\b≠X.env.locals/\(∀x c,X.env.cells.lookup x=ax c->c≠b)/\∀p∈X.pn++Z,p.1≠b):
  Inv X Z Y H' {s with heap:=h',gens:=g',drawn:=d',toks:=t'}:=by
 obtain⟨m,⟨o,A,B,j,r⟩,_⟩:=id I.loc;obtain⟨t,g⟩:=u.any j I.free λz=>(f _ z).2.1 rfl;exact I.step (ch:=ch) f (λb o g q a e n=>u.keep b o e n (λz=>(Rn.mp (I.YH b z)).elim g q) a) (λb o _ _ a e n=>u.any e n a) (λb o a e n=>u.free b o e n a) (λb o a e=>u.there b o e a) u.Y1 u.YN u.Y3 (λy hm=>by obtain⟨v,h,i,d,k⟩:=hm;rw[j]at d;cases d;exact⟨_,h,i,g,k⟩) TL l
theorem Inv.turned{t':Nat}{it:Rq}(I:Inv X Z Y H s)(k:∀b o,b≠it->s.heap.get? b=ax o->h'.get? b=ax o)(hn:H it=cL)(f:it≠X.env.locals)
  (l:it∈X.ex\/X.s₀.heap.objs.size<=it) (j:∀x c,X.env.cells.lookup x=ax c->c≠it) (i:∀p∈X.pn++Z,p.1≠it):Inv X Z Y H {s with heap:=h',toks:=t'}:=by
 have d:∀b u,H b=ax u->b≠it:=λb u e z=>by rw[z,hn]at e;cases e
 refine I.step (g':=s.gens) (d':=s.drawn) (ch:=[it]) (λb h=>?_) (λb o _ _ a e _=>k b o (λz=>a (by simp[z])) e) (λb o _ _ a e _=>⟨o.slots,k b o (λz=>a (by simp[z])) e⟩) (λ_ _ _ _ n=>n)
  (λb o a e=>⟨o,k b o (λz=>a (by simp[z])) e⟩) (λ_ _ e=>e) (λ_ _ _ e=>e) (λb ps e=>⟨#[],by rw[e];simp⟩) (λm hm=>?_) (λb u e=>?_) I.bare
 .have e:b=it:=by simpa using h
  subst e;exact⟨l,f,j,i⟩
 .obtain⟨o,t,w,g,r⟩:=hm;exact⟨o,t,w,k _ o (et f) g,r⟩
 .refine(I.TL b u e).WV (λc v a q=>k c v ?_ q) (λ_ q=>q) λ_ _ q=>q
  rcases a with z|z
  .rw[z];exact d b u e
  .exact d c _ z
theorem Inv.tok(I:Inv X Z Y H s)(t:Nat):Inv X Z Y H {s with toks:=t}:=I.un Un.refl I.TL
theorem Inv.kept{t':Nat}(I:Inv X Z Y H s)(k:∀b u,s.heap.get? b=ax u->h'.get? b=ax u):Inv X Z Y H {s with heap:=h',toks:=t'}:=I.un (Un.kept k) (I.TL.kept k)
theorem Inv.laid{a:Rq}{o:HO}{t':Nat}(I:Inv X Z Y H s)(k:∀b u,s.heap.get? b=ax u->h'.get? b=ax u)(c:s.heap.objs.size<=a)(new:UE X.prog X.w (dg H a o) h' a o):
  Inv X Z Y (dg H a o) {s with heap:=h',toks:=t'}:=I.un (Un.laid k c (I.TL.fresh c)) (I.TL.laid k c new)
theorem Inv.write{x e:Rq}{o:HO}{t':Nat}(I:Inv X Z Y H s)(c:OU (H x))(d:e=x\/H e=ax (.own x))(k:∀b u,b≠e->s.heap.get? b=ax u->h'.get? b=ax u)(a:∃u,h'.get? e=ax u)
  (new:UE X.prog X.w (dg H x o) h' x o):Inv X Z Y (dg H x o) {s with heap:=h',toks:=t'}:=I.un (Un.write c d k a) (I.TL.write c d k a new)
theorem Inv.Yl(I:Inv X Z Y H s)(h:∀p∈ahb,s.heap.get? p.1=ax p.2/\H p.1=cL/\p.1≠X.env.locals/\p.1∉X.fs/\∀v,p.2.data≠.cell v):Inv X ahb Y H s:=
 ⟨I.ok,I.os,I.bare,I.base,I.loc,I.cell,I.free,I.VG,λp a=>(Sv.mp a).elim (λz=>I.pin p (T6 _ z)) (h p),I.TL,I.len⟩
theorem uC{N:cM Str}(c:N.Nodup){i j:Nat}(a:N[i]?=ax x)(b:N[j]?=ax x):i=j:=by obtain⟨g,e⟩:=Rp.mp a;obtain⟨f,d⟩:=Rp.mp b;exact(List.getElem_inj c).mp (e.trans d.symm)
theorem vT{M:aaw}{A:Sk}{E:Rf->Ro->Prop}{i:Nat}{x:Str}{v:V}{u:Rf}{Q:Unit->Ro->Prop}(I:Inv X Z Y H s)(hN:X.N.Nodup)(hi:X.N[i]?=ax x)(hx:O0 X.env.scope x)(r:RelV v u)
  (h:∀s',Inv X Z (Y.set i (ax v)) H s'->(∃a,Heap.SameBut a s.heap s'.heap/\(a=X.env.locals\/X.env.cells.lookup x=ax a))->Q () s') (hf:X.fn x=OK\/X.env.scope.names.lookup x=ax .local:=by first|exact .inl rfl|exact .inr rfl|assumption):wpAny M A (storeName X.env x u) Q E s:=by
 obtain⟨m,hn,hl⟩:=id I.loc;have afa:(X.env.scope.kind==.class||(X.env.scope.kind==.module&&X.env.locals !=X.env.globals))=Rh:=by rw[I.ok.kind];rfl
 have hiσ:i<Y.length:=by rw[I.len];exact(Rp.mp hi).1
 have cne:=I.cne;have tracked:∀{a:Rq} {h':Heap},(∃o,s.heap.get? a=ax o/\H a=cL)->Heap.SameBut a s.heap h'->YF X.prog X.w H h':=λ{a h'} ha hs b ob e=>by
  obtain⟨_,_,aep⟩:=ha;refine(I.TL b ob e).WV (λc w' hc q=>(hs.2 c ?_).trans q) (λ_ q=>q) λ_ _ q=>q;rintro rfl;rcases hc with rfl|hc
  .rw[aep]at e;cases e
  .rw[aep]at hc;cases hc
 rcases hx with hk|hk
 .refine wpAny_storeName_local hk hn (λh' hn' hs=>?_) afa
  obtain⟨oL,_,_,hoL,_⟩:=id hn;refine h _ ⟨I.ok,I.os,I.bare,⟨λb o e n hb hx=>?_,λb o e n hb hx=>?_,I.base.free,λb o e hx=>?_,I.base.Y1,I.base.YN,I.base.Y3⟩,⟨_,hn',λj y v' e1 e2 e3=>?_⟩,λy c e=>?_,I.free,I.VG,λp hp=>?_,tracked ⟨oL,hoL,I.free⟩ hs,by simpa using I.len⟩ ⟨_,hs,.inl rfl⟩
  .exact(hs.2 b (RO (RM (dt e) I.ok.above))).trans (I.base.keep b o e n hb hx)
  .obtain⟨sl,e1⟩:=I.base.slot b o e n hb hx;exact⟨sl,(hs.2 b (RO (RM (dt e) I.ok.above))).trans e1⟩
  .obtain⟨o',e1⟩:=I.base.there b o e hx;exact⟨o',(hs.2 b (RO (RM (dt e) I.ok.above))).trans e1⟩
  .by_cases hj:j=i
   .subst hj;rw[hi]at e1;cases e1;rw[Xb hiσ]at e2;cases e2;exact⟨u,r,.inl ⟨hk,by simp⟩⟩
   .rw[XI (et hj)]at e2
    obtain⟨u',r',q⟩:=hl j y v' e1 e2 e3;refine⟨u',r',?_⟩;rcases q with⟨k,e⟩|⟨k,c,e,z⟩
    .refine .inl ⟨k,?_⟩;have:y≠x:=λe=>hj (uC hN e1 (e▸hi));simp[this,e]
    .exact .inr ⟨k,c,e,z.sameBut hs (cne y c e)⟩
  .obtain⟨w',z⟩:=I.cell y c e;exact⟨w',z.sameBut hs (cne y c e)⟩
  .obtain⟨e,n,ne,nf,d⟩:=I.pin p hp;exact⟨(hs.2 p.1 ne).trans e,n,ne,nf,d⟩
 .have hfn:X.fn x=OK:=by
   rcases hf with z|z
   .exact z
   .rw[z]at hk;cases hk
  obtain⟨c,hc⟩:=I.ok.has x (.inl hk);obtain⟨w',z⟩:=I.cell x c hc;refine wpAny_storeName_cell I.ok.kind hk hc z (λh' hc' hs=>?_);obtain⟨oc,hoc,akO⟩:=id z;refine h {s with heap:=h'} ⟨I.ok,I.os,I.bare,⟨λb o e n hb hx=>?_,λb o e n hb hx=>?_,I.base.free,λb o e hx=>?_,I.base.Y1,I.base.YN,I.base.Y3⟩,⟨m,hn.sameBut hs (et (cne x c hc)),λj y v' e1 e2 e3=>?_⟩,λy c' e=>?_,I.free,I.VG,λp hp=>?_,tracked ⟨oc,hoc,I.VG x c hc⟩ hs,by simpa using I.len⟩ ⟨c,hs,.inr hc⟩
  .exact(hs.2 b (RO (RM (dt e) (I.ok.cab x c hfn hc)))).trans (I.base.keep b o e n hb hx)
  .obtain⟨sl,e1⟩:=I.base.slot b o e n hb hx;exact⟨sl,(hs.2 b (RO (RM (dt e) (I.ok.cab x c hfn hc)))).trans e1⟩
  .obtain⟨o',e1⟩:=I.base.there b o e hx;exact⟨o',(hs.2 b (RO (RM (dt e) (I.ok.cab x c hfn hc)))).trans e1⟩
  .by_cases hj:j=i
   .subst hj;rw[hi]at e1;cases e1;rw[Xb hiσ]at e2;cases e2;exact⟨u,r,.inr ⟨.inl hk,c,hc,hc'⟩⟩
   .rw[XI (et hj)]at e2
    obtain⟨u',r',q⟩:=hl j y v' e1 e2 e3;refine⟨u',r',?_⟩;rcases q with q|⟨k,c',e,z'⟩
    .exact .inl q
    .refine .inr ⟨k,c',e,z'.sameBut hs ?_⟩;rintro rfl;exact hj (uC hN e1 (I.ok.inj _ _ _ e hc▸hi))
  .by_cases hcc:c'=c
   .subst hcc;exact⟨_,hc'⟩
   .obtain⟨w2,z2⟩:=I.cell y c' e;exact⟨w2,z2.sameBut hs hcc⟩
  .obtain⟨e,n,ne,nf,d⟩:=I.pin p hp;refine⟨(hs.2 p.1 ?_).trans e,n,ne,nf,d⟩;intro q;rw[q,hoc]at e;have q':oc=p.2:=R9 e;exact d w' (by rw[<-q'];exact akO)
theorem tS{i:Nat}{v:V}{u:Rf}{Q:Unit->Ro->Prop}(I:Inv X Z Y H s)(hN:X.N.Nodup)(hi:X.N[i]?=ax x)(hx:O0 X.env.scope x)(r:RelV v u)
  (h:∀s',Inv X Z (Y.set i (ax v)) H s'->Q () s') (hf:X.fn x=OK\/X.env.scope.names.lookup x=ax .local:=by first|exact .inl rfl|exact .inr rfl|assumption):wpAny M A (storeName X.env x u) Q E s:=
 vT I hN hi hx r (λs' I' _=>h s' I') hf
theorem Inv.adg{a:Ro}{ch:cM Rq}(I:Inv X Z Y H s)(g:a.os=s.os)(u:Un (yP X.stack) ch H H' s.heap a.heap)(TL:YF X.prog X.w H' a.heap)(h:AllBare a.gens)
  (d:∀b∈ch,(b∈X.ex\/X.s₀.heap.objs.size<=b)/\b≠X.env.locals/\(∀x c,X.env.cells.lookup x=ax c->c≠b)/\∀p∈X.pn++Z,p.1≠b):Inv X Z Y H' a:=by
 obtain⟨h',g',d',t',f⟩:=a;have e:f=s.os:=g;subst e;exact I.call (g':=g') (t':=t') (d':=d') u TL h d
end
abbrev XK:=Rf->c5 Rq->Hp->Prop
abbrev St:=cM (c5 V)
abbrev VK:=V->Hp->Prop
abbrev TE:=St->Hp->VK->Prop
abbrev TT:=St->Hp->(Bool->Hp->Prop)->Prop
abbrev TA:=St->Hp->(cM V->Hp->Prop)->Prop
structure Ends where
 nx:St->Hp->Prop
 rt:VK
 bk:St->Hp->Prop:=λ_ _=>False
 ct:St->Hp->Prop:=λ_ _=>False
abbrev TS:=Ends->St->Hp->Prop
def EP(X:Cx)(a:cM (Rq×Obj))(b:St)(Q:VK)(u:Rf)(c:Ro):Prop:=∃v H',Inv X a b H' c/\RelV v u/\Q v H'
def TP(X:Cx)(a:cM (Rq×Obj))(c:St)(Q:Bool->Hp->Prop)(b:Bool)(d:Ro):Prop:=∃H',Inv X a c H' d/\Q b H'
def AP(X:Cx)(a:cM (Rq×Obj))(b:St)(Q:cM V->Hp->Prop)(c:cM Rf)(d:Ro):Prop:=∃vs H',Inv X a b H' d/\Vals vs c/\Q vs H'
def SP(X:Cx)(a:cM (Rq×Obj))(D:Ends)(f:Flow)(b:Ro):Prop:=
 match f with
 |.next=>∃σ' H',Inv X a σ' H' b/\D.nx σ' H'
 |.brk=>∃σ' H',Inv X a σ' H' b/\D.bk σ' H'
 |.cont=>∃σ' H',Inv X a σ' H' b/\D.ct σ' H'
 |.ret u=>∃v σ' H',Inv X a σ' H' b/\RelV v u/\D.rt v H'
def PE(X:Cx)(e:SI)(t:TE):Prop:=
 ∀(a:cM (Rq×Obj)) (s:Ro) (b:St) (H:Hp) (Q:VK),Inv X a b H s->t b H Q->wpAny (model X.prog X.w) X.A (eval e X.env) (EP X a b Q) X.xe s
def PT(X:Cx)(e:SI)(t:TT):Prop:=
 ∀(a:cM (Rq×Obj)) (s:Ro) (b:St) (H:Hp) (Q:Bool->Hp->Prop),Inv X a b H s->t b H Q->wpAny (model X.prog X.w) X.A (isTrue e X.env (eval e X.env)) (TP X a b Q) X.xe s
def PW(X:Cx)(e:SI)(t:TT):Prop:=
 ∀(b:Sem Rf) (a:cM (Rq×Obj)) (s:Ro) (c:St) (H:Hp) (Q:Bool->Hp->Prop),Inv X a c H s->t c H Q->wpAny (model X.prog X.w) X.A (isTrue e X.env b) (TP X a c Q) X.xe s
theorem PW.pt(h:PW X e t):PT X e t:=h _
def PA(X:Cx)(es:cM SI)(t:TA):Prop:=
 ∀(c:Pos) (a:cM (Rq×Obj)) (s:Ro) (b:St) (H:Hp) (Q:cM V->Hp->Prop),Inv X a b H s->t b H Q->wpAny (model X.prog X.w) X.A (spliced (backTo c (R0 es X.env))) (AP X a b Q) X.xe s
def PS(X:Cx)(st:Tq)(t:TS):Prop:=
 ∀(a:cM (Rq×Obj)) (s:Ro) (b:St) (H:Hp) (D:Ends),Inv X a b H s->t D b H->wpAny (model X.prog X.w) X.A (exec st X.env) (SP X a D) X.xe s
def ZJ(X:Cx)(st:cM Tq)(t:TS):Prop:=
 ∀(a:cM (Rq×Obj)) (s:Ro) (b:St) (H:Hp) (D:Ends),Inv X a b H s->t D b H->wpAny (model X.prog X.w) X.A (execs st X.env) (SP X a D) X.xe s
theorem fR{α:Type}{t:Sem α}{Q b:α->Ro->Prop}{M:aaw}{A:Sk}{E:Rf->Ro->Prop}{s:Ro}(h:wpAny M A t Q E s)(c:∀a s,Q a s->b a s):wpAny M A t b E s:=wpAny_mono h c λ_ _ x=>x
section
variable{X:Cx}
def sE(i:Nat):TE:=λa H Q=>∃v,a[i]?=ax (ax v)/\Q v H
def tC(v:V):TE:=λ_ H Q=>Q v H
theorem KG(p:X.N[i]?=ax x)(n:PD X.env.scope x)(hd:(x==("__debug__":Str))=Rh:=by decide)(g:(x==("__classdict__":Str))=Rh:=by decide):PE X (.Name x pos) (sE i):=by
 intro d s k H Q I h;obtain⟨v,e,h⟩:=h;obtain⟨m,hn,o⟩:=I.loc;obtain⟨u,r,l⟩:=o i x v p e n;have b:EP X d k Q u s:=⟨v,H,I,r,h⟩;rcases l with⟨a,hm⟩|⟨a,c,j,f⟩
 .exact aev (wpAny_loadName_local I.ok.kind a hn hm b) hd
 .rcases a with a|a
  .exact aev (wpAny_loadName_cell I.ok.kind a j f b) hd
  .exact aev (wpAny_loadName_free I.ok.kind a j f b g) hd
theorem ao{i j pos}:PE X (.Constant (.int i) j pos) (tC (.int i)):=λ_ _ _ H _ I h=>aew ⟨.int i,H,I.tok _,⟨_,rfl⟩,h⟩
theorem uy{b j pos}:PE X (.Constant (.bool b) j pos) (tC (.bl b)):=λ_ _ _ H _ I h=>Constant_bool ⟨.bl b,H,I,rfl,h⟩
theorem cy{j pos}:PE X (.Constant .none j pos) (tC .Uo):=λ_ _ _ H _ I h=>Constant_none ⟨.Uo,H,I,rfl,h⟩
theorem aL{x j pos}:PE X (.Constant (.str x) j pos) (tC (.str x)):=λ_ _ _ H _ I h=>Calls.Constant_str ⟨.str x,H,I.tok _,⟨_,rfl⟩,h⟩
def Gl(X:Cx)(x:Str):Prop:=X.env.kindOf x=ax .globalImplicit
theorem qQ(I:Inv X pins σ H s)(a:Gl X x)(hm:X.mg x=ax u)(h:Q u s)
  (hd:(x==("__debug__":Str))=Rh:=by decide):wpAny (model X.prog X.w) X.A (eval (.Name x pos) X.env) Q E s:=
 Calls.Name_function_global I.ok.kind a (Calls.loadGlobal_global (by rw[I.ok.glob];exact I.mod.glob.keeps I.bk) hm h) hd
theorem pQ(I:Inv X pins σ H s)(b:Gl X x)(hm:X.mg x=cL)(a:SS x=ax u)(h:Q u s)
  (hn:x≠ "__name__":=by decide) (hd:(x==("__debug__":Str))=Rh:=by decide):wpAny (model X.prog X.w) X.A (eval (.Name x pos) X.env) Q E s:=by
 obtain⟨e,d,c⟩:=I.mod.blt;exact Calls.Name_function_global I.ok.kind b (Calls.loadGlobal_builtin (by rw[I.ok.glob];exact I.mod.glob.keeps I.bk) hm (by rw[I.ok.blt];exact d.keeps I.bk) ((c x hn).trans a) h) hd
theorem fG{x:Str}{v:V}{u:Rf}{a:Pos}(b:Gl X x)(hm:X.mg x=ax u)(r:RelV v u)(hd:(x==("__debug__":Str))=Rh:=by decide):PE X (.Name x a) (tC v):=
 λ_ _ _ H _ I h=>qQ I b hm ⟨v,H,I,r,h⟩ hd
theorem dB(b:Gl X x)(hm:X.mg x=cL)(a:SS x=ax u)(r:RelV v u)(hn:x≠ "__name__":=by decide)(hd:(x==("__debug__":Str))=Rh:=by decide):PE X (.Name x pos) (tC v):=
 λ_ _ _ H _ I h=>pQ I b hm a ⟨v,H,I,r,h⟩ hn hd
variable{a b:SI}{Y U:TE}{Z:Pos}
def tB(t:TE):TT:=λd H Q=>t d H λx e=>∃c,x=.bl c/\Q c e
theorem df{e:SI}{t:TE}(h:PE X e t)(k:∀whole,isTrue e X.env whole=(do let v<-whole;standAt e.pos;holding [v] (truthy v)):=by intro _;rfl):PT X e (tB t):=by intro c s f H Q I j;refine isTrue_plain (fR (h c s f H _ I j) λv n ⟨x,m,l,g,i⟩=>?_) (k _);obtain⟨d,rfl,q⟩:=i;cases g;exact TU ⟨m,l,q⟩
variable{S R:TT}{T:cM SI}
def MG(t u:TT):TT:=λd H Q=>t d H λc e=>if c=OK then u d e Q else Q Rh e
def Pe(t u:TT):TT:=λd H Q=>t d H λc e=>if c=OK then Q OK e else u d e Q
def Kc(t:TT):TT:=λd H Q=>t d H λc e=>Q (!c) e
theorem gZ(ha:PT X a S):PW X (.BoolOp .And [a] Z) S:=by
 intro g d s f H Q I h;refine isTrue_and (fR (ha d s f H Q I h) λc i e=>?_);cases c with
 |true=>exact isTrue_and_nil e
 |false=>exact e
theorem jW(ha:PT X a S):PW X (.BoolOp .Or [a] Z) S:=by
 intro g d s f H Q I h;refine isTrue_or (fR (ha d s f H Q I h) λc i e=>?_);cases c with
 |false=>exact isTrue_or_nil e
 |true=>exact e
theorem iS(ha:PT X a S)(l:PW X (.BoolOp .And (b::T) Z) R):PW X (.BoolOp .And (a::b::T) Z) (MG S R):=by
 intro j d s e H Q I h;refine isTrue_and (fR (ha d s e H _ I h) λc k ⟨i,g,f⟩=>?_);cases c with
 |true=>exact l j d k e i Q g f
 |false=>exact⟨i,g,f⟩
theorem i7(ha:PT X a S)(l:PW X (.BoolOp .Or (b::T) Z) R):PW X (.BoolOp .Or (a::b::T) Z) (Pe S R):=by
 intro j d s e H Q I h;refine isTrue_or (fR (ha d s e H _ I h) λc k ⟨i,g,f⟩=>?_);cases c with
 |true=>exact⟨i,g,f⟩
 |false=>exact l j d k e i Q g f
theorem iu(ha:PT X a S):PT X (.UnaryOp .Not a Z) (Kc S):=by intro d s e H Q I h;exact isTrue_not (ha d s e H (λc f=>Q (!c) f) I h)
def IV(Y U:TE):TE:=λd H Q=>Y d H λx e=>∃c,x=.bl c/\if c=OK then U d e Q else Q (.bl Rh) e
def OI(Y U:TE):TE:=λd H Q=>Y d H λx e=>∃c,x=.bl c/\if c=OK then Q (.bl OK) e else U d e Q
def Jz(Y:TE):TE:=λd H Q=>Y d H λx e=>∃c,x=.bl c/\Q (.bl (!c)) e
theorem fZ{op}(h:PE X a t):PE X (.BoolOp op [a] Z) t:=λc s d H Q I e=>BoolOp_one (h c s d H Q I e)
theorem fY(ha:PE X a Y)(l:PE X (.BoolOp .And (b::T) Z) U):PE X (.BoolOp .And (a::b::T) Z) (IV Y U):=by
 intro d s f H Q I h;refine BoolOp_and (fR (ha d s f H _ I h) λv j ⟨x,i,g,k,e⟩=>?_);obtain⟨c,rfl,e⟩:=e;cases k;refine TU ?_;cases c with
 |true=>exact l d j f i Q g e
 |false=>exact⟨.bl Rh,i,g,rfl,e⟩
theorem Ov(ha:PE X a Y)(l:PE X (.BoolOp .Or (b::T) Z) U):PE X (.BoolOp .Or (a::b::T) Z) (OI Y U):=by
 intro d s f H Q I h;refine BoolOp_or (fR (ha d s f H _ I h) λv j ⟨x,i,g,k,e⟩=>?_);obtain⟨c,rfl,e⟩:=e;cases k;refine TU ?_;cases c with
 |false=>exact l d j f i Q g e
 |true=>exact⟨.bl OK,i,g,rfl,e⟩
theorem E5(ha:PE X a Y):PE X (.UnaryOp .Not a Z) (Jz Y):=by intro d s f H Q I h;refine UnaryOp_ (fR (ha d s f H _ I h) λv k ⟨x,j,i,g,e⟩=>?_);obtain⟨c,rfl,e⟩:=e;cases g;exact not_of (TU ⟨.bl (!c),j,i,rfl,e⟩)
def Q4(t:TT)(Y U:TE):TE:=λd H Q=>t d H λc e=>if c=OK then Y d e Q else U d e Q
end
def Wh(K:td)(H:Hp)(a:Rq)(xs:cM V):Prop:=
 Rd H a (.lst xs)\/
  ∃(o:Obj) (b:Array Rf) (n:Nat),K.lookup a=ax o/\o.cls=.type "list"/\o.dict=cL/\o.data=.seq b n/\b.size<=RL/\Vals xs b.toList
def We(K:td)(H:Hp)(a:Rq)(xs:cM V):Prop:=
 Rd H a (.tup xs)\/
  ∃(o:Obj) (b:Array Rf) (n:Nat),K.lookup a=ax o/\(o.cls=.type "tuple"/\o.dict=cL)/\o.data=.seq b n/\b.size<=RL/\Vals xs b.toList
def Pr:Rf->c5 V
 |.none=>ax .Uo
 |.bool b=>ax (.bl b)
 |.int i _=>ax (.int i)
 |.str x _=>ax (.str x)
 |.bytes b _=>ax (.byt b)
 |.float b _=>ax (.flt b)
 |.ref a=>ax (.ref a)
 |.type n=>ax (.ty n)
 |_=>cL
theorem RelV.abs(r:RelV x u):Pr u=ax x:=by
 cases x with
 |Uo=>cases r;rfl
 |bl _=>cases r;rfl
 |int _=>obtain⟨t,rfl⟩:=r;rfl
 |str _=>obtain⟨t,rfl⟩:=r;rfl
 |byt _=>obtain⟨t,rfl⟩:=r;rfl
 |flt _=>obtain⟨t,rfl⟩:=r;rfl
 |ref _=>cases r;rfl
 |ty _=>cases r;rfl
theorem RelV.inj(r:RelV x u)(q:RelV y u):x=y:=R9 (r.abs.symm.trans q.abs)
theorem Vals.inj:∀{xs a:cM V} {b:cM Rf},Vals xs b->Vals a b->xs=a
 |_,_,_,.nil,.nil=>rfl
 |_,_,_,.cons r t,.cons r' t'=>by rw[r.inj r',Vals.inj t t']
section
variable{X:Cx}{Z:cM (Rq×Obj)}{Y:St}{H:Hp}{s:Ro}{a:Rq}{xs U:cM V}
theorem Wh.of{K:td}(h:H a=ax (.lst xs)):Wh K H a xs:=.inl (.inl h)
theorem We.of{K:td}(h:H a=ax (.tup xs)):We K H a xs:=.inl (.inl h)
theorem Inv.list(I:Inv X Z Y H s)(h:Wh X.K H a xs):∃SE:cM Rf,Vals xs SE/\PlainL s.heap a SE.toArray/\xs.length<=RL:=by
 rcases h with h|⟨o,SE,n,hk,hc,hd,hs,hz,r⟩
 .obtain⟨z,SE,n,r,e⟩:=h.ok I.TL;exact⟨SE,r,⟨_,n,e,rfl,rfl,rfl⟩,z⟩
 .refine⟨SE.toList,r,⟨o,n,I.YE a o hk,hc,hd,by simpa using hs⟩,?_⟩;have e:=r.length;simp only[VX]at e;ext
theorem Inv.tuple(I:Inv X Z Y H s)(h:We X.K H a xs):∃SE:cM Rf,Vals xs SE/\IsTup s.heap a SE.toArray/\xs.length<=RL:=by
 rcases h with h|⟨o,SE,n,hk,hc,hs,hz,r⟩
 .obtain⟨z,SE,r,p⟩:=h.ok I.TL;exact⟨SE,r,p.tup,z⟩
 .refine⟨SE.toList,r,⟨o,I.YE a o hk,hc.1,n,by simpa using hs⟩,?_⟩;have e:=r.length;simp only[VX]at e;ext
theorem Inv.aaR(I:Inv X Z Y H s)(h:Wh X.K H a xs)(h':Wh X.K H a U):xs=U:=by
 obtain⟨i,r,⟨o,n,e,_,_,d⟩,_⟩:=I.list h;obtain⟨b,g,⟨j,k,c,_,_,f⟩,_⟩:=I.list h';rw[e]at c;cases c;rw[d]at f;injection f with d1 _;have:i=b:=by simpa using e9 aex d1
 subst this;exact r.inj g
theorem Inv.acq(I:Inv X Z Y H s)(h:We X.K H a xs)(h':We X.K H a U):xs=U:=by
 obtain⟨i,r,⟨o,e,_,n,d⟩,_⟩:=I.tuple h;obtain⟨b,g,⟨j,c,_,k,f⟩,_⟩:=I.tuple h';rw[e]at c;cases c;rw[d]at f;injection f with d1 _;have:i=b:=by simpa using e9 aex d1
 subst this;exact r.inj g
end
abbrev Cx.X5(X:Cx)(E:Rf->Ro->Prop):Cx:={X with xe:=E}
abbrev Cx.Zq(X:Cx):Cx:=X.X5 λ_ _=>False
theorem Cx.Ok.X5{X:Cx}(ok:X.Ok)(E:Rf->Ro->Prop):(X.X5 E).Ok:=
 ⟨ok.mod,ok.kind,ok.glob,ok.blt,ok.above,ok.inj,ok.has,ok.cab,ok.hd,ok.frames,ok.stk,ok.exf,ok.bs,ok.bsz,ok.aaN,ok.aaO,ok.XX,ok.frf⟩
theorem Cx.Ok.Wa{X:Cx}(ok:(X.X5 E).Ok):X.Ok:=
 ⟨ok.mod,ok.kind,ok.glob,ok.blt,ok.above,ok.inj,ok.has,ok.cab,ok.hd,ok.frames,ok.stk,ok.exf,ok.bs,ok.bsz,ok.aaN,ok.aaO,ok.XX,ok.frf⟩
section
variable{X:Cx}{Z:cM (Rq×Obj)}{Y:St}{H:Hp}{s:Ro}{E:Rf->Ro->Prop}
theorem Inv.X5(I:Inv X Z Y H s)(E:Rf->Ro->Prop):Inv (X.X5 E) Z Y H s:=⟨I.ok.X5 E,I.os,I.bare,I.base,I.loc,I.cell,I.free,I.VG,I.pin,I.TL,I.len⟩
theorem Inv.Wa(I:Inv (X.X5 E) Z Y H s):Inv X Z Y H s:=⟨I.ok.Wa,I.os,I.bare,I.base,I.loc,I.cell,I.free,I.VG,I.pin,I.TL,I.len⟩
theorem SP.Wa(h:SP (X.X5 E) Z D f s'):SP X Z D f s':=by
 cases f with
 |next=>obtain⟨a,b,I,q⟩:=h;exact⟨a,b,I.Wa,q⟩
 |brk=>obtain⟨a,b,I,q⟩:=h;exact⟨a,b,I.Wa,q⟩
 |cont=>obtain⟨a,b,I,q⟩:=h;exact⟨a,b,I.Wa,q⟩
 |ret u=>obtain⟨v,a,b,I,r,q⟩:=h;exact⟨v,a,b,I.Wa,r,q⟩
theorem ZJ.Zq{st:cM Tq}(h:ZJ X.Zq st t):ZJ X st t:=λZ s Y H D I a=>
 wpAny_mono (h Z s Y H D (I.X5 _) a) (λ_ _ q=>q.Wa) λ_ _ z=>False.elim z
end
section
variable{X:Cx}{st:Tq}{U:cM Tq}{t u:TS}{e:SI}{Y:TE}{Z:Pos}
def EW:TS:=λD a H=>D.nx a H
def Ll(t u:TS):TS:=λD a H=>t {D with nx:=u D} a H
theorem aN:ZJ X [] EW:=λ_ _ a H _ I h=>X9 ⟨a,H,I,h⟩
theorem ag(i:PS X st t)(g:ZJ X U u):ZJ X (st::U) (Ll t u):=by
 intro a s c H D I h;refine afO (fR (i a s c H {D with nx:=u D} I h) λf d q=>?_);cases f with
 |next=>obtain⟨b,k,j,q⟩:=q;exact g a d b k D j q
 |ret v=>exact q
 |brk=>exact q
 |cont=>exact q
theorem au(c:PS X st t):ZJ X [st] t:=by
 intro a s b H D I h;refine afO (fR (c a s b H D I h) λf d q=>?_);cases f with
 |next=>exact X9 q
 |ret v=>exact q
 |brk=>exact q
 |cont=>exact q
theorem Inv.quiet{a:cM (Rq×Obj)}{b:St}{H:Hp}{s:Ro}(I:Inv X a b H s):interactive X.env=Rh:=by simp[interactive,I.ok.kind]
def Ea(Y:TE):TS:=λD a H=>Y a H λ_ b=>D.nx a b
theorem fq(d:PE X e Y)(hs:Ug e cL Z.line X.env=pure Rh:=by rfl):PS X (.Expr e Z) (Ea Y):=by intro a s b H D I h;exact wpAny_Expr_any (fR (d a s b H _ I h) λv i ⟨x,g,f,j,c⟩=>⟨b,g,f,c⟩) I.quiet hs
def KM(Y:TE):TS:=λD a H=>Y a H D.rt
theorem aU(f:PE X e Y):PS X (.Return (ax e) Z) (KM Y):=by intro a s b H D I h;exact wpAny_Return_some (fR (f a s b H _ I h) λv j ⟨x,i,g,c,d⟩=>⟨x,b,i,g,c,d⟩)
def Me(c:TT)(t u:TS):TS:=λD a H=>c a H λb d=>if b=OK then t D a d else u D a d
theorem bH(m:PT X c tc)(ha:ZJ X a t)(n:ZJ X b u):PS X (.If c a b Z) (Me tc t u):=by
 intro f s g H D I h;refine wpAny_If (fR (m f s g H _ I h) λd i ⟨l,k,j⟩=>?_);cases d with
 |true=>exact ha f i g l D k j
 |false=>exact n f i g l D k j
def K5:TS:=λ_ _ _=>False
theorem eN:PS X st K5:=λ_ _ _ _ _ _ h=>h.elim
end
abbrev TG:=V->St->Hp->(St->Hp->Prop)->Prop
abbrev Mz:=cM V->St->Hp->(St->Hp->Prop)->Prop
def PG(X:Cx)(a:SI)(t:TG):Prop:=
 ∀(b:cM (Rq×Obj)) (s:Ro) (c:St) (H:Hp) (v:V) (u:Rf) (Q:St->Hp->Prop),Inv X b c H s->RelV v u->t v c H Q->
  wpAny (model X.prog X.w) X.A (assign a X.env u) (λ_ d=>∃σ' H',Inv X b σ' H' d/\Q σ' H') X.xe s
def O8(X:Cx)(d:cM SI)(t:Mz):Prop:=
 ∀(a:cM (Rq×Obj)) (s:Ro) (b:St) (H:Hp) (vs:cM V) (c:cM Rf) (Q:St->Hp->Prop),Inv X a b H s->Vals vs c->t vs b H Q->
  wpAny (model X.prog X.w) X.A (assignInOrder ((assignEach d X.env).map (·.2)) c) (λ_ e=>∃σ' H',Inv X a σ' H' e/\Q σ' H') X.xe s
section
variable{X:Cx}{Z:Pos}
def yB(i:Nat):TG:=λv a H Q=>Q (a.set i (ax v)) H
theorem bf(hN:X.N.Nodup)(hi:X.N[i]?=ax x)(hx:O0 X.env.scope x)(hf:X.fn x=OK\/X.env.scope.names.lookup x=ax .local:=by first|exact .inl rfl|exact .inr rfl|assumption):PG X (.Name x Z) (yB i):=by intro pins s σ H v u Q I r h;exact afd (tS I hN hi hx r (λs' I'=>⟨_,H,I',h⟩) hf)
def M6:Mz:=λvs a H Q=>vs=[]/\Q a H
def IU(t:TG)(u:Mz):Mz:=λvs b H Q=>∃v r,vs=v::r/\t v b H λa c=>u r a c Q
theorem g7:O8 X [] M6:=by intro a s b H vs c Q I r h;obtain⟨e,h⟩:=h;subst e;cases r;exact assignInOrder_nil ⟨b,H,I,h⟩
theorem cz(j:PG X e t)(i:O8 X es u)
  (hs:(assignEach (e::es) X.env).map (·.2)=assign e X.env::(assignEach es X.env).map (·.2):=by rfl):O8 X (e::es) (IU t u):=by
 intro a s c H vs o Q I r h;obtain⟨v,n,k,h⟩:=h;subst k;cases r with
 |cons r f=>rw[hs];refine assignInOrder_cons (fR (j a s c H _ _ _ I r h) λ_ d ⟨b,m,l,g⟩=>?_);exact i a d b m _ _ Q l f g
def MO(K:td)(n:Nat)(t:Mz):TG:=λv b H Q=>∃a xs,v=.ref a/\We K H a xs/\xs.length=n/\t xs b H Q
theorem ji(m:X.calm=OK)(h:O8 X es t)
  (hn:(assignEach es X.env).length=n:=by rfl) (q:(assignEach es X.env).findIdx? (·.1)=cL:=by rfl):PG X (.Tuple es k Z) (MO X.K n t):=by
 intro c s f H v u Q I r d;obtain⟨a,xs,p,j,l,d⟩:=d;subst p;cases r;obtain⟨A,rv,i,y⟩:=I.tuple j;refine assign_Tuple_tuple (I.ok.hd m) i (by simp[hn,<-l,rv.length]) q λz g=>?_;have w:=I.kept (t':=s.toks) λb o e=>g b o (RO (dt e)) e;exact h c _ f H xs _ Q w (by simpa using rv) d
def D8(b:TE)(g:TG):TS:=λD a H=>b a H λx c=>g x a c D.nx
theorem Ao(k:PE X e te)(j:PG X tg g)(hs:swapsWithSole [tg] e Z.line X.env=pure Rh:=by rfl)(i:swappedStores [tg] e X.env=pure cL:=by rfl)
  (l:(assignEach [tg] X.env).map (·.2)=[assign tg X.env]:=by rfl):PS X (.Assign [tg] e Z) (D8 te g):=by
 intro a s b H D I h;refine wpAny_Assign_stores (fR (k a s b H _ I h) λv c ⟨x,n,m,d,f⟩=>?_) hs i;rw[l];exact fR (j a c b n x v _ m d f) λ_ o q=>q
theorem bh{i:Nat}{x:Str}{e:SI}{te:TE}{pos':Pos}(hN:X.N.Nodup)(hi:X.N[i]?=ax x)(hx:O0 X.env.scope x)(he:PE X e te)(hs:Ug e (ax (.Name x pos')) Z.line X.env=pure Rh:=by rfl)(hf:X.fn x=OK\/X.env.scope.names.lookup x=ax .local:=by first|exact .inl rfl|exact .inr rfl|assumption):
  PS X (.Assign [.Name x pos'] e Z) (D8 te (yB i)):=by
 intro pins s σ H D I h;refine wpAny_Assign_Name (fR (he pins s σ H _ I h) λv s1 ⟨y,H1,I1,r1,q1⟩=>?_) hs;exact tS I1 hN hi hx r1 (λs2 I2=>⟨_,H1,I2,q1⟩) hf
end
structure It where
 go:Nat->Hp->Prop
 yld:Nat->Hp->V->Hp->Prop
 stop:Nat->Hp->Prop
def oV(X:Cx)(a:cM (Rq×Obj))(H:Hp)(b:Rq):Prop:=
 H b=cL/\b≠X.env.locals/\b∉X.fs/\(b∈X.ex\/X.s₀.heap.objs.size<=b)/\(∀x c,X.env.cells.lookup x=ax c->c≠b)/\∀p∈X.pn++a,p.1≠b
theorem Inv.aat(I:Inv X pins σ H s)(a:s.heap.objs.size<=b)(hn:H' b=cL):oV X pins H' b:=by
 refine⟨hn,Ti (RM I.lt a),I.ag5 a,.inr (SH I.sz a),λx c e z=>?_,λp d z=>?_⟩
 .obtain⟨v,q⟩:=I.cell x c e;exact a7 (RM q.lt (by rw[z];exact a)) (T5 _)
 .exact a7 (RM (dt (I.pin p d).1) (by rw[z];exact a)) (T5 _)
structure Turn(P:RT)(w:SG)(K:td)(tg:SI)(J:It)(fp:cM Rq)(it:Rq)(tn:Nat->Heap->Prop):Prop where
 mem:it∈fp
 obj:∀i h,tn i h->∀b∈fp,∃o,h.get? b=ax o/\∀v,o.data≠.cell v
 keep:∀i h h',tn i h->(∀b∈fp,∀o,h.get? b=ax o->h'.get? b=ax o)->tn i h'
 item:∀(X:Cx),X.prog=P->X.w=w->X.K=K->X.calm=OK->∀(i:Nat) (pins:cM (Rq×Obj)) (s:Ro) (σ:St) (H:Hp) (E:Rf->Ro->Prop),Inv X pins σ H s->(∀b∈fp,oV X pins H b)->tn i s.heap->J.go i H->
  wpAny (model P w) X.A (pyNext (.ref it)) (λr s1=>∃u,r=ax u/\
   wpAny (model P w) X.A (letOwnedTupleGo tg (.ref it) u) (λ_ s2=>∃x H',Inv X pins σ H' s2/\RelV x u/\J.yld i H x H'/\tn (i+1) s2.heap/\∀b∈fp,H' b=cL) E s1) E s
 done:∀(X:Cx),X.prog=P->X.w=w->X.K=K->X.calm=OK->∀(i:Nat) (pins:cM (Rq×Obj)) (s:Ro) (σ:St) (H:Hp) (E:Rf->Ro->Prop),Inv X pins σ H s->(∀b∈fp,oV X pins H b)->tn i s.heap->J.stop i H->
  wpAny (model P w) X.A (pyNext (.ref it)) (λr s1=>r=cL/\Inv X pins σ H s1) E s
 self:∀(A:Sk) (i:Nat) (s:Ro) (Q:Rf->Ro->Prop) (E:Rf->Ro->Prop),tn i s.heap->Q (.ref it) s->wpAny (model P w) A (pyIter (.ref it)) Q E s
abbrev TI:=St->Hp->(It->Hp->Prop)->Prop
def QG(X:Cx)(a:cM (Rq×Obj))(i:St)(j:SI)(R:It->Hp->Prop)(c:Rf)(f:Ro):Prop:=
 ∃(g:Rq) (h:cM Rq) (e:Nat->Heap->Prop) (J:It) (d:Hp),c=.ref g/\Inv X a i d f/\Turn X.prog X.w X.K j J h g e/\e 0 f.heap/\(∀b∈h,oV X a d b)/\R J d
def PI(X:Cx)(e b:SI)(d:TI):Prop:=
 ∀(a:cM (Rq×Obj)) (s:Ro) (c:St) (H:Hp) (R:It->Hp->Prop),Inv X a c H s->d c H R->
  wpAny (model X.prog X.w) X.A (eval b X.env) (λv f=>wpAny (model X.prog X.w) X.A (pyIter v) (QG X a c e R) X.xe f) X.xe s
theorem BU{M:aaw}{A:Sk}{E:Rf->Ro->Prop}{s:Ro}{b:SI}{it:Rq}{u:Rf}{o:Obj}{n:String}{vs:Array Rf}{Q:Unit->Ro->Prop}(c:s.heap.get? it=ax o)(d:o.cls=.type n)(hd:o.data=.fields vs)
  (hn:["enumerate","zip","dict_itemiterator","dict_reverseitemiterator","odict_iterator","itertools.zip_longest","itertools.pairwise"].contains n=Rh) (a:Q () s):wpAny M A (letOwnedTupleGo b (.ref it) u) Q E s:=by
 unfold letOwnedTupleGo;cases b<;>first
  |exact Ru a
  |(cases u<;>first
    |exact Ru a
    |(refine Ld (wpAny_load c ?_)
      rw[d,hd];show wpAny M A (if(["enumerate","zip","dict_itemiterator","dict_reverseitemiterator","odict_iterator","itertools.zip_longest","itertools.pairwise"].contains n&&vs[0]? ==ax (rawInt _))=OK then _ else _) Q E s;rw[ar (by intro h;rw[hn,XJ]at h;cases h)];exact Ru a))
def Qi(K:td)(a:Rq):It:=
 ⟨λi H=>∃xs x,Wh K H a xs/\xs[i]?=ax x,λi H x b=>b=H/\∀xs,Wh K H a xs->xs[i]?=ax x,λi H=>∃xs,Wh K H a xs/\xs.length<=i⟩
def PR(K:td)(a:Rq):It:=
 ⟨λi H=>∃xs x,We K H a xs/\xs[i]?=ax x,λi H x b=>b=H/\∀xs,We K H a xs->xs[i]?=ax x,λi H=>∃xs,We K H a xs/\xs.length<=i⟩
def OS(lo:Int)(n:Nat):It:=⟨λi _=>i<n,λi H x a=>a=H/\x=.int (lo+i),λi _=>n<=i⟩
theorem DG{K:td}(a it:Rq):Turn P w K tg (Qi K a) [it] it (λi h=>h.IsListIter it a i) where
 mem:=by simp
 obj:=λi h f b g=>by
  have e:b=it:=by simpa using g
  subst e;obtain⟨o,e,c,d⟩:=f;exact⟨o,e,λv z=>by rw[d]at z;cases z⟩
 keep:=λi h L f k=>f.at λo e=>k it (by simp) o e
 item:=by intro X t q y J i j s N H E I m f r;subst t q y;obtain⟨xs,x,l,n⟩:=r;obtain⟨Y,rv,p,R⟩:=I.list l;obtain⟨u,T,Q⟩:=rv.get n;obtain⟨G,F,f2,C,B,A⟩:=m it (by simp);refine wpAny_pyNext_list_item f p.isList (by simpa using T) λL M O=>?_;have Z:=I.turned (t':=s.toks) (λb o g e=>(O.2 b g).trans e) G F C B A;obtain⟨o,e,c,d⟩:=id M;exact⟨u,rfl,BU e c d (by decide) ⟨x,H,Z,Q,⟨rfl,λys S=>by rw[I.aaR S l];exact n⟩,M,λb g=>(m b g).1⟩⟩
 done:=by intro X t q y J i j s N H E I m f r;subst t q y;obtain⟨xs,l,n⟩:=r;obtain⟨Y,rv,p,R⟩:=I.list l;obtain⟨G,F,f2,C,B,A⟩:=m it (by simp);have hl:=rv.length;exact wpAny_pyNext_list_end (I.ok.hd J) f p.isList (by simp;ext) λL U=>⟨rfl,I.turned (λb o g e=>U b o g e) G F C B A⟩
 self:=λ_ _ _ _ _ f h=>wpAny_pyIter_listiter f h
theorem Ag{K:td}(a it:Rq):Turn P w K tg (PR K a) [it] it (λi h=>h.IsTupleIter it a i) where
 mem:=by simp
 obj:=λi h f b g=>by
  have e:b=it:=by simpa using g
  subst e;obtain⟨o,e,c,d⟩:=f;exact⟨o,e,λv z=>by rw[d]at z;cases z⟩
 keep:=λi h M f k=>f.at λo e=>k it (by simp) o e
 item:=by intro X t q y L i j s O H E I m f r;subst t q y;obtain⟨xs,x,l,n⟩:=r;obtain⟨J,rv,p,S⟩:=I.tuple l;obtain⟨u,U,R⟩:=rv.get n;obtain⟨G,F,f2,C,B,A⟩:=m it (by simp);refine wpAny_pyNext_tuple_item f (show s.heap.IsTuple a J.toArray from p) (by simpa using U) λM N Q=>?_;have Z:=I.turned (t':=s.toks) (λb o g e=>(Q.2 b g).trans e) G F C B A;obtain⟨o,e,c,d⟩:=id N;exact⟨u,rfl,BU e c d (by decide) ⟨x,H,Z,R,⟨rfl,λys T=>by rw[I.acq T l];exact n⟩,N,λb g=>(m b g).1⟩⟩
 done:=by intro X t q y L i j s O H E I m f r;subst t q y;obtain⟨xs,l,n⟩:=r;obtain⟨J,rv,p,S⟩:=I.tuple l;obtain⟨G,F,f2,C,B,A⟩:=m it (by simp);have hl:=rv.length;exact wpAny_pyNext_tuple_end (I.ok.hd L) f (show s.heap.IsTuple a J.toArray from p) (by simp;ext) λM Y=>⟨rfl,I.turned (λb o g e=>Y b o g e) G F C B A⟩
 self:=λ_ _ _ _ _ f h=>wpAny_pyIter_tupleiter f h
theorem A7{K:td}(it:Rq)(lo:Int)(n:Nat):Turn P w K tg (OS lo n) [it] it (λi h=>IsRangeIter h it (lo+(i:Nat)*1) ((n:Int) - (i:Nat)) 1) where
 mem:=by simp
 obj:=λi h a b d=>by
  have e:b=it:=by simpa using d
  subst e;exact⟨_,a,λv z=>by have G:=z;cases G⟩
 keep:=λi h q a k=>k it (by simp) _ a
 item:=by intro X m g p l i c s C H E I f a j;subst m g p;obtain⟨B,A,f2,y,u,r⟩:=f it (by simp);have W:=afe.range (prog:=X.prog) (w:=X.w) (I.ok.hd l) it lo 1 n;refine W.item i s _ _ j a λv q J M F L=>?_;obtain⟨t,rfl⟩:=M;have O:Inv X c C H {s with heap:=q,toks:=J}:=I.turned (λb o d e=>L b o (by simpa using d) e) B A y u r;refine⟨_,rfl,BU F rfl rfl (by decide) ⟨.int (lo+i),H,O,⟨t,?_⟩,⟨rfl,rfl⟩,F,λb d=>(f b d).1⟩⟩;rw[Int.mul_one]
 done:=by intro X m g p l i c s C H E I f a j;subst m g p;obtain⟨B,A,f2,y,u,r⟩:=f it (by simp);exact wpAny_pyNext_range_end (I.ok.hd l) a (by have:n<=i:=j;ext) λq N=>⟨rfl,I.turned (λb o d e=>N b o d e) B A y u r⟩
 self:=λ_ _ _ _ _ a h=>wpAny_pyIter_rangeiter a h
section
variable{X:Cx}{Z:SI}
theorem E8{a:cM (Rq×Obj)}{c:St}{H:Hp}{s:Ro}{R:It->Hp->Prop}{E:Rf->Ro->Prop}{lo hi:Int}{t u v:Tok}{d:Nat}(I:Inv X a c H s)(k: -(2^62)<=lo)(j:lo<2^62)(i: -(2^62)<=hi)(h:hi<2^62)
  (q:R (OS lo (hi - lo).toNat) H):wpAny (model X.prog X.w) X.A (pyIter (.ref s.heap.objs.size)) (QG X a c Z R) E {s with heap:=s.heap.push {cls:=.type "range",data:=.fields #[.int lo t,.int hi u,.int 1 v]},toks:=d}:=by
 refine wpAny_pyIter_range (IsRange.new ..) (small_one k j i h) ?_;have f:Inv X a c H {s with heap:=s.heap.push {cls:=.type "range",data:=.fields #[.int lo t,.int hi u,.int 1 v]},toks:=d}:=I.kept λb o e=>c6 _ e;refine⟨(s.heap.push {cls:=.type "range",data:=.fields #[.int lo t,.int hi u,.int 1 v]}).objs.size,[(s.heap.push {cls:=.type "range",data:=.fields #[.int lo t,.int hi u,.int 1 v]}).objs.size],_,_,H,rfl,
  f.kept (t':=d) λb o e=>c6 _ e,A7 _ lo (hi - lo).toNat,?_,λb g=>?_,q⟩
 .have m:lo+((0:Nat):Int)*1=lo:=by simp
  have l:(((hi - lo).toNat:Nat):Int) - ((0:Nat):Int)=R8.Range.rangeSize lo hi 1:=by rw[rangeSize_one];split<;>ext
  show IsRangeIter _ _ (lo+((0:Nat):Int)*1) ((((hi - lo).toNat:Nat):Int) - ((0:Nat):Int)) 1;rw[m,l];exact dN _ rfl
 .have e:b=(s.heap.push {cls:=.type "range",data:=.fields #[.int lo t,.int hi u,.int 1 v]}).objs.size:=by simpa using g
  subst e;exact f.aat (Rr _) (f.TL.fresh (Rr _))
def JS(b:TA):TI:=λa H R=>b a H λvs c=>∃j:Int,vs=[.int j]/\ -(2^62)<=j/\j<2^62/\R (OS 0 j.toNat) c
theorem eJ(k:Gl X "range")(hm:X.mg "range"=cL)(ha:PA X [a] ta)(hs:R0 [a] X.env=[(Rh,eval a X.env)]:=by rfl):PI X Z (.Call (.Name "range" p) [a] [] pos) (JS ta):=by
 intro b s d H R I h;refine Call_ (pQ I k hm boot_range (UG (fR (ha pos b s d H _ I h) λm n ⟨vs,o,l,g,c⟩=>?_) hs rfl));obtain⟨j,e,c,i,q⟩:=c;subst e;cases g with
 |cons r f=>cases f;obtain⟨t,rfl⟩:=r;exact call_range_1 (E8 l (by ext) (by ext) c i (by simpa using q))
def MK(c:TI)(g:TG)(d:TS):TS:=λD a H=>c a H λJ f=>∃W:Nat->Nat->St->Hp->Prop,(∃m,W 0 m a f)/\∀i m a H,W i m a H->
 (J.stop i H/\D.nx a H)\/(J.go i H/\∃N:St->Hp->Prop,(∀σ' H',N σ' H'->∃m',m'<m/\W (i+1) m' σ' H')/\∀x H',J.yld i H x H'->g x a H' λb e=>d {D with nx:=N,ct:=N,bk:=D.nx} b e)
def ux(fp:cM Rq)(h:Heap):cM (Rq×Obj):=fp.filterMap λb=>(h.get? b).map λo=>(b,o)
theorem md(a:b∈fp)(e:h.get? b=ax o):(b,o)∈ux fp h:=Yn.mpr ⟨b,a,by rw[e];rfl⟩
theorem C7(a:p∈ux fp h):p.1∈fp/\h.get? p.1=ax p.2:=by
 obtain⟨b,c,e⟩:=Yn.mp a;cases q:h.get? b with
 |none=>rw[q]at e;cases e
 |some o=>rw[q]at e;have d:=R9 e;subst d;exact⟨c,q⟩
theorem Inv.pinned(I:Inv X pins σ H s)(h:∀b∈fp,oV X pins H b)(g:∀b∈fp,∃o,s.heap.get? b=ax o/\∀v,o.data≠.cell v):Inv X (pins++ux fp s.heap) σ H s:=
 I.Yl λp f=>(Sv.mp f).elim (λz=>I.pin p (RN _ z)) λz=>by obtain⟨a,e⟩:=C7 z;obtain⟨j,i,f2,_⟩:=h p.1 a;obtain⟨o,c,d⟩:=g p.1 a;rw[e]at c;cases c;exact⟨e,j,i,f2,d⟩
theorem Inv.Yk(I:Inv X (pins++pl) σ H s):Inv X pins σ H s:=I.Yl λp a=>I.pin p (RN _ (T6 _ a))
theorem jg(K:UK (model X.prog X.w) X.A X.env X.xe)(hc:X.calm=OK)(hi:PI X Z iter wi)(hg:PG X Z g)(k:ZJ X body tb)
  (hs:∀x,foldedSetIterable iter X.env x=pure x:=by intro _;rfl):PS X (.For Z iter body [] pos) (MK wi g tb):=by
 intro c s σ H D I h;refine wpAny_For (fR (hi c s σ H _ I h) λv s1 h1=>fR h1 λitv s2 h2=>?_) hs;obtain⟨it,M,tn,J,H2,e,I2,T,Q,f2,W,⟨m0,w0⟩,C⟩:=h2;subst e;have B:∀{t:Hp},(∀b∈M,t b=cL)->∀b∈M,oV X c t b:=λhn b k=>⟨hn b k,(f2 b k).2⟩;refine codeAny_forLoop_any (λn s'=>∃i σ' t,Inv X c σ' t s'/\tn i s'.heap/\(∀b∈M,t b=cL)/\W i n σ' t) ?_ m0 ⟨0,σ,H2,I2,Q,λb k=>(f2 b k).1,w0⟩;rintro n s3 ⟨i,j,O,I3,F,L,w3⟩;rcases C i n j O w3 with⟨E,qn⟩|⟨go,N,hN,step⟩
 .refine Wl K (fR (T.done X rfl rfl rfl hc i c s3 j O X.xe I3 (B L) F E) λr s4 ⟨S,I4⟩=>?_);subst S;exact X9 ⟨j,O,I4,qn⟩
 .refine Wl K (fR (T.item X rfl rfl rfl hc i c s3 j O X.xe I3 (B L) F go) λr s4 ⟨u,S,h4⟩=>?_)
  subst S;refine Wl K (fR h4 λ_ s5 ⟨x,H5,I5,r5,y5,z,U⟩=>?_);have Y:=I5.pinned (B U) (T.obj _ _ z);refine Wl K (fR (hg _ s5 j H5 x u _ Y r5 (step x H5 y5)) λ_ s6 ⟨P,H6,I6,q6⟩=>?_);refine Wl K (fR (k _ s6 P H6 _ I6 q6) λf R y=>?_);have l:∀{a:St} {q:Hp},Inv X (c++ux M s5.heap) a q R->N a q->∃m,m<n/\∃i σ' t,Inv X c σ' t R/\tn i R.heap/\(∀b∈M,t b=cL)/\W i m σ' t:=λ{a q} p G=>by obtain⟨m',hm,w7⟩:=hN a q G;refine⟨m',hm,i+1,a,q,p.Yk,T.keep _ _ _ z λb k o e=>(p.pin (b,o) (RN _ (RN _ (md k e)))).1,λb k=>?_,w7⟩;obtain⟨o,e,d⟩:=T.obj _ _ z b k;exact(p.pin (b,o) (RN _ (RN _ (md k e)))).2.1
  cases f with
  |next=>obtain⟨a,q,p,G⟩:=y;exact l p G
  |cont=>obtain⟨a,q,p,G⟩:=y;exact l p G
  |brk=>obtain⟨a,q,p,y⟩:=y;exact⟨a,q,p.Yk,y⟩
  |ret v=>obtain⟨x7,a,q,p,r7,y⟩:=y;exact⟨x7,a,q,p.Yk,r7,y⟩
end
abbrev R2:=V->V->Hp->VK->Prop
def OpR(X:Cx)(f:Rf->Rf->Sem Rf)(r:R2):Prop:=
 ∀(a:cM (Rq×Obj)) (s:Ro) (b:St) (H:Hp) (x y:V) (v u:Rf) (Q:VK),Inv X a b H s->RelV x v->RelV y u->r x y H Q->
  wpAny (model X.prog X.w) X.A (f v u) (EP X a b Q) X.xe s
def Ql(X:Cx)(f:Rf->Sem Rf)(r:V->Hp->VK->Prop):Prop:=
 ∀(a:cM (Rq×Obj)) (s:Ro) (b:St) (H:Hp) (x:V) (v:Rf) (Q:VK),Inv X a b H s->RelV x v->r x H Q->
  wpAny (model X.prog X.w) X.A (f v) (EP X a b Q) X.xe s
def U4(X:Cx)(f:Rf)(r:cM V->Hp->VK->Prop):Prop:=
 ∀(a:cM (Rq×Obj)) (s:Ro) (b:St) (H:Hp) (xs:cM V) (c:cM Rf) (Q:VK),Inv X a b H s->Vals xs c->r xs H Q->
  wpAny (model X.prog X.w) X.A (call f c) (EP X a b Q) X.xe s
def Mv(r:R2)(c b:TE):TE:=λa H Q=>c a H λx e=>b a e λy d=>r x y d Q
def QA(r:V->Hp->VK->Prop)(b:TE):TE:=λa H Q=>b a H λx c=>r x c Q
def rI(C:Int->Int->Prop)(g:Int->Int->V):R2:=λx y H Q=>∃i j,x=.int i/\y=.int j/\C i j/\Q (g i j) H
def zA(g:Int->Int->V):R2:=λx y H Q=>∃i j,x=.int i/\y=.int j/\Q (g i j) H
def rU(g:Int->V):V->Hp->VK->Prop:=λx H Q=>∃i,x=.int i/\Q (g i) H
section
variable{X:Cx}{a b c:SI}{Z U tc:TE}{Y:Pos}
theorem Lb(ha:PE X a Z)(l:PE X b U){R:V->V->Hp->Prop}(I:Inv X pins σ H s)
  (h:Z σ H λx H1=>U σ H1 λy H2=>R x y H2) {f:Rf->Rf->Sem Rf}
  (k:∀v u s2 x y H2,Inv X pins σ H2 s2->RelV x v->RelV y u->R x y H2->wpAny (model X.prog X.w) X.A (f v u) Q X.xe s2):
  wpAny (model X.prog X.w) X.A (eval a X.env) (λv s₁=>wpAny (model X.prog X.w) X.A (eval b X.env) (λu s₂=>wpAny (model X.prog X.w) X.A (f v u) Q X.xe s₂) X.xe s₁) X.xe s:=by
 refine fR (ha pins s σ H _ I h) λv d ⟨x,H1,n,g,j⟩=>?_;refine fR (l pins d σ H1 _ n j) λu s2 ⟨y,H2,m,e,i⟩=>?_;exact k v u s2 x y H2 m g e i
theorem bw(j:OpR X (UB op) r)(ha:PE X a Z)(k:PE X b U):PE X (.BinOp a op b Y) (Mv r Z U):=by intro d s e H Q I h;exact wpAny_BinOp (Lb ha k I h λv u f x y m l i g q=>j d f e m x y v u Q l i g q)
theorem JI(j:Ql X (unaryOp op) r)(ha:PE X a Z):PE X (.UnaryOp op a Y) (QA r Z):=by intro d s e H Q I h;exact UnaryOp_ (fR (ha d s e H _ I h) λv f ⟨x,l,k,g,i⟩=>j d f e l x v Q k g i)
theorem OV{g:Int->Int->Int}
  (d:∀(i j:Int) (t u:Tok) (s:Ro) (Q:Rf->Ro->Prop) (E:Rf->Ro->Prop),C i j->Q (.int (g i j) s.toks) {s with toks:=s.toks+1}->wpAny (model X.prog X.w) X.A (f (.int i t) (.int j u)) Q E s):
  OpR X f (rI C λi j=>.int (g i j)):=by
 intro e s o H x y v u Q I m l h;obtain⟨i,j,rfl,rfl,n,q⟩:=h;obtain⟨t,rfl⟩:=m;obtain⟨k,rfl⟩:=l;exact d i j t k s _ _ n ⟨.int (g i j),H,I.tok _,⟨_,rfl⟩,q⟩
theorem Od{g:Int->Int->Int}
  (d:∀(i j:Int) (t u:Tok) (s:Ro) (Q:Rf->Ro->Prop) (E:Rf->Ro->Prop),Q (.int (g i j) s.toks) {s with toks:=s.toks+1}->wpAny (model X.prog X.w) X.A (f (.int i t) (.int j u)) Q E s):
  OpR X f (zA λi j=>.int (g i j)):=by
 intro e s n H x y v u Q I m l h;obtain⟨i,j,rfl,rfl,q⟩:=h;obtain⟨t,rfl⟩:=m;obtain⟨k,rfl⟩:=l;exact d i j t k s _ _ ⟨.int (g i j),H,I.tok _,⟨_,rfl⟩,q⟩
theorem HX{g:Int->Int->Bool}
  (d:∀(i j:Int) (t u:Tok) (s:Ro) (Q:Rf->Ro->Prop) (E:Rf->Ro->Prop),Q (.bool (g i j)) s->wpAny (model X.prog X.w) X.A (f (.int i t) (.int j u)) Q E s):
  OpR X f (zA λi j=>.bl (g i j)):=by
 intro e s n H x y v u Q I m l h;obtain⟨i,j,rfl,rfl,q⟩:=h;obtain⟨t,rfl⟩:=m;obtain⟨k,rfl⟩:=l;exact d i j t k s _ _ ⟨.bl (g i j),H,I,rfl,q⟩
def JY(i j:Int):Prop:=0<=j/\j<=1000000/\i.natAbs<2^64
def adI(i j:Int):Prop:=(-(2^64)<i/\i<2^64)\/(-(2^64)<j/\j<2^64)
theorem adI.ok(h:adI i j):IntMulOk i j:=by
 rcases h with⟨e,d⟩|⟨e,d⟩
 .exact .of_left (alr e d)
 .exact .of_right (alr e d)
theorem K6:OpR X (UB .Add) (zA λi j=>.int (i+j)):=Od λ_ _ _ _ _ _ _ q=>add_int q
theorem Ex:OpR X (UB .Sub) (zA λi j=>.int (i - j)):=Od λ_ _ _ _ _ _ _ q=>sub_int q
theorem Mc:OpR X (UB .Mult) (rI adI λi j=>.int (i*j)):=OV λ_ _ _ _ _ _ _ d q=>mul_int q d.ok
theorem fV:OpR X (UB .Mod) (rI (λ_ j=>0<j) λi j=>.int (i % j)):=OV λi j _ _ _ _ _ d q=>by have e:(0:Int)<j:=d;exact mod_int' (by ext) (by rw[Int.fmod_eq_emod_of_nonneg i (by ext)];exact q)
theorem KP:OpR X (UB .Pow) (rI JY λi j=>.int (i^j.toNat)):=OV λ_ _ _ _ _ _ _ d q=>pow_int_small d.1 d.2.1 d.2.2 q
theorem Q0{g:Int->Int}
  (d:∀(i:Int) (t:Tok) (s:Ro) (Q:Rf->Ro->Prop) (E:Rf->Ro->Prop),Q (.int (g i) s.toks) {s with toks:=s.toks+1}->wpAny (model X.prog X.w) X.A (f (.int i t)) Q E s):
  Ql X f (rU λi=>.int (g i)):=by
 intro e s k H x v Q I j h;obtain⟨i,rfl,q⟩:=h;obtain⟨t,rfl⟩:=j;exact d i t s _ _ ⟨.int (g i),H,I.tok _,⟨_,rfl⟩,q⟩
theorem Gx:Ql X (unaryOp .USub) (rU λi=>.int (-i)):=Q0 λ_ _ _ _ _ q=>neg_int q
end
def Iv:V->V->Bool
 |.Uo,.Uo=>OK|.Uo,.int _=>OK|.int _,.Uo=>OK|.Uo,.bl _=>OK|.bl _,.Uo=>OK|.Uo,.str _=>OK|.str _,.Uo=>OK
 |.int _,.int _=>OK|.bl _,.bl _=>OK|.str _,.str _=>OK|.byt _,.byt _=>OK
 |.int _,.str _=>OK|.str _,.int _=>OK|.bl _,.str _=>OK|.str _,.bl _=>OK
 |_,_=>Rh
def Qz:R2:=λx y H Q=>Iv x y=OK/\Q (.bl (decide (x=y))) H
def QD:R2:=λx y H Q=>Iv x y=OK/\Q (.bl (!decide (x=y))) H
theorem Bg:decide (V.int i=V.int j)=(i==j):=by rw[Uc];rw[decide_eq_true_iff,beq_iff_eq];exact⟨λh=>by cases h;rfl,λh=>by rw[h]⟩
theorem Er:decide (V.bl i=V.bl j)=(i==j):=by rw[Uc];rw[decide_eq_true_iff,beq_iff_eq];exact⟨λh=>by cases h;rfl,λh=>by rw[h]⟩
theorem B1:decide (V.str i=V.str j)=(i==j):=by rw[Uc];rw[decide_eq_true_iff,beq_iff_eq];exact⟨λh=>by cases h;rfl,λh=>by rw[h]⟩
theorem BD:decide (V.byt i=V.byt j)=(i.toList==j.toList):=by rw[Uc];rw[decide_eq_true_iff,beq_iff_eq];exact⟨λh=>by cases h;rfl,λh=>by rw[Array.toList_inj.mp h]⟩
section
variable{X:Cx}{a b c:SI}{Y Z T:TE}{U:Pos}
theorem cV(I:Inv X pins σ H s)(q:Q (.bl k) H)(e:k=k'):EP X pins σ Q (.bool k') s:=by subst e;exact⟨.bl k,H,I,rfl,q⟩
theorem vE:OpR X (To .Eq) Qz:=by
 intro k s l H x y v u Q I g d h;obtain⟨f,q⟩:=h;cases x with
 |Uo=>
  cases g;cases y with
  |Uo=>cases d;exact ahH (cV I q (by simp))
  |bl j=>cases d;exact ahI (cV I q (by simp))
  |int j=>obtain⟨e,rfl⟩:=d;exact ahJ (cV I q (by simp))
  |str j=>obtain⟨e,rfl⟩:=d;exact ahK (cV I q (by simp))
  |_=>exact a7 (show Rh=OK from f) Rg
 |bl i=>
  cases g;cases y with
  |Uo=>cases d;exact ahL (cV I q (by simp))
  |bl j=>cases d;exact eq_bool (cV I q Er)
  |str j=>obtain⟨e,rfl⟩:=d;exact afP (cV I q (by simp))
  |_=>exact a7 (show Rh=OK from f) Rg
 |int i=>
  obtain⟨t,rfl⟩:=g;cases y with
  |Uo=>cases d;exact ahM (cV I q (by simp))
  |int j=>obtain⟨e,rfl⟩:=d;exact eq_int (cV I q Bg)
  |str j=>obtain⟨e,rfl⟩:=d;exact afQ (cV I q (by simp))
  |_=>exact a7 (show Rh=OK from f) Rg
 |str i=>
  obtain⟨t,rfl⟩:=g;cases y with
  |Uo=>cases d;exact ahN (cV I q (by simp))
  |bl j=>cases d;exact afR (cV I q (by simp))
  |int j=>obtain⟨e,rfl⟩:=d;exact afS (cV I q (by simp))
  |str j=>obtain⟨e,rfl⟩:=d;exact eq_str (cV I q B1)
  |_=>exact a7 (show Rh=OK from f) Rg
 |byt i=>
  obtain⟨t,rfl⟩:=g;cases y with
  |byt j=>obtain⟨e,rfl⟩:=d;exact PySem.W.eq_bytes (cV I q BD)
  |_=>exact a7 (show Rh=OK from f) Rg
 |_=>cases y<;>exact a7 (show Rh=OK from f) Rg
theorem NU:OpR X (To .NotEq) QD:=by
 intro k s l H x y v u Q I g d h;obtain⟨f,q⟩:=h;cases x with
 |Uo=>
  cases g;cases y with
  |Uo=>cases d;exact ahO (cV I q (by simp))
  |bl j=>cases d;exact ahP (cV I q (by simp))
  |int j=>obtain⟨e,rfl⟩:=d;exact ahQ (cV I q (by simp))
  |str j=>obtain⟨e,rfl⟩:=d;exact ahR (cV I q (by simp))
  |_=>exact a7 (show Rh=OK from f) Rg
 |bl i=>
  cases g;cases y with
  |Uo=>cases d;exact ahS (cV I q (by simp))
  |bl j=>cases d;exact ne_bool (cV I q (e9 not Er))
  |str j=>obtain⟨e,rfl⟩:=d;exact afT (cV I q (by simp))
  |_=>exact a7 (show Rh=OK from f) Rg
 |int i=>
  obtain⟨t,rfl⟩:=g;cases y with
  |Uo=>cases d;exact ahT (cV I q (by simp))
  |int j=>obtain⟨e,rfl⟩:=d;exact ne_int (cV I q (e9 not Bg))
  |str j=>obtain⟨e,rfl⟩:=d;exact afU (cV I q (by simp))
  |_=>exact a7 (show Rh=OK from f) Rg
 |str i=>
  obtain⟨t,rfl⟩:=g;cases y with
  |Uo=>cases d;exact ahU (cV I q (by simp))
  |bl j=>cases d;exact afV (cV I q (by simp))
  |int j=>obtain⟨e,rfl⟩:=d;exact afW (cV I q (by simp))
  |str j=>obtain⟨e,rfl⟩:=d;exact ne_str (cV I q (e9 not B1))
  |_=>exact a7 (show Rh=OK from f) Rg
 |byt i=>
  obtain⟨t,rfl⟩:=g;cases y with
  |byt j=>obtain⟨e,rfl⟩:=d;exact PySem.W.ne_bytes (cV I q (e9 not BD))
  |_=>exact a7 (show Rh=OK from f) Rg
 |_=>cases y<;>exact a7 (show Rh=OK from f) Rg
theorem tZ:OpR X (To .Lt) (zA λi j=>.bl (decide (i<j))):=HX λ_ _ _ _ _ _ _ q=>lt_int q
theorem pd:OpR X (To .LtE) (zA λi j=>.bl (decide (i<=j))):=HX λ_ _ _ _ _ _ _ q=>le_int q
theorem ul:OpR X (To .Gt) (zA λi j=>.bl (decide (j<i))):=HX λ_ _ _ _ _ _ _ q=>gt_int q
theorem JU:OpR X (To .GtE) (zA λi j=>.bl (decide (j<=i))):=HX λ_ _ _ _ _ _ _ q=>ge_int q
theorem CZ:OpR X (To .In) (λx y H Q=>∃i j,x=.str i/\y=.str j/\Q (.bl (!(R8.Str.occurrences j i 0 j.length 1).isEmpty)) H):=by intro d s g H x y v u Q I f e h;obtain⟨i,j,rfl,rfl,q⟩:=h;obtain⟨t,rfl⟩:=f;obtain⟨k,rfl⟩:=e;exact in_str (cV I q rfl)
theorem l8:OpR X (To .Is) (λx y H Q=>y=.Uo/\Q (.bl (decide (x=.Uo))) H):=by
 intro e s g H x y v u Q I d f h;obtain⟨rfl,q⟩:=h;cases f;refine is_none_gen (cV I q ?_);cases x<;>first
  |(cases d;rfl)
  |(obtain⟨t,rfl⟩:=d;rfl)
theorem xx:OpR X (To .IsNot) (λx y H Q=>y=.Uo/\Q (.bl (!decide (x=.Uo))) H):=by
 intro e s g H x y v u Q I d f h;obtain⟨rfl,q⟩:=h;cases f;refine isnot_none_gen (cV I q ?_);cases x<;>first
  |(cases d;rfl)
  |(obtain⟨t,rfl⟩:=d;rfl)
theorem aQ(b:SI)(h:op≠.In:=by decide)(d:op≠.NotIn:=by decide):behindInMarks op b=Rh:=by
 have f:(op==CmpOp.In)=Rh:=by cases op<;>first|rfl|exact a7 rfl h
 have e:(op==CmpOp.NotIn)=Rh:=by cases op<;>first|rfl|exact a7 rfl d
 cases b<;>simp[behindInMarks,f,e]
theorem dr{e:CmpOp}{r:R2}(k:OpR X (To e) r)(ha:PE X a Y)(l:PE X b Z)(hm:behindInMarks e b=Rh):PE X (.Compare a [e] [b] U) (Mv r Y Z):=by intro d s f H Q I h;exact wpAny_Compare1 (Lb ha l I h λv u g x y n m j i q=>k d g f n x y v u Q m j i q) hm
def Cr(t:TE):TT:=λd H Q=>t d H λx e=>∃k,x=.bl k/\Q k e
theorem aK(q:OpR X (To op) r)(ha:PE X a Y)(t:PE X b Z)(hm:behindInMarks op b=Rh):PT X (.Compare a [op] [b] U) (Cr (Mv r Y Z)):=by
 intro d s f H Q I h;refine wpAny_isTrue_Compare1 (fR (ha d s f H _ I h) λv i ⟨x,F,B,m,p⟩=>fR (t d i f F _ B p) λu g ⟨y,E,A,l,o⟩=>
  fR (q d g f E x y v u _ A m l o) λc G ⟨z,C,w,j,k,e,n⟩=>?_) hm
 subst e;cases j;exact TU ⟨C,w,n⟩
def zH(r g:R2)(Y Z T:TE):TE:=λd H Q=>Y d H λx j=>Z d j λy i=>r x y i λz e=>∃k,z=.bl k/\
 (if k=OK then T d e λf h=>g y f h Q else Q (.bl Rh) e)
theorem nO(K:OpR X (To op) r)(i:OpR X (To op') r')(ha:PE X a Y)(M:PE X b Z)(L:PE X c T)
  (hm:lastMarks [op,op'] [b,c]=Rh:=by with_unfolding_all rfl):PE X (.Compare a [op,op'] [b,c] U) (zH r r' Y Z T):=by
 intro f s g H Q I h;refine Compare_chain (fR (ha f s g H _ I h) λv A ⟨x,H1,P,E,J⟩=>chain_link (fR (M f A g H1 _ P J) λu w ⟨y,S,O,j,G⟩=>
  fR (K f w g S x y v u _ O E j G) λd t ⟨z,n,m,C,k,e,l⟩=>?_)) hm
 subst e;cases C;refine TU ?_;cases k with
 |false=>exact ite_ff ⟨.bl Rh,n,m,rfl,l⟩
 |true=>exact ite_tt (chain_last (fR (L f t g n _ m l) λp q ⟨o,R,N,B,F⟩=>i f q g R y o u p Q N j B F))
theorem ny(N:OpR X (To op) r)(i:OpR X (To op') r')(ha:PE X a Y)(P:PE X b Z)(O:PE X c T)
  (hm:lastMarks [op,op'] [b,c]=Rh:=by with_unfolding_all rfl):PT X (.Compare a [op,op'] [b,c] U) (Cr (zH r r' Y Z T)):=by
 intro f s g H Q I h;refine isTrue_chain (fR (ha f s g H _ I h) λv A ⟨x,H1,I1,F,L⟩=>test_link (fR (P f A g H1 _ I1 L) λu w ⟨y,H2,I2,j,K⟩=>
  fR (N f w g H2 x y v u _ I2 F j K) λd t ⟨z,n,m,E,k,e,l⟩=>?_)) hm
 subst e;cases E;refine TU ?_;cases k with
 |false=>obtain⟨k',S,M⟩:=l;cases S;exact ite_ff ⟨n,m,M⟩
 |true=>refine ite_tt (test_last (fR (O f t g n _ m l) λp q ⟨o,H4,I4,C,J⟩=>fR (i f q g H4 y o u p _ I4 j C J) λd' s5 ⟨z2,H5,I5,B,k2,R,G⟩=>?_));subst R;cases B;exact TU ⟨H5,I5,G⟩
theorem xV:(RL:Nat)<2^63:=by rw[Vy];decide
theorem cI:OpR X (UB .Add) (λx y H Q=>∃i j,x=.str i/\y=.str j/\i.length+j.length<=RL/\Q (.str (i++j)) H):=by intro d s l H x y v u Q I g f h;obtain⟨i,j,rfl,rfl,k,q⟩:=h;obtain⟨t,rfl⟩:=g;obtain⟨e,rfl⟩:=f;exact add_str (λe m=>⟨.str (i++j),H,I.tok _,⟨_,rfl⟩,q⟩) k
theorem kX(r:Vals [x] us):∃u,us=[u]/\RelV x u:=by
 cases r with
 |cons e d=>cases d;exact⟨_,rfl,e⟩
theorem uW(r:Vals [x,y] us):∃u w',us=[u,w']/\RelV x u/\RelV y w':=by
 cases r with
 |cons g f=>
  cases f with
  |cons e d=>cases d;exact⟨_,_,rfl,g,e⟩
theorem vJ(f:X.calm=OK):U4 X (.builtin "max") (λxs H Q=>∃i j,xs=[.int i,.int j]/\Q (.int (if j>i then j else i)) H):=by
 intro e s g H xs m Q I r h;obtain⟨i,j,rfl,q⟩:=h;obtain⟨u,l,rfl,⟨t,rfl⟩,⟨o,rfl⟩⟩:=uW r;refine max_two_ints (I.ok.hd f) λp n k=>⟨_,H,I.kept k,?_,q⟩;by_cases d:j>i
 .rw[ak d,ak d];exact⟨_,rfl⟩
 .rw[ar d,ar d];exact⟨_,rfl⟩
theorem sh:U4 X (.type "int") (λxs H Q=>(∃i,xs=[.int i]/\Q (.int i) H)\/∃k,xs=[.bl k]/\Q (.int (if k then 1 else 0)) H):=by
 intro d s f H xs g Q I r h;rcases h with⟨i,rfl,q⟩|⟨k,rfl,q⟩
 .obtain⟨u,rfl,t,rfl⟩:=kX r;exact call_int_int ⟨.int i,H,I,⟨_,rfl⟩,q⟩
 .obtain⟨u,rfl,e⟩:=kX r;cases e;exact call_int_bool ⟨.int (if k then 1 else 0),H,I.tok _,⟨_,rfl⟩,q⟩
theorem iL:U4 X (.type "str") (λxs H Q=>∃i,xs=[.int i]/\i.natAbs.log2<1920/\Q (.str (toString i)) H):=by intro d s f H xs g Q I r h;obtain⟨i,rfl,e,q⟩:=h;obtain⟨u,rfl,t,rfl⟩:=kX r;exact PySem.P.str_of_int e ⟨.str _,H,I.tok _,⟨_,rfl⟩,q⟩
def Mj(K:td)(x:V)(H:Hp)(n:Nat):Prop:=
 match x with
 |.str y=>y.length<=RL/\n=y.length
 |.byt y=>y.size<=RL/\n=y.size
 |.ref p=>(∃xs,Wh K H p xs/\n=xs.length)\/∃xs,We K H p xs/\n=xs.length
 |_=>False
theorem cn:U4 X (.builtin "len") (λxs H Q=>∃x n,xs=[x]/\Mj X.K x H n/\Q (.int n) H):=by
 intro k s v H xs w Q I r h;obtain⟨x,n,rfl,e,q⟩:=h;obtain⟨u,rfl,g⟩:=kX r;have A:=xV;have z:=Vy;cases x with
 |str y=>obtain⟨t,rfl⟩:=g;obtain⟨m,f⟩:=e;subst f;exact len_str (by ext) ⟨.int _,H,I.tok _,⟨_,rfl⟩,q⟩
 |byt y=>obtain⟨t,rfl⟩:=g;obtain⟨m,f⟩:=e;subst f;exact PySem.W.len_bytes (by ext) ⟨.int _,H,I.tok _,⟨_,rfl⟩,q⟩
 |ref p=>
  cases g;have f:=e;rcases f with⟨xs,j,f⟩|⟨xs,j,f⟩
  .subst f;obtain⟨o,i,pl,l⟩:=I.list j;have d:=i.length;exact Calls.call_len_list pl.isList (by simp only[RB];ext) ⟨.int xs.length,H,I.tok _,⟨_,by simp only[RB];rw[d]⟩,q⟩
  .subst f;obtain⟨o,i,pl,l⟩:=I.tuple j;have d:=i.length;exact len_tuple pl (by simp only[RB];ext) ⟨.int xs.length,H,I.tok _,⟨_,by simp only[RB];rw[d]⟩,q⟩
 |_=>exact(show False from e).elim
end
structure aoC(h:Heap)(x dx C:Rq)(mA:Str->c5 Rf):Prop where
 obj:h.get? x=ax (acy C dx)
 ns:h.Ns1 dx mA
 ne:dx≠x
theorem C8{h:Heap}(n:h.Ns1 dx mA):∃od,h.get? dx=ax od/\∀name,acP name od=ax (mA name):=by
 obtain⟨o,c,k,f,i,g,_,hm⟩:=n;refine⟨o,f,λname=>?_⟩;have e:=hm name;unfold nsFind findBy at e;rw[<-ab3]at e;unfold acP;rw[i];dsimp only;split
 .rename_i y q;rw[q]at e;exact e9 ax e
 .rename_i q
  rw[q]at e;have a:c.toList.any (·.refKey)=Rh:=by rw[List.any_eq_false];intro y d;obtain⟨z,t,b⟩:=g y (VJ.mp d);simp[WJ.refKey,b]
  have j:¬c.toList.any (·.refKey)=OK:=by rw[a];exact Rg
  rw[ar j];exact e9 ax e
def Lo(f:Str)(v:V):cM (Str×V)->cM (Str×V)
 |[]=>[(f,v)]
 |(g,x)::r=>if g=f then(g,v)::r else(g,x)::Lo f v r
theorem aa2.some_of(r:aa2 (ax v) o):∃u,o=ax u/\RelV v u:=by
 cases o with
 |none=>exact(show False from r).elim
 |some u=>exact⟨u,rfl,r⟩
theorem Ds(r:RelV v u):PySem.W.handedIn u=OK:=by
 cases v with
 |Uo=>cases(show u=Rf.none from r);rfl
 |bl b=>cases(show u=Rf.bool b from r);rfl
 |int i=>obtain⟨t,e⟩:=(show∃t,u=Rf.int i t from r);cases e;rfl
 |str x=>obtain⟨t,e⟩:=(show∃t,u=Rf.str x t from r);cases e;rfl
 |byt b=>obtain⟨t,e⟩:=(show∃t,u=Rf.bytes b t from r);cases e;rfl
 |flt b=>obtain⟨t,e⟩:=(show∃t,u=Rf.float b t from r);cases e;rfl
 |ref a=>cases(show u=Rf.ref a from r);rfl
 |ty n=>cases(show u=Rf.type n from r);rfl
structure Cls(K:td)(C:Rq):Prop where
 pg:ab4 K C Str.empty=OK
 hd:T7 K C=OK
 po:abM K C=OK
 sa:RI K (.ref C) "__setattr__"=ax (ax (.builtin "object.__setattr__"))
def uP(K:td)(C:Rq)(f:Str):Prop:=RI K (.ref C) f=ax cL
structure Con(K:td)(C:Rq)(f:Str)(v:V)(u:Rf):Prop where
 at_:RI K (.ref C) f=ax (ax u)
 rel:RelV v u
 get:Ur K u "__get__"=ax cL
 cp:PySem.W.copiedNames.contains f=Rh
structure Meth(K:td)(C:Rq)(m:Str)(f:Rq):Prop where
 at_:RI K (.ref C) m=ax (ax (.ref f))
 fn:Us K (.ref f)=OK
 kp:UA K (.ref f)=OK
section
variable{X:Cx}{pins:cM (Rq×Obj)}{σ:St}{H:Hp}{s:Ro}{a C dx:Rq}{fs:cM (Str×V)}{f:Str}{v:V}{A:Sk}{E:Rf->Ro->Prop}
theorem Ij{prog:RT}{w:SG}{env:Env}{e:SI}{f:Str}{b:Pos}{s:Ro}{Q:Rf->Ro->Prop}(c:attributeBase e f env (eval e env)=eval e env)
  (h:wpAny (model prog w) A (eval e env) (λo s₁=>wpAny (model prog w) A (getAttr o f OK) Q E s₁) E s):wpAny (model prog w) A (eval (.Attribute e f b) env) Q E s:=
 Attribute_any_ h (by rw[arm_eval_Attribute,c])
end
def P1(K:td)(d:TE)(f:Str):TE:=λc H Q=>d c H λx b=>∃a C dx fs v,x=.ref a/\b a=ax (.ins C dx fs)/\Cls K C/\uP K C f/\fs.lookup f=ax v/\Q v b
def Pn(K:td)(e d:TE)(f:Str):TS:=λD b H=>d b H λy g=>e b g λx c=>∃a C dx fs,x=.ref a/\c a=ax (.ins C dx fs)/\Cls K C/\uP K C f/\fs.length<1000/\
 D.nx b (dg c a (.ins C dx (Lo f y fs)))
section
variable{X:Cx}{pins:cM (Rq×Obj)}{σ:St}{H:Hp}{s:Ro}{A:Sk}{E:Rf->Ro->Prop}{Q:Rf->Ro->Prop}{c:Rf}{b:Bool}
inductive Zw(K:td)(H:Hp):V->Rf->Prop where
 |Uo:Zw K H .Uo (.type "NoneType")
 |bl (x:Bool):Zw K H (.bl x) (.type "bool")
 |int (i:Int):Zw K H (.int i) (.type "int")
 |str (x:Str):Zw K H (.str x) (.type "str")
 |flt (x:UInt64):Zw K H (.flt x) (.type "float")
 |lst {a:Rq} {xs:cM V} (e:H a=ax (.lst xs)):Zw K H (.ref a) (.type "list")
 |frz {a:Rq} {o:Obj} {xs:cM V} (e:H a=ax (.frz o (.lst xs))):Zw K H (.ref a) (.type "list")
 |tup {a:Rq} {xs:cM V} (e:H a=ax (.tup xs)):Zw K H (.ref a) (.type "tuple")
 |dK {a:Rq} {W9:cM (rC×V)} (e:H a=ax (.dK W9)):Zw K H (.ref a) (.type "dict")
 |dT {a:Rq} {W9:cM (cM rC×V)} (e:H a=ax (.dT W9)):Zw K H (.ref a) (.type "dict")
 |ins {a C dx:Rq} {fs:cM (Str×V)} (e:H a=ax (.ins C dx fs)) (cl:Cls K C) (ha:RI K (.ref C) "__class__"=ax (ax (.builtin "object.__class__")))
   (hn:Ur K (.builtin "object.__class__") "__get__"=ax (ax (.builtin "getset_descriptor.__get__"))) (htk:PySem.W.takesIn K (.builtin "object.__class__")=ax OK)
   (hm:XM K C (.type "object")=ax OK):Zw K H (.ref a) (.ref C)
end
structure U5(k:Nat)(A:Sk):Prop where
 hd:A.handled=cL
 dp:A.depth+3*k+5<recursionLimit
 un:A.units+16*k+200<cLine
theorem U5.mono(r:U5 k A)(h:j<=k):U5 j A:=⟨r.hd,by have:=r.dp;ext,by have:=r.un;ext⟩
theorem U5.deeper(r:U5 (k+1) A)(env:Env):U5 k (A.deeper env):=
 ⟨r.hd,by have:=r.dp;show A.depth+1+3*k+5<_;ext,by have:=r.un;show A.units+3+16*k+200<_;ext⟩
theorem zE{A:Sk}:(A.under (.builtin "type.__call__" ⟨.ref C::us,kw⟩)).depth=A.depth+1:=by
 first|rfl|simp[Sk.under,aah.weight,aah.isCreation,aah.isGuard,aah.isCaller,aah.frames,aah.isFrame,guardIds]
theorem AG{A:Sk}:(A.under (.builtin "type.__call__" ⟨.ref C::us,kw⟩)).units=A.units+1:=by
 first|rfl|simp[Sk.under,aah.cUnits,aah.frames,aah.isFrame]
theorem U5.make(r:U5 (k+1) A)(C:Rq)(a:cM Rf)(b:cM (Str×Rf)):U5 k (A.under (.builtin "type.__call__" ⟨.ref C::a,b⟩)):=
 ⟨r.hd,by have:=r.dp;rw[zE];ext,by have:=r.un;rw[AG];ext⟩
theorem U5.depth(r:U5 k A):A.depth<recursionLimit:=by have:=r.dp;ext
theorem U5.units(r:U5 k A):A.units+64<cLine:=by have:=r.un;ext
def xm:TA:=λ_ H Q=>Q [] H
def mL(c:TE)(b:TA):TA:=λa H Q=>c a H λx e=>b a e λxs d=>Q (x::xs) d
section
variable{X:Cx}{e:SI}{es:cM SI}{te:TE}{t:TA}{Z:Pos}
theorem ah:PA X [] xm:=λ_ _ _ _ H Q I h=>Calls.spliced_nil ⟨[],H,I,.nil,h⟩
theorem aa(ha:PE X e te)(j:PA X es t)(hs:R0 (e::es) X.env=(Rh,eval e X.env)::R0 es X.env:=by rfl):PA X (e::es) (mL te t):=by intro Z a s b H Q I h;rw[hs];refine Calls.spliced_cons (fR (ha a s b H _ I h) λu c ⟨x,n,l,f,i⟩=>?_);exact fR (j Z a c b n _ l i) λo p ⟨xs,m,k,d,g⟩=>⟨x::xs,m,k,.cons f d,g⟩
def KJ(t:TA):TE:=λb H Q=>t b H λxs a=>xs.length<=RL/\∀p,a p=cL->Q (.ref p) (dg a p (.tup xs))
def LA(t:TA):TE:=λb H Q=>t b H λxs a=>xs.length<=RL/\∀p,a p=cL->Q (.ref p) (dg a p (.lst xs))
theorem eh{x1}(h:PA X es t):PE X (.Tuple es x1 Z) (KJ t):=by intro a s f H Q I i;refine wpAny_Tuple_spliced (fR (h Z a s f H _ I i) λg c ⟨xs,k,d,r,z,q⟩=>⟨by rw[<-r.length];exact z,?_⟩);have j:=d.TL.fresh (Rr _);refine⟨.ref c.heap.objs.size,dg k c.heap.objs.size (.tup xs),d.laid (λb u e=>c6 _ e) (Rr _) ?_,rfl,q _ j⟩;exact⟨z,g,r,⟨_,dN _ rfl,⟨rfl,_,rfl⟩,rfl⟩⟩
theorem cS(h:PA X es t):PE X (.List es Z) (LA t):=by intro a s f H Q I i;refine wpAny_List_spliced (fR (h Z a s f H _ I i) λg c ⟨xs,k,d,r,z,q⟩=>⟨by rw[<-r.length];exact z,?_⟩);have j:=d.TL.fresh (Rr _);refine⟨.ref c.heap.objs.size,dg k c.heap.objs.size (.lst xs),d.laid (λb u e=>c6 _ e) (Rr _) ?_,rfl,q _ j⟩;exact⟨z,g,0,r,dN _ rfl⟩
end
abbrev Sp:=cM V->Hp->VK->XK->Prop
abbrev C6:=cM Env->Hp->Ro->XK->Rf->Ro->Prop
structure Env0(P:RT)(w:SG)(K:td)(mg:Str->c5 Rf)(base:Heap)(A:Sk)(outer:cM Env)(s:Ro)(H:Hp):Prop where
 frames:A.frames=ax outer
 mod:Mod K mg base
 bs:∀b o,base.get? b=ax o->s.heap.get? b=ax o/\H b=cL
 bsz:base.objs.size<=s.heap.objs.size
 XX:s.heap.FunFrames base outer
 frf:∀b∈yP outer,H b=cL
 TL:YF P w H s.heap
 bare:AllBare s.gens
def CE(outer:cM Env)(P:RT)(w:SG)(H:Hp)(s:Ro)(Q:VK)(u:Rf)(a:Ro):Prop:=
 ∃v H',a.os=s.os/\AllBare a.gens/\Un (yP outer) [] H H' s.heap a.heap/\YF P w H' a.heap/\RelV v u/\Q v H'
def CR(b:C6)(outer:cM Env)(P:RT)(w:SG)(H:Hp)(s:Ro)(Q:VK)(E:XK)(r:aey)(a:Ro):Prop:=
 match r with
 |.ok (.ret u)=>CE outer P w H s Q u a
 |.ok _=>False
 |.error e=>b outer H s E e a
structure FnOk(P:RT)(w:SG)(K:td)(mg:Str->c5 Rf)(base:Heap)(CX:C6)(k:Nat)(f:Rq)(fd:S5)(ps:cM Str)(sp:Sp):Prop where
 len:∀vs H Q E,sp vs H Q E->vs.length=ps.length
 run:∀(A:Sk) (outer:cM Env) (s:Ro) (H:Hp) (args:Args) (us:cM Rf) (vs:cM V) (Q:VK) (E:XK),U5 k A->Env0 P w K mg base A outer s H->YO s fd args (ps.zip us)->Vals vs us->sp vs H Q E->
  codeAny (model P w) A (.call (.ref f) args) (CR CX outer P w H s Q E) s
theorem FnOk.imp{P:RT}{w:SG}{K:td}{mg:Str->c5 Rf}{base:Heap}{e:C6}{k:Nat}{f:Rq}{d:S5}{ps:cM Str}{sp b:Sp}(F:FnOk P w K mg base e k f d ps sp)
  (h:∀vs H Q E,b vs H Q E->sp vs H Q E):FnOk P w K mg base e k f d ps b:=
 ⟨λvs H Q E q=>F.len vs H Q E (h _ _ _ _ q),λA a s H c g vs Q E l m n i j=>F.run A a s H c g vs Q E l m n i (h _ _ _ _ j)⟩
theorem Env0.make{K:td}(e:Env0 P w K mg base A outer s H)(C:Rq)(a:cM Rf)(b:cM (Str×Rf)):
  Env0 P w K mg base (A.under (.builtin "type.__call__" ⟨.ref C::a,b⟩)) outer s H:=⟨by first|exact e.frames|(simpa [Sk.under,aah.envs,aah.isFrame,pushEnvs]using e.frames),e.mod,e.bs,e.bsz,e.XX,e.frf,e.TL,e.bare⟩
section
variable{X:Cx}{Z:cM (Rq×Obj)}{Y:St}{H:Hp}{s U:Ro}
theorem Inv.ahy(I:Inv X Z Y H s):Env0 X.prog X.w X.K X.mg X.base X.A X.stack s H:=
 ⟨I.ok.frames,I.ok.mod,I.bs,SH I.ok.bsz I.sz,I.stack,I.Y7,I.TL,I.bare⟩
theorem Inv.after{Q:VK}{u:Rf}(I:Inv X Z Y H s)(h:CE X.stack X.prog X.w H s Q u U):EP X Z Y Q u U:=by obtain⟨v,i,e,a,un,TL,r,q⟩:=h;obtain⟨f,g,d,t,c⟩:=U;obtain rfl:c=s.os:=e;exact⟨v,i,I.call (h':=f) (g':=g) (d':=d) (t':=t) (ch:=[]) un TL a (λb z=>a7 z (by simp)),r,q⟩
end
def tP(sp:Sp)(a:cM V)(E:XK)(t:TA):TE:=λb H Q=>t b H λvs c=>sp (vs++a) c Q E
def MD(C:Rq)(m:Str)(sp:Sp)(b:cM V)(E:XK)(e:TE)(t:TA):TE:=λc H Q=>e c H λx d=>∃a dx fs,x=.ref a/\d a=ax (.ins C dx fs)/\fs.lookup m=cL/\
 t c d λvs f=>sp (x::(vs++b)) f Q E
def Nh(C:Rq)(sp:Sp)(a:cM V)(E:XK)(t:TA):TE:=λc H Q=>t c H λvs b=>∀x dx,b x=cL->b dx=cL->dx≠x->
 sp (.ref x::(vs++a)) (dg (dg b dx (.own x)) x (.ins C dx [])) (λv d=>v=.Uo/\Q (.ref x) d) E
def Binds(K:td)(b:S5)(ps:cM Str)(ds:cM Rf):Prop:=
 ∀(s:Ro) (a:cM Rf),K.In s.heap->(a++ds).length=ps.length->YO s b ⟨a,[]⟩ (ps.zip (a++ds))
theorem Binds.all{K:td}{b:S5}{ps:cM Str}(h:∀us:cM Rf,us.length=ps.length->bindArgs b ⟨us,[]⟩=pure (ps.zip us)):Binds K b ps []:=λs us _ a=>by rw[SW]at a⊢;exact .of_eq (h us a)
def pI(d:C6)(X:Cx)(E:XK):Prop:=∀(a:cM (Rq×Obj)) (c:St) (H:Hp) (s:Ro) (e:Rf) (b:Ro),Inv X a c H s->d X.stack H s E e b->X.xe e b
section
variable{X:Cx}{T:C6}{k:Nat}{f C:Rq}{U:S5}{ps:cM Str}{sp:Sp}{Z:cM V}{ds:cM Rf}{E:XK}{x m:Str}{p Y apos:Pos}{e o:SI}{es:cM SI}{ta:TE}{t:TA}
theorem J3{a:cM (Rq×Obj)}{d:St}{H:Hp}{s:Ro}{Q:VK}{b:cM Rf}{vs:cM V}(F:FnOk X.prog X.w X.K X.mg X.base T k f U ps sp)(l:U5 k X.A)(q:Binds X.K U ps ds)(hd:Vals Z ds)(j:pI T X E)
  (I:Inv X a d H s) (r:Vals vs b) (h:sp (vs++Z) H Q E):wpAny (model X.prog X.w) X.A (call (.ref f) b) (EP X a d Q) X.xe s:=by
 have g:Vals (vs++Z) (b++ds):=r.append hd;have n:(b++ds).length=ps.length:=by rw[<-g.length];exact F.len _ _ _ _ h
 refine XW (Vk (F.run X.A X.stack s H ⟨b,[]⟩ (b++ds) (vs++Z) Q E l I.ahy (q s b I.YE n) g h) λr i c=>?_);cases r with
 |error e=>exact j a d H s e i I c
 |ok v=>
  cases v with
  |ret u=>exact I.after c
  |next=>exact False.elim c
  |brk=>exact False.elim c
  |cont=>exact False.elim c
theorem B2(F:FnOk X.prog X.w X.K X.mg X.base T k f U ps sp)(j:U5 k X.A)(n:Gl X x)(hm:X.mg x=ax (.ref f))(l:UA X.K (.ref f)=OK)(v:Binds X.K U ps ds)(hd:Vals Z ds)(i:pI T X E)
  (ha:PA X (e::es) t) (c:(x==("__debug__":Str))=Rh:=by decide) (u:R0 (e::es) X.env=(Rh,eval e X.env)::R0 es X.env:=by rfl) (b:(backTo Y (R0 es X.env)).any (·.1)=Rh:=by rfl):
  PE X (.Call (.Name x p) (e::es) [] Y) (tP sp Z E t):=by
 intro a s g H Q I h;refine Y9 (qQ I n hm ?_ c);refine PySem.W.callWith_K I.ok.mod.kin l (fR (ha Y a s g H _ I h) λy z ⟨vs,B,d,r,q⟩=>⟨d.YE,?_⟩) u b;exact J3 F j v hd i d r q
structure Mk(K:td)(C f:Rq):Prop where
 makes:acA K C=OK
 init:RI K (.ref C) "__init__"=ax (ax (.ref f))
 fn:Us K (.ref f)=OK
 kp:UA K (.ref C)=OK
end
section
variable{X:Cx}{CX:C6}{k:Nat}{f C:Rq}{fd:S5}{ps ks:cM Str}{sp:Sp}{E:XK}{x m:Str}{p pos apos aqX:Pos}{e o:SI}{es:cM SI}{kws:cM YQ}{te ta:TE}{t tk:TA}{nm:c5 Str}
structure ajv(K:td)(fd:S5)(ps ks:cM Str)(g:cM Rf->cM Rf->cM Rf)(gV:cM V->cM V->cM V):Prop where
 to:∀(s:Ro) (us ws:cM Rf),K.In s.heap->(g us ws).length=ps.length->YO s fd ⟨us,ks.zip ws⟩ (ps.zip (g us ws))
 rel:∀{vs:cM V} {us:cM Rf} {zs:cM V} {ws:cM Rf},Vals vs us->Vals zs ws->Vals (gV vs zs) (g us ws)
variable{g:cM Rf->cM Rf->cM Rf}{gV:cM V->cM V->cM V}
end
structure Tz(N P:cM Str)(sc:VI):Prop where
 kind:sc.kind=.function
 co:sc.isCoroutine=Rh
 gen:sc.isGenerator=Rh
 nd:N.Nodup
 pre:N.take P.length=P
 par:∀x∈P,sc.names.lookup x=ax .local\/sc.names.lookup x=ax .cell
 aeS:∀y∈sc.names,y.2≠.free
theorem v6{a:Str->c5 Sj}:∀{binds:cM (Str×Rf)} {m:Str->c5 Rf},(∀v,(x,v)∉binds)->bindL a binds m x=m x
 |[],_,_=>rfl
 |(n,v)::r,m,h=>by
  unfold bindL;rw[v6 λw b=>h w (Rm _ b)];split
  .have:x≠n:=by rintro rfl;exact h v Ri
   simp[this]
  .rfl
theorem vM{a:Str->c5 Sj}:∀{binds:cM (Str×Rf)} {m:Str->c5 Rf},(∀v,(x,v)∉binds)->bindC a binds m x=m x
 |[],_,_=>rfl
 |(n,v)::r,m,h=>by
  unfold bindC;rw[vM λw b=>h w (Rm _ b)];split
  .rfl
  .have:x≠n:=by rintro rfl;exact h v Ri
   simp[this]
theorem vX{kindOf:Str->c5 Sj}:∀{P:cM Str} {vs:cM Rf} {i:Nat} {m:Str->c5 Rf},P.Nodup->P[i]?=ax x->vs[i]?=ax v->kindOf x=ax .local->
  bindL kindOf (P.zip vs) m x=ax v
 |[],_,_,_,_,h,_,_=>by simp at h
 |_::_,[],_,_,_,_,h,_=>by simp at h
 |p::P,w::vs,0,m,nd,h1,h2,hk=>by simp at h1 h2;subst h1;subst h2;show bindL kindOf ((p,w)::P.zip vs) m p=_;unfold bindL;rw[v6 λv hv=>(UQ.mp nd).1 (ZG hv).1,ak hk];simp
 |p::P,w::vs,i+1,m,nd,h1,h2,hk=>by unfold bindL;exact vX (UQ.mp nd).2 (by simpa using h1) (by simpa using h2) hk
theorem vK{kindOf:Str->c5 Sj}:∀{P:cM Str} {vs:cM Rf} {i:Nat} {m:Str->c5 Rf},P.Nodup->P[i]?=ax x->vs[i]?=ax v->kindOf x≠ax .local->
  bindC kindOf (P.zip vs) m x=ax v
 |[],_,_,_,_,h,_,_=>by simp at h
 |_::_,[],_,_,_,_,h,_=>by simp at h
 |p::P,w::vs,0,m,nd,h1,h2,hk=>by simp at h1 h2;subst h1;subst h2;show bindC kindOf ((p,w)::P.zip vs) m p=_;unfold bindC;rw[vM λv hv=>(UQ.mp nd).1 (ZG hv).1,ar hk];simp
 |p::P,w::vs,i+1,m,nd,h1,h2,hk=>by unfold bindC;exact vK (UQ.mp nd).2 (by simpa using h1) (by simpa using h2) hk
def start(N:cM Str)(vs:cM V):St:=vs.map ax++RH (N.length - vs.length) cL
def gl(d:C6)(P:RT)(w:SG)(K:td)(mg:Str->c5 Rf)(base:Heap)(N:cM Str)(b:Str)(a:VI)(f:Rq)(cd:Rf)(A:Sk)(outer:cM Env)(s:Ro)(H:Hp)(E:XK):Cx where
 prog:=P
 w:=w
 K:=K
 mg:=mg
 base:=base
 A:=A.deeper (envOfC b a s.heap.objs.size f cd)
 N:=N
 s₀:=s
 H₀:=H
 env:=envOfC b a s.heap.objs.size f cd
 outer:=outer
 stack:=envOfC b a s.heap.objs.size f cd::outer
 ex:=[]
 calm:=OK
 fn:=λ_=>OK
 pn:=[]
 xe:=λe g=>wpAny (model P w) (A.deeper (envOfC b a s.heap.objs.size f cd)) (leaving (envOfC b a s.heap.objs.size f cd) e) (λ_ c=>d outer H s E e c) (λh c=>d outer H s E h c) g
theorem yr{a:VI}(h:a.names.lookup x=ax .cell):∃c,(Ut n a.names []).lookup x=ax c:=by have q:=Vn a.names n [] (.inl h);exact Wx.mp q
theorem CK{K:td}
  (S:Tz N ps scope) (hd:A.handled=cL) (g:Env0 P w K mg base A outer s H) (G:vs.length=ps.length) (r:Vals vs us)
  (x:InCallC s s.heap.objs.size (bindL (envOfC qual scope s.heap.objs.size f cd).kindOf (ps.zip us) λ_=>cL) (Ut (s.heap.objs.size+1) scope.names []) (bindC (envOfC qual scope s.heap.objs.size f cd).kindOf (ps.zip us) λ_=>cL) s1):
  Inv (gl CX P w K mg base N qual scope f cd A outer s H E) [] (start N vs) H s1:=by
 have C:ps.length<=N.length:=by have:=e9 Za S.pre;rw[Sd]at this;ext
 obtain⟨o,F,rfl,B⟩:=x.done;have j:∀b:Rq,b∉(gl CX P w K mg base N qual scope f cd A outer s H E).ex:=λb z=>a7 (show b∈([]:cM Rq)from z) (by simp);refine⟨⟨g.mod,S.kind,rfl,rfl,Rr _,λy z c o d=>?_,λy l=>?_,λy c _ h=>?_,λ_=>hd,Sk.frames_deeper g.frames,.inr ⟨rfl,rfl⟩,λb z=>a7 z (j b),g.bs,g.bsz,λb _ _=>j b,λb z=>a7 z (j b),g.XX,g.frf⟩,
  rfl,g.bare,Un.kept B,⟨_,x.toInCall.ns,λi y v o d I=>?_⟩,λy c h=>⟨_,x.cell y c h⟩,g.TL.fresh (Rr _),λy c h=>?_,λp n=>a7 (show p∈([]:cM (Rq×Obj))from n) (by simp),g.TL.kept B,?_⟩
 .exact name_of_addr x.apart (TM o) (TM d)
 .have l:=l
  rcases l with l|l
  .exact yr l
  .exact a7 rfl (S.aeS _ (TM l))
 .exact Vx (x.above y c (TM h))
 .have hi:i<vs.length:=by
   unfold start at d;by_cases hi:i<vs.length
   .exact hi
   .rw[TN (by simpa using hi)]at d;rw[Vo]at d;split at d<;>cases d
  have ha:vs[i]?=ax v:=by
   unfold start at d;rw[Tj (by simpa using hi),Rt]at d;cases e:vs[i]? with
   |none=>rw[e]at d;cases d
   |some a=>rw[e]at d;cases d;rfl
  obtain⟨u,t,rv⟩:=r.get ha;have n:ps[i]?=ax y:=by rw[<-S.pre,aax (by ext)];exact o
  have m:ps.Nodup:=by rw[<-S.pre];exact S.nd.sublist (List.take_sublist _ _)
  refine⟨u,rv,?_⟩;rcases S.par y (RU n)with k|k
  .exact .inl ⟨k,vX m n t k⟩
  .obtain⟨c,e⟩:=yr k;refine .inr ⟨.inl k,c,e,?_⟩;have q:=x.cell y c e;rw[vK m n t (by show scope.names.lookup y≠_;rw[k];decide)]at q;exact q
 .exact g.TL.fresh (Vx (x.above y c (TM h)))
 .unfold start;show _=N.length;rw[Ry,CL,S8];ext
theorem JJ{CX:C6}{P:RT}{w:SG}{K:td}{mg:Str->c5 Rf}{base:Heap}{k:Nat}{f:Rq}{name qual:Str}{params:Arguments}{body:cM Tq}{scope:VI}{dV kV doc pm S4 ct oc:Rf}{an od:c5 Rq}
  {osl:Array (c5 Rf)} {N ps:cM Str} {sp:Sp} (lk:K.lookup f=ax ⟨oc,od,.func (Vp name qual params body scope dV kV doc pm an S4 ct),osl⟩) (hcd:Zb K S4 qual=OK) (S:Tz N ps scope)
  (len:∀vs H Q E,sp vs H Q E->vs.length=ps.length)
  (V6:∀(A:Sk) (outer:cM Env) (s:Ro) (H:Hp) (vs:cM V) (Q:VK) (E:XK),U5 k (A.deeper (envOfC qual scope s.heap.objs.size f S4))->sp vs H Q E->
   ∃t,ZJ (gl CX P w K mg base N qual scope f S4 A outer s H E) body t/\t {nx:=λ_ H'=>Q .Uo H',rt:=Q} (start N vs) H):
  FnOk P w K mg base CX (k+1) f (Vp name qual params body scope dV kV doc pm an S4 ct) ps sp:=by
 refine⟨len,λA outer s H args us vs Q E hr e0 hb r hsp=>?_⟩;have hl:=len _ _ _ _ hsp;have KX:K.In s.heap:=e0.mod.kin.keeps λb o e=>(e0.bs b o e).1;have lim:s.heap.NoLimit:=e0.mod.nolimit.keeps λb o e=>(e0.bs b o e).1;have Wj:∀y∈ps.zip us,scope.names.lookup y.1=ax .local\/(scope.names.lookup y.1=ax .cell/\((Ut (s.heap.objs.size+1) scope.names []).lookup y.1).isSome=OK):=λ⟨n,v⟩ hy=>by
  rcases S.par n (ZG hy).1 with q|q
  .exact .inl q
  .exact .inr ⟨q,Vn _ _ _ (.inl q)⟩
 refine codeAny_call_function hr.depth (KX _ _ lk) rfl S.co S.gen rfl (PySem.W.codeRec_of KX hcd) (hb _ _ _ _ ?_);refine wpAny_newFunctionEnv_cells S.kind Wj λenv he s1 x=>?_;subst he;refine⟨lim.keeps x.toInCall.keep,codeAny_func ?_⟩;obtain⟨t,ht,hq⟩:=V6 A outer s H vs Q E (hr.deeper _) hsp;have I:Inv (gl CX P w K mg base N qual scope f S4 A outer s H E) [] (start N vs) H s1:=CK S hr.hd e0 hl r x;refine wpAny_mono (ht [] s1 (start N vs) H _ I hq) (λfl s' hs=>?_) λe s' hs=>hs
 have fin:∀{σ':St} {H':Hp} {v:V} {u:Rf},Inv (gl CX P w K mg base N qual scope f S4 A outer s H E) [] σ' H' s'->RelV v u->Q v H'->CE outer P w H s Q u s':=
  λ{σ' H' v u} J rv q=>⟨v,H',J.os,J.bare,J.base,J.TL,rv,q⟩
 cases fl with
 |ret u=>obtain⟨v,σ',H',J,rv,q⟩:=hs;exact fin J rv q
 |next=>obtain⟨σ',H',J,q⟩:=hs;exact fin (v:=V.Uo) (u:=Rf.none) J rfl q
 |brk=>obtain⟨_,_,_,q⟩:=hs;exact False.elim q
 |cont=>obtain⟨_,_,_,q⟩:=hs;exact False.elim q
section
variable{X:Cx}{x:Str}{p Z:Pos}{e:SI}{es:cM SI}{t:TA}{id T:String}{r:cM V->Hp->VK->Prop}
def Mp(r:cM V->Hp->VK->Prop)(t:TA):TE:=λa H Q=>t a H λvs b=>r vs b Q
theorem aH(n:U4 X (.builtin id) r)(l:Gl X x)(hm:X.mg x=cL)(k:SS x=ax (.builtin id))(ha:PA X (e::es) t)(hn:x≠ "__name__":=by decide)(c:(x==("__debug__":Str))=Rh:=by decide)
  (m:R0 (e::es) X.env=(Rh,eval e X.env)::R0 es X.env:=by rfl) (b:(backTo Z (R0 es X.env)).any (·.1)=Rh:=by rfl):PE X (.Call (.Name x p) (e::es) [] Z) (Mp r t):=by
 intro a s d H Q I h;refine Y9 (pQ I l hm k ?_ hn c);exact ahV (fR (ha Z a s d H _ I h) λf g ⟨vs,q,o,i,j⟩=>n a g d q vs f Q o i j) m b
theorem b8(n:U4 X (.type T) r)(l:Gl X x)(hm:X.mg x=cL)(k:SS x=ax (.type T))(ha:PA X (e::es) t)(hn:x≠ "__name__":=by decide)(c:(x==("__debug__":Str))=Rh:=by decide)
  (m:R0 (e::es) X.env=(Rh,eval e X.env)::R0 es X.env:=by rfl) (b:(backTo Z (R0 es X.env)).any (·.1)=Rh:=by rfl):PE X (.Call (.Name x p) (e::es) [] Z) (Mp r t):=by
 intro a s d H Q I h;refine Y9 (pQ I l hm k ?_ hn c);exact UG (fR (ha Z a s d H _ I h) λf g ⟨vs,q,o,i,j⟩=>n a g d q vs f Q o i j) m b
end
end L2
namespace HT
open PySem PyProof.Rows
section
open PySem.SeqAt
open PySem.AutoSeq1 (wpAny_loadPart')
open PySem.MeetsSeq PySem.MeetsSeq2 PySem.MeetsSeq3
end
section
variable{prog:RT}{w:SG}{A:Sk}{E:Rf->Ro->Prop}{s:Ro}
theorem cat_tup{t b:Rq}{vs ws:cM Rf}{Q:Rf->Ro->Prop}(r:IsTup s.heap t vs.toArray)(u:IsTup s.heap b ws.toArray)(o:vs≠[])
  (y:ws=[]->Q (.ref t) s) (v:ws≠[]->Q (.ref s.heap.objs.size) {s with heap:=s.heap.push {cls:=.type "tuple",data:=.seq (vs++ws).toArray}})
  (j:vs.length+ws.length<=RL):wpAny (model prog w) A (UB .Add (.ref t) (.ref b)) Q E s:=by
 obtain⟨⟨cls,dd,data,l⟩,i,q,n,p⟩:=id r;obtain⟨⟨z,g,k,c⟩,a,f,m,d⟩:=id u;simp only at q p f d;subst q p f d;have e:vs.toArray++ws.toArray=(vs++ws).toArray:=by simp
 by_cases h:ws=[]
 .exact concat_meets ⟨_,i,rfl⟩ ⟨_,a,rfl⟩ afX als aai ZV (ZK _ _)
   (tuple_addW1 t b vs.toArray ws.toArray n m dd g l c (by simpa using o) (by simp[h])) ⟨i,a,y h⟩
 .refine concat_meets ⟨_,i,rfl⟩ ⟨_,a,rfl⟩ afX als aai ZV (ZK _ _)
   (tuple_addW2 t b vs.toArray ws.toArray n m dd g l c (by simpa using o) (by simpa using h) (by rw[RB,RB];exact j)) ⟨i,a,?_⟩
  rw[e];exact v h
def sIx(n d:Nat):c5 Int->Nat
 |none=>d
 |some v=>if v<0 then(v+(n:Int)).toNat else min v.toNat n
theorem sIx_none(n d:Nat):sIx n d cL=d:=rfl
theorem sIx_nat(n d k:Nat):sIx n d (ax (k:Int))=min k n:=by show(if(k:Int)<0 then((k:Int)+(n:Int)).toNat else min (k:Int).toNat n)=min k n;rw[ar (by ext),Sy]
theorem Lg(n d:Nat)(hd:d<=n)(o:c5 Int):sIx n d o<=n:=by
 cases o with
 |none=>exact hd
 |some v=>
  show(if v<0 then(v+(n:Int)).toNat else min v.toNat n)<=n;by_cases a:v<0
  .rw[ak a];ext
  .rw[ar a];exact Zc _ _
theorem Ce(v:Int)(n d:Nat):(if v<0 then max (v+(n:Int)) 0 else min v (n:Int))=((sIx n d (ax v):Nat):Int):=by
 show(if v<0 then max (v+(n:Int)) 0 else min v (n:Int))=(((if v<0 then(v+(n:Int)).toNat else min v.toNat n):Nat):Int);by_cases a:v<0
 .simp only[ak a];ext
 .simp only[ar a];ext
theorem AU(lo hi:c5 Int)(n:Nat):R8.Slice.sliceAdjust lo hi 1 (n:Int)=(((sIx n 0 lo:Nat):Int),((sIx n n hi:Nat):Int)):=by
 have a:¬((1:Int)<0):=by ext
 unfold R8.Slice.sliceAdjust;simp only[a,if_false];refine Prod.ext ?_ ?_
 .cases lo with
  |none=>rfl
  |some v=>exact Ce v n 0
 .cases hi with
  |none=>rfl
  |some v=>exact Ce v n n
theorem Ak(i j:Nat):R8.Slice.slicePlaces (i:Int) (j:Int) 1=j - i:=by
 unfold R8.Slice.slicePlaces;have a:(1:Int)>0:=by ext
 simp only[a,if_true,Int.ediv_one];split<;>ext
theorem uH(p:Ys v o)(h:Q o s):wpAny (model prog w) A (R8.Slice.slicePartIndex v) Q E s:=by
 cases p with
 |none=>exact slicePart_none h
 |int i t=>exact slicePart_int h
theorem lG{lo hi:c5 Int}{Q:Int×Int×Nat->Ro->Prop}(hs:s.heap.IsSliceOf sl vl vu .none)(pl:Ys vl lo)(c:Ys vu hi)
  (h:Q (((sIx n 0 lo:Nat):Int),1,sIx n n hi - sIx n 0 lo) s):wpAny (model prog w) A (R8.Slice.sliceApplied (.ref sl) (pure (n:Int))) Q E s:=by
 obtain⟨e,a,d,b⟩:=id hs;unfold R8.Slice.sliceApplied R8.Slice.sliceFields;refine Ld (Ld (SJ a b rfl (Ld (SJ a b rfl (Ld (SJ a b rfl (Ru ?_)))))));refine Ld (slicePart_none ?_);rw[ar (by decide)];refine Ld (uH pl (Ld (uH c (Ld (Ru ?_)))));show wpAny _ _ (match R8.Slice.sliceAdjust lo hi 1 (n:Int)with|(lo,hi)=>pure (lo,(1:Int),R8.Slice.slicePlaces lo hi 1)) _ _ s;rw[AU lo hi n];show wpAny _ _ (pure (((sIx n 0 lo:Nat):Int),(1:Int),R8.Slice.slicePlaces ((sIx n 0 lo:Nat):Int) ((sIx n n hi:Nat):Int) 1)) _ _ s;rw[Ak];exact Ru h
theorem EY(xs:Array Rf)(i k:Nat):((Sb k).filterMap λ(m:Nat)=>xs[((i:Int)+(m:Int)*1).toNat]?).toArray=((xs.toList.drop i).take k).toArray:=by
 have e:(λ(m:Nat)=>xs[((i:Int)+(m:Int)*1).toNat]?)=λm=>xs[i+m]? :=by
  funext m;have:((i:Int)+(m:Int)*1).toNat=i+m:=by ext
  rw[this]
 rw[e];have:=pick_run xs i k;rw[List.filterMap_map]at this;have a:((λx=>xs[x]?)∘λx=>i+x)=λm=>xs[i+m]? :=rfl;rw[a]at this;rw[this]
theorem getItem_tuple_cut{lo hi:c5 Int}(b:IsTup s.heap t items)(hs:s.heap.IsSliceOf sl vl vu .none)(pl:Ys vl lo)(g:Ys vu hi)
  (j:¬(sIx items.size 0 lo=0/\sIx items.size items.size hi=items.size))
  (h:Q (.ref s.heap.objs.size) {s with heap:=s.heap.push {cls:=.type "tuple",data:=.seq ((items.toList.drop (sIx items.size 0 lo)).take (sIx items.size items.size hi - sIx items.size 0 lo)).toArray}})
  (k:items.size<=RL):wpAny (model prog w) A (getItem (.ref t) (.ref sl)) Q E s:=by
 have a:sizeOk (.seq ((items.toList.drop (sIx items.size 0 lo)).take (sIx items.size items.size hi - sIx items.size 0 lo)).toArray):=by show((items.toList.drop (sIx items.size 0 lo)).take (sIx items.size items.size hi - sIx items.size 0 lo)).toArray.size<=RL;rw[RB,Sd,Sl,VX];ext
 have o:sIx items.size items.size hi<=items.size:=Lg _ _ (Rr _) hi;obtain⟨i,c,e,l⟩:=id hs;have f:s.TypeIs (.ref sl) "slice":=⟨i,c,e⟩;unfold getItem
 try specialize U1 ?_
 first|refine Ld (Ru ?_)|skip
 refine Ld (aff b.typeIs (by decide) ?_);refine Ld (Uh b.typeIs S7
  (UL S7 b.typeIs entry_tuple_getitem ?_ (args_tuple_getitem _ _)))
 show wpAny _ _ (R8.Tuple.tupleItemsOf (.ref t)>>=_) _ _ s;refine Ld (tupleItemsOf_ b ?_);refine Ld (ZL f ?_);rw[ak (by decide)];refine Ld (lG hs pl g ?_);have d:¬((((sIx items.size 0 lo:Nat):Int)==0&&(1:Int)==1&&(sIx items.size items.size hi - sIx items.size 0 lo)==items.size)=OK):=by intro q;rw[Rz,Rz]at q;have n:=eq_of_beq q.1.1;have m:=eq_of_beq q.2;exact j ⟨by ext,by ext⟩
 show wpAny _ _ (if(((sIx items.size 0 lo:Nat):Int)==0&&(1:Int)==1&&(sIx items.size items.size hi - sIx items.size 0 lo)==items.size)=OK then _ else _) _ _ s;rw[ar d,EY]
 first
  |exact Ld (TV (Ru ⟨_,rfl,Ru h⟩) a)
  |exact Ld (TV (Ld (Ru (Ru ⟨_,rfl,Ru h⟩))) a)
  |exact Ld (Ld (TV (Ru (Ru ⟨_,rfl,Ru h⟩)) a))
  |exact Ld (Ld (TV (Ru ⟨_,rfl,Ru h⟩) a))
end
end HT
namespace L2
open PySem PySem.Spec PyProof.Rows
abbrev TO:=St->Hp->(c5 Int->Hp->Prop)->Prop
def PO(X:Cx)(e:c5 SI)(t:TO):Prop:=
 ∀(a:cM (Rq×Obj)) (s:Ro) (b:St) (H:Hp) (Q:c5 Int->Hp->Prop),Inv X a b H s->t b H Q->
  wpAny (model X.prog X.w) X.A (evalPart e X.env) (λu c=>∃o H',Inv X a b H' c/\Ys u o/\Q o H') X.xe s
def B0:TO:=λ_ H Q=>Q cL H
def JR(t:TE):TO:=λa H Q=>t a H λx b=>∃i,x=.int i/\Q (ax i) b
theorem pG:∀{a:cM Rf},Vals (ns.map V.int) a->IntsAre a ns:=by
 induction ns with
 |nil=>intro a r;rw[TQ]at r;cases r;exact .nil
 |cons n ns d=>
  intro a r;rw[RJ]at r;cases r with
  |cons c b=>obtain⟨t,e⟩:=c;subst e;exact .cons n t (d b)
section
variable{X:Cx}{e:SI}{U:TE}{Z Y:c5 SI}{S R:TO}{O P:Pos}
theorem di:PO X cL B0:=by intro a s b H Q I h;rw[alu];exact Ru ⟨cL,H,I,.none,h⟩
theorem cw(h:PE X e U):PO X (ax e) (JR U):=by intro a s b H Q I f;rw[evalPart_some];refine fR (h a s b H _ I f) λu k ⟨x,j,g,c,d⟩=>?_;obtain⟨i,rfl,q⟩:=d;obtain⟨t,rfl⟩:=c;exact⟨ax i,j,g,.int i t,q⟩
def LZ(X:Cx)(r:V->c5 Int->c5 Int->Hp->VK->Prop):Prop:=
 ∀(a:cM (Rq×Obj)) (s:Ro) (b:St) (H:Hp) (x:V) (v d c:Rf) (Z Y:c5 Int) (f:Rq) (Q:VK),Inv X a b H s->RelV x v->s.heap.IsSliceOf f d c .none->Ys d Z->Ys c Y->r x Z Y H Q->
  ∃T id,typeLookup (.type T) "__getitem__"=pure (ax (.builtin id))/\s.TypeIs v T/\wpAny (model X.prog X.w) X.A (getItem v (.ref f)) (EP X a b Q) X.xe s
def Qv(r:V->c5 Int->c5 Int->Hp->VK->Prop)(U:TE)(S R:TO):TE:=λa H Q=>U a H λx d=>S a d λl c=>R a c λu b=>r x l u b Q
theorem cb{r:V->c5 Int->c5 Int->Hp->VK->Prop}(B:LZ X r)(F:PE X e U)(C:PO X Z S)(y:PO X Y R):PE X (.Subscript e (.Slice Z Y cL P) O) (Qv r U S R):=by intro a s d H Q I h;refine Subscript_ (fR (F a s d H _ I h) λv k ⟨x,H1,M,m,p⟩=>?_);refine wpAny_Slice (fR (C a k d H1 _ M p) λg j ⟨l,N,L,pl,o⟩=>fR (y a j d N _ L o) λf c ⟨u,i,K,t,n⟩=>?_);rw[alu];refine Ru ?_;have J:Inv X a d i {c with heap:=c.heap.push {cls:=.type "slice",data:=.fields #[g,f,.none]}}:=K.kept (t':=c.toks) λb ob q=>c6 _ q;obtain⟨T,id,G,z,E⟩:=B a {c with heap:=c.heap.push {cls:=.type "slice",data:=.fields #[g,f,.none]}} d i x v g f l u c.heap.objs.size Q J m (Heap.IsSliceOf.new ..) pl t n;show wpAny (model X.prog X.w) X.A (subscriptTail e (.Slice Z Y cL P) v (.ref c.heap.objs.size)) (EP X a d Q) X.xe {c with heap:=c.heap.push {cls:=.type "slice",data:=.fields #[g,f,.none]}};exact tail_any (ops:=[.ref c.heap.objs.size,v]) z G E (by with_unfolding_all rfl)
def De(xs:cM V)(Z Y:c5 Int):cM V:=(xs.drop (HT.sIx xs.length 0 Z)).take (HT.sIx xs.length xs.length Y - HT.sIx xs.length 0 Z)
theorem sA(xs:cM V)(Z Y:c5 Int):(De xs Z Y).length<=xs.length:=by unfold De;rw[Sd,Sl];ext
def Nu(K:td):V->c5 Int->c5 Int->Hp->VK->Prop:=λx Z Y H Q=>∃a xs,x=.ref a/\We K H a xs/\
 ¬(HT.sIx xs.length 0 Z=0/\HT.sIx xs.length xs.length Y=xs.length)/\∀p,H p=cL->Q (.ref p) (dg H p (.tup (De xs Z Y)))
theorem Kn:LZ X (Nu X.K):=by
 intro d s o H x v t p Z Y u Q I i m pl j h;obtain⟨a,xs,rfl,k,l,q⟩:=h;cases i;obtain⟨n,r,g,f⟩:=I.tuple k;have c:n.toArray.size=xs.length:=by rw[RB];exact r.length.symm
 refine⟨"tuple",_,S7.lookup,g.typeIs,?_⟩;refine HT.getItem_tuple_cut g m pl j (by rw[c];exact l) ?_ (by rw[c];exact f);rw[c];refine⟨.ref s.heap.objs.size,_,I.laid (λb w q=>c6 _ q) (Rr _) ?_,rfl,q _ (I.TL.fresh (Rr _))⟩;exact⟨SH (sA xs Z Y) f,_,(r.drop (HT.sIx xs.length 0 Z)).take (HT.sIx xs.length xs.length Y - HT.sIx xs.length 0 Z),Zs.new _ _⟩
def Jr(K:td):R2:=λx y H Q=>∃a b xs ys,x=.ref a/\y=.ref b/\We K H a xs/\We K H b ys/\xs≠[]/\xs.length+ys.length<=RL/\
 (ys=[]->Q (.ref a) H)/\(ys≠[]->∀p,H p=cL->Q (.ref p) (dg H p (.tup (xs++ys))))
theorem Vals.aav(r:Vals xs us):us=[]↔xs=[]:=by
 cases r with
 |nil=>simp
 |cons _ _=>simp
theorem Ir:OpR X (UB .Add) (Jr X.K):=by intro f s r H x y v u Q I j i h;obtain⟨a,b,xs,t,rfl,rfl,ha,o,n,g,l,k⟩:=h;cases j;cases i;obtain⟨B,d,m,_⟩:=I.tuple ha;obtain⟨p,c,P,_⟩:=I.tuple o;refine HT.cat_tup m P (λz=>n (d.aav.mp z)) (λz=>⟨.ref a,H,I,rfl,l (c.aav.mp z)⟩) (λz=>?_) (by rw[<-d.length,<-c.length];exact g);refine⟨.ref s.heap.objs.size,_,I.laid (λb A q=>c6 _ q) (Rr _) ?_,rfl,k (λw=>z (c.aav.mpr w)) _ (I.TL.fresh (Rr _))⟩;exact⟨by rw[Ry];exact g,_,d.append c,Zs.new _ _⟩
end
def G4(n:Nat)(i:Int):c5 Nat:=if 0<=i then(if i<n then ax i.toNat else cL)else if -(n:Int)<=i then ax (i+n).toNat else cL
def pU(xs:cM α)(i:Int):c5 α:=(G4 xs.length i).bind λj=>xs[j]?
theorem Iz(h:G4 n i=ax j):seqIndex? i n=ax j/\j<n/\ -(n:Int)<=i/\i<n:=by
 unfold G4 at h;by_cases b:0<=i
 .rw[ak b]at h
  by_cases a:i<n
  .rw[ak a]at h;have e:=R9 h;exact⟨by rw[seqIndex_of b a,e],by ext,by ext,a⟩
  .rw[ar a]at h;cases h
 .rw[ar b]at h
  by_cases a: -(n:Int)<=i
  .rw[ak a]at h;have e:=R9 h;exact⟨by rw[seqIndex_neg (by ext) a,e],by ext,a,by ext⟩
  .rw[ar a]at h;cases h
theorem xo(h:pU xs i=ax v):∃j,seqIndex? i xs.length=ax j/\xs[j]?=ax v/\j<xs.length/\ -(xs.length:Int)<=i/\i<xs.length:=by
 unfold pU at h;cases e:G4 xs.length i with
 |none=>rw[e]at h;cases h
 |some j=>rw[e]at h;obtain⟨d,c,b,a⟩:=Iz e;exact⟨j,d,h,c,b,a⟩
theorem Bp{j:Nat}(h:xs[j]?=ax v):pU xs (j:Int)=ax v:=by
 have a:=(Rp.mp h).1;have e:G4 xs.length (j:Int)=ax j:=by unfold G4;rw[ak (by ext),ak (by ext)];simp
 unfold pU;rw[e];exact h
def tu(b:SI):Prop:=∀o i,subscripted b Rh o i=operate [o,i] (getItem o i)
def IxR(X:Cx)(r:R2):Prop:=
 ∀(c a:SI) (b:cM (Rq×Obj)) (s:Ro) (d:St) (H:Hp) (x y:V) (v u:Rf) (Q:VK),Inv X b d H s->RelV x v->RelV y u->r x y H Q->
  subscripted a Rh v u=operate [v,u] (getItem v u)->wpAny (model X.prog X.w) X.A (subscriptTail c a v u) (EP X b d Q) X.xe s
def Kb(X:Cx)(id:String)(r:V->cM V->Hp->VK->Prop):Prop:=
 ∀(a:cM (Rq×Obj)) (s:Ro) (b:St) (H:Hp) (x:V) (xs:cM V) (v:Rf) (c:cM Rf) (Q:VK),Inv X a b H s->RelV x v->Vals xs c->r x xs H Q->
  wpAny (model X.prog X.w) X.A (call (.builtin id) (v::c)) (EP X a b Q) X.xe s
section
variable{X:Cx}{a b:SI}{ta tb:TE}{Z:Pos}
theorem IxR.or(h:IxR X r)(h':IxR X r'):IxR X (λx y H Q=>r x y H Q\/r' x y H Q):=by
 intro c d e s f H x y v u Q I i g q j;rcases q with q|q
 .exact h c d e s f H x y v u Q I i g q j
 .exact h' c d e s f H x y v u Q I i g q j
theorem bE{r:R2}(i:IxR X r)(ha:PE X a ta)(j:PE X b tb)(hs:tu b):PE X (.Subscript a b Z) (Mv r ta tb):=by intro c s d H Q I h;exact Subscript_ (Lb ha j I h λv u e x y l k g f q=>i a b c e d l x y v u Q k g f q (hs _ _))
def NO(K:td):R2:=λx y H Q=>∃p xs i v,x=.ref p/\y=.int i/\Wh K H p xs/\pU xs i=ax v/\Q v H
def OE(K:td):R2:=λx y H Q=>∃p xs i v,x=.ref p/\y=.int i/\We K H p xs/\pU xs i=ax v/\Q v H
def On:R2:=λx y H Q=>∃z i c,x=.str z/\y=.int i/\z.length<=RL/\pU z.cps.toList i=ax c/\Q (.str ⟨#[c]⟩) H
theorem Hj:IxR X (NO X.K):=by
 intro f g c s A H x y v u Q I C B h m;obtain⟨p,xs,i,z,rfl,rfl,E,G,q⟩:=h;cases C;obtain⟨t,rfl⟩:=B;obtain⟨N,r,pl,O⟩:=I.list E;obtain⟨j,e,M,P,L,J⟩:=xo G;obtain⟨w,o,k⟩:=r.get M;have F:=r.length;have hn:=xV;have d:EP X c A Q w s:=⟨z,H,I,k,q⟩;by_cases n:0<=i
 .have l:i.toNat=j:=by
   rw[seqIndex_of n J]at e;exact R9 e
  exact item_listR pl.isList n (by ext) (by rw[l];simpa using o) d m
 .have l:(i+(N.toArray.size:Int)).toNat=j:=by
   rw[seqIndex_neg (by ext) L]at e;rw[RB,<-F];exact R9 e
  exact subscriptTail_builtinR pl.isList.typeIs afg.lookup
   (wpAny_getItem_list_neg pl.isList (by ext) (by rw[RB]<;>ext) (by ext) (by rw[l];simpa using o) ⟨rfl,d⟩) m
theorem LQ:IxR X (OE X.K):=by
 intro d e c s k H x y v u Q I m l h n;obtain⟨p,xs,i,z,rfl,rfl,o,B,q⟩:=h;cases m;obtain⟨t,rfl⟩:=l;obtain⟨N,r,pl,G⟩:=I.tuple o;obtain⟨j,E,C,M,L,J⟩:=xo B;obtain⟨w,F,f⟩:=r.get C;have A:=r.length;have hn:=xV;have g:EP X c k Q w s:=⟨z,H,I,f,q⟩;exact subscriptTail_builtinR pl.typeIs slot_tuple_getitem.lookup
  (getItem_tuple pl (by ext) (by ext) (by rw[RB,<-A];exact E) (by simpa using F) ⟨rfl,g⟩) n
theorem J2:IxR X On:=by
 intro d e f s C H x y v u Q I l k h m;obtain⟨z,i,c,rfl,rfl,F,o,q⟩:=h;obtain⟨t,rfl⟩:=l;obtain⟨E,rfl⟩:=k;obtain⟨j,g,w,G,r,p⟩:=xo o;have n:z.cps.toList.length=z.length:=by simp[Str.length]
 rw[n]at g r p;have hn:=xV;exact tail_any (WO s z t) slot_str_getitem.lookup (getItem_str (by have B:decide (i< -(2^63:Int))=Rh:=a5 (by ext);have A:decide (i≥2^63)=Rh:=a5 (by ext);rw[B,A,Ye]) (by rw[g];simpa using w) ⟨.str ⟨#[c]⟩,H,I.tok _,⟨_,rfl⟩,q⟩) m
def Pz(K:td):R2:=λx y H Q=>NO K x y H Q\/OE K x y H Q\/On x y H Q
theorem aX:IxR X (Pz X.K):=Hj.or (LQ.or J2)
theorem wM(lo hi:c5 Int)(n:Nat):(sliceBounds lo hi cL n).1=((HT.sIx n 0 lo:Nat):Int)/\(sliceBounds lo hi cL n).2.1=((HT.sIx n n hi:Nat):Int)/\(sliceBounds lo hi cL n).2.2=1:=by
 refine⟨?_,?_,rfl⟩
 .cases lo with
  |none=>simp[sliceBounds,HT.sIx]
  |some i=>
   simp only[sliceBounds,HT.sIx,acB,show(1:Int)>0 by decide,if_true];by_cases h:i<0
   .simp only[h,if_true]<;>ext
   .simp only[h,if_false]<;>ext
 .cases hi with
  |none=>simp[sliceBounds,HT.sIx]
  |some i=>
   simp only[sliceBounds,HT.sIx,acB,show(1:Int)>0 by decide,if_true];by_cases h:i<0
   .simp only[h,if_true]<;>ext
   .simp only[h,if_false]<;>ext
theorem vf(c:cM Rf)(lo hi:c5 Int):slicePick c.toArray lo hi cL=((c.drop (HT.sIx c.length 0 lo)).take (HT.sIx c.length c.length hi - HT.sIx c.length 0 lo)).toArray:=by obtain⟨f,e,d⟩:=wM lo hi c.toArray.size;unfold slicePick;rw[f,e,d];simp only[sliceRange_one,pick_run,RB]<;>rfl
def Na(K:td):V->c5 Int->c5 Int->Hp->VK->Prop:=λx lo hi H Q=>∃a xs,x=.ref a/\Wh K H a xs/\∀p,H p=cL->Q (.ref p) (dg H p (.lst (De xs lo hi)))
theorem He:LZ X (Na X.K):=by intro d s l H x v n m lo hi o Q I f k pl g h;obtain⟨a,xs,rfl,j,q⟩:=h;cases f;obtain⟨t,r,e,i⟩:=I.list j;have c:=r.length;refine⟨"list",_,afg.lookup,e.isList.typeIs,?_⟩;refine wpAny_getItem_list_slice e.isList k pl g .none (by simp) ?_ (by rw[RB]<;>ext);rw[vf,<-c];refine⟨.ref s.heap.objs.size,_,I.laid (λb p q=>c6 _ q) (Rr _) ?_,rfl,q _ (I.TL.fresh (Rr _))⟩;exact⟨SH (sA xs lo hi) i,_,0,(r.drop (HT.sIx xs.length 0 lo)).take (HT.sIx xs.length xs.length hi - HT.sIx xs.length 0 lo),dN _ rfl⟩
theorem U4.or(h:U4 X f r)(h':U4 X f r'):U4 X f (λxs H Q=>r xs H Q\/r' xs H Q):=by
 intro c s d H xs e Q I g q;rcases q with q|q
 .exact h c s d H xs e Q I g q
 .exact h' c s d H xs e Q I g q
theorem p9:U4 X (.type "list") (λxs H Q=>∃p ys,xs=[.ref p]/\(Wh X.K H p ys\/We X.K H p ys)/\∀l,H l=cL->Q (.ref l) (dg H l (.lst ys))):=by
 intro i s B H xs E Q I r h;obtain⟨p,ys,rfl,m,q⟩:=h;obtain⟨u,rfl,C⟩:=kX r;cases C
 have v:∀(d:cM Rf),Vals ys d->ys.length<=RL->∀(c:Heap) (g:Nat),(∀b o',s.heap.get? b=ax o'->c.get? b=ax o')->
   c.get? s.heap.objs.size=ax {cls:=.type "list",dict:=cL,data:=.seq d.toArray g,slots:= #[]}->EP X i B Q (.ref s.heap.objs.size) {s with heap:=c}:=λd f k c g j e=>
  ⟨.ref s.heap.objs.size,_,I.laid j (Rr _) (show UE X.prog X.w _ c _ (.lst ys)from⟨k,d,g,f,e⟩),rfl,q _ (I.TL.fresh (Rr _))⟩
 rcases m with m|m
 .obtain⟨d,f,pl,k⟩:=I.list m;have t:=f.length;obtain⟨o,y,A,n,z⟩:=pl.isList;exact alv p (.inl rfl) y A z (λc g j e=>v d f k c g j e) (by simp only[RB]<;>ext)
 .obtain⟨d,f,pl,k⟩:=I.tuple m;have t:=f.length;obtain⟨o,y,A,n,z⟩:=pl;exact alv p (.inr rfl) y A z (λc g j e=>v d f k c g j e) (by simp only[RB]<;>ext)
theorem cC:U4 X (.type "tuple") (λxs H Q=>∃p ys,xs=[.ref p]/\((Wh X.K H p ys/\∀l,H l=cL->Q (.ref l) (dg H l (.tup ys)))\/(We X.K H p ys/\Q (.ref p) H))):=by
 intro f s y H xs z Q I r h;obtain⟨p,ys,rfl,h⟩:=h;obtain⟨u,rfl,m⟩:=kX r;cases m;rcases h with⟨d,q⟩|⟨d,q⟩
 .obtain⟨j,c,pl,g⟩:=I.list d
  have i:=c.length;refine call_tuple_list pl.isList (λt n=>?_) (by simp only[RB]<;>ext);have k:=I.kept (t':=s.toks) n
  have v:=
   k.laid (t':=s.toks) (λb o e=>c6 _ e) (Rr _) (show UE X.prog X.w _ _ _ (.tup ys)from⟨g,j,c,Zs.new _ _⟩)
  exact⟨.ref t.objs.size,_,v,rfl,q _ (k.TL.fresh (Rr _))⟩
 .obtain⟨j,c,pl,g⟩:=I.tuple d;exact call_tuple_same pl ⟨.ref p,H,I,rfl,q⟩
def Qc(K:td)(T:String)(x:V)(H:Hp):Prop:=match x with
 |.str _=>T= "str"
 |.int _=>T= "int"
 |.ref p=>(T= "list"/\∃xs,Wh K H p xs)\/(T= "tuple"/\∃o,K.lookup p=ax o/\o.cls=.type "tuple"/\o.dict=cL)\/
   (T= "dict"/\((∃W9,H p=ax (.dK W9))\/∃W9,H p=ax (.dT W9)))\/(T= "set"/\∃S n,H p=ax (.set S n))
 |_=>False
theorem KF(I:Inv X pins σ H s)(r:RelV x v)(ty:Qc X.K T x H):
  s.TypeIs v T/\∀a,v=.ref a->∃ob,s.heap.get? a=ax ob/\ob.dict=cL:=by
 cases x with
 |str z=>obtain⟨t,rfl⟩:=r;cases(show T= "str" from ty);exact⟨WO s z t,λ_ e=>nomatch e⟩
 |int i=>obtain⟨t,rfl⟩:=r;cases(show T= "int" from ty);exact⟨Zd s i t,λ_ e=>nomatch e⟩
 |ref p=>
  cases r;rcases ty with⟨rfl,xs,j⟩|⟨rfl,o,d,k,g⟩|⟨rfl,d⟩|⟨rfl,S,n,d⟩
  .obtain⟨l,_,pl,_⟩:=I.list j;refine⟨pl.isList.typeIs,λa e=>?_⟩;cases e;obtain⟨o,n,e,c,g,_⟩:=pl;exact⟨o,e,g⟩
  .refine⟨⟨o,I.YE p o d,k⟩,λa e=>?_⟩;cases e;exact⟨o,I.YE _ o d,g⟩
  .have z:∃o,s.heap.get? p=ax o/\o.ExactDict:=by
    rcases d with⟨W9,d⟩|⟨W9,d⟩
    .obtain⟨_,_,_,_,o,_,_,e,f,_⟩:=I.TL p _ d;exact⟨o,e,f⟩
    .obtain⟨_,_,_,_,o,_,_,e,f,_⟩:=I.TL p _ d;exact⟨o,e,f⟩
   obtain⟨o,e,f⟩:=z;refine⟨⟨o,e,f.1⟩,λa h=>?_⟩;cases h;exact⟨o,e,f.2.1⟩
  .obtain⟨o,_,_,_,e,f,_⟩:=I.TL p _ d;refine⟨⟨o,e,f.1⟩,λa h=>?_⟩;cases h;exact⟨o,e,f.2.1⟩
 |_=>exact False.elim ty
def Mx(K:td)(T:String)(r:V->cM V->Hp->VK->Prop)(to:TE)(t:TA):TE:=λc H Q=>to c H λx d=>Qc K T x d/\t c d λxs e=>r x xs e Q
variable{o e:SI}{es:cM SI}{to:TE}{t:TA}{name:Str}{Z Y:Pos}{T id:String}{r:V->cM V->Hp->VK->Prop}
theorem eU(pa:PlainAttrs T)(slot:Slot T name id)(f:typeOf (.builtin id)=pure (.type "method_descriptor"))(hm:Kb X id r)(z:PE X o to)(ha:PA X (e::es) t)
  (C:attributeBase o name X.env (eval o X.env)=eval o X.env:=by rfl)
  (g:((backTo Y (R0 (e::es) X.env)).all (λx=> !x.1)&&(backToKw Y (keywordEach [] X.env)).all (λx=>x.1.isSome)
   &&decide ((e::es).length+([]:cM YQ).length+(if([]:cM YQ).isEmpty then 0 else 1)<30))=OK:=by rfl)
  (i:(Z.endLine==Y.line)=OK:=by rfl) (hs:R0 (e::es) X.env=(Rh,eval e X.env)::R0 es X.env:=by rfl) (j:(backTo Y (R0 es X.env)).any (·.1)=Rh:=by rfl):
  PE X (.Call (.Attribute o name Z) (e::es) [] Y) (Mx X.K T r to t):=by
 intro c s d H Q I h;refine wpAny_Call_method_late C g i rfl (fR (z c s d H _ I h) λv q ⟨x,G,m,k,ty,y⟩=>?_);obtain⟨B,A⟩:=KF m k ty;refine⟨T,id,pa,slot,f,B,A,?_⟩;have l:=ha Y c q d G _ m y;rw[hs]at l⊢;refine Calls.callWith_builtin (by show(Rh||(backTo Y (R0 es X.env)).any (·.1))=Rh;rw[j]<;>rfl) (Calls.evalArgs_plain ?_);exact fR l λn p ⟨vs,F,E,u,w⟩=>hm c p d F x vs v n Q E k u w
end
def Po(X:Cx)(id:String)(r:V->cM V->Hp->VK->Prop):Prop:=
 ∀(a:cM (Rq×Obj)) (s:Ro) (b:St) (H:Hp) (x:V) (xs:cM V) (v:Rf) (c:cM Rf) (Q:VK),Inv X a b H s->RelV x v->Vals xs c->r x xs H Q->
  wpAny (model X.prog X.w) X.A (call (.builtin id) (v::c)) (EP X a b Q) X.xe s
theorem Vals.one:∀{x:V} {a:cM Rf},Vals [x] a->∃u,a=[u]/\RelV x u
 |_,_,.cons r .nil=>⟨_,rfl,r⟩
theorem Vals.eraseIdx:∀{xs:cM V} {a:cM Rf} (i:Nat),Vals xs a->Vals (xs.eraseIdx i) (a.eraseIdx i)
 |_,_,_,.nil=>.nil
 |_,_,0,.cons _ t=>t
 |_,_,i+1,.cons r t=>.cons r (Vals.eraseIdx i t)
theorem Vals.rep(h:Vals xs us):∀k:Nat,Vals (RH k xs).flatten (RH k us).flatten
 |0=>.nil
 |k+1=>by rw[SQ,SQ,UU,UU];exact Vals.append h (Vals.rep h k)
theorem vz:∀(l:cM α) (i:Nat),(l.eraseIdx i).length<=l.length
 |[],_=>Rr _
 |_::_,0=>VW _
 |_::r,i+1=>Nat.succ_le_succ (vz r i)
theorem rJ(b:cM Rf):∀(k:Nat) (a:cM Rf),
  Xd (λx1 x2=>x1++x2) a.toArray (RH k b.toArray)=(a++(RH k b).flatten).toArray
 |0,a=>by simp
 |k+1,a=>by
  have e:a.toArray++b.toArray=(a++b).toArray:=by simp
  have c:(a++b)++(RH k b).flatten=a++(RH (k+1) b).flatten:=by rw[SQ,UU,T9]
  rw[<-c,<-rJ b k (a++b),<-e,SQ,Vl]
section
variable{X:Cx}{Z:cM (Rq×Obj)}{Y:St}{H:Hp}{s:Ro}{l b:Rq}{xs U zs:cM V}
theorem Inv.aeX{a its':cM Rf}(I:Inv X Z Y H s)(j:H l=ax (.lst xs))
  (e:s.heap.get? l=ax {cls:=.type "list",data:=.seq a.toArray n}) (h:f a.toArray=its'.toArray) (d:Vals U its') (c:U.length<=RL):
  Inv X Z Y (dg H l (.lst U)) {s with heap:=s.heap.update l (Obj.mapSeq f),toks:=t'}:=by
 have q:=amI e f;rw[h]at q;refine I.write (by rw[j];exact trivial) (.inl rfl) (λk u i g=>(d4 s.heap (Obj.mapSeq f) (et i)).trans g) ⟨_,q⟩ ?_;exact⟨c,its',_,d,q⟩
theorem Inv.aeF(I:Inv X Z Y H s)(c:Vals U SE)(a:U.length<=RL):
  Inv X Z Y (dg H s.heap.objs.size (.lst U)) {s with heap:=s.heap.push {cls:=.type "list",data:=.seq SE.toArray},toks:=t'}:=
 I.laid (λ_ _ q=>c6 _ q) (Rr _) ⟨a,SE,0,c,dN _ rfl⟩
theorem Inv.fresh(I:Inv X Z Y H s):H s.heap.objs.size=cL:=I.TL.fresh (Rr _)
theorem Inv.adF(I:Inv X Z Y H s)(c:H l=ax (.lst xs)):xs.length<=RL/\∃(a:cM Rf) (n:Nat),Vals xs a/\xs.length=a.length/\s.heap.get? l=ax {cls:=.type "list",data:=.seq a.toArray n}:=by obtain⟨z,a,n,r,e⟩:=I.TL l _ c;exact⟨z,a,n,r,r.length,e⟩
theorem Fk(h:n<=RL):R8.List.listTooLong n=Rh:=by unfold R8.List.listTooLong;exact a5 (by ext)
end
section
variable{X:Cx}
def B5:V->cM V->Hp->VK->Prop:=λx vs H Q=>∃l xs y,x=.ref l/\vs=[y]/\H l=ax (.lst xs)/\xs.length<RL/\Q .Uo (dg H l (.lst (xs++[y])))
theorem gn:Po X "list.append" B5:=by intro a s g H x vs v i Q I c rv h;obtain⟨l,xs,y,rfl,rfl,b,j,q⟩:=h;cases c;obtain⟨u,rfl,d⟩:=rv.one;obtain⟨z,f,n,r,k,e⟩:=I.adF b;refine Uk F.slot_list_append ⟨_,e,rfl⟩ F.entry_list_append (F.args_list_append_2 _ _) (PySem.list_append l f.toArray n u (by rw[RB];ext)) ⟨e,?_⟩;refine⟨.Uo,_,I.aeX b e (by simp) (r.append (.cons d .nil)) ?_,rfl,q⟩;rw[Ry,S0];ext
def ER:V->cM V->Hp->VK->Prop:=λx vs H Q=>∃l xs i k y,x=.ref l/\vs=[.int i]/\H l=ax (.lst xs)/\ -(2^63)<=i/\i<2^63/\seqIndex? i xs.length=ax k/\xs[k]?=ax y/\Q y (dg H l (.lst (xs.eraseIdx k)))
theorem yu:Po X "list.pop" ER:=by
 intro c s C H x vs v E Q I f rv h;obtain⟨l,xs,i,k,y,rfl,rfl,d,B,A,p,j,q⟩:=h;cases f;obtain⟨u,rfl,g⟩:=rv.one;obtain⟨t,rfl⟩:=g;obtain⟨z,b,n,r,o,e⟩:=I.adF d;obtain⟨w,m,a⟩:=r.get j;refine Uk F.slot_list_pop ⟨_,e,rfl⟩ F.entry_list_pop (F.args_list_pop_2 _ _)
  (MeetsSeq.list_pop_at l b.toArray n i t k w (abb B A) (by rw[RB,<-o];exact p) (by rw[<-Xe];exact m) (by rw[RB];ext)) ⟨e,?_⟩
 refine⟨y,_,I.aeX d e ?_ (r.eraseIdx k) ?_,a,q⟩
 .show b.toArray.eraseIdxIfInBounds k=(b.eraseIdx k).toArray;rw[List.eraseIdxIfInBounds_toArray]
 .have:=vz xs k;ext
theorem BQ(xs:cM α)(k:Nat):(RH k xs).flatten.length=k*xs.length:=by
 induction k with
 |zero=>simp
 |succ k a=>rw[SQ,UU,Ry,a,abc,YW]
end
section
variable{prog:RT}{w:SG}{A:Sk}{E:Rf->Ro->Prop}{s:Ro}
set_option maxRecDepth 100000 in
end
end L2
namespace Att
open PySem PySem.W PySem.Calls PyProof.Rows
theorem sD:∀(ns:cM Int) (vs:cM Rf),WellAll P h vs (ns.map WData.int)->IntsAre vs ns:=by
 intro ns
 induction ns with
 |nil=>intro vs w;rw[TQ]at w;cases w;exact .nil
 |cons n ns c=>
  intro vs w;rw[RJ]at w;cases w with
  |cons a b=>cases a;exact .cons _ _ (c _ b)
theorem DJ{l:OpenLaw}(hn:l.most=ax n)
  (c:l.row.toRowW.claim.pre args=OK) (g:WellAll P h vals args):
  ∃a vs ns,vals=[Rf.ref a]/\args=[WData.list (ns.map WData.int)]/\h.get? a=ax {cls:=.type "list",data:=.seq vs.toArray}/\IntsAre vs ns/\ns.length<=n:=by
 have i:=(pre_splitW c).1;have k:l.pre.holds [] {args:=args}=OK:=(pre_splitW c).2;obtain⟨d,r,rfl,w,v⟩:=hasAllW_cons i;obtain rfl:=hasAllW_nil v;obtain⟨xs,rfl,u⟩:=hasW_list w;obtain⟨ns,rfl⟩:=items_int u;have b:ns.length<=n:=by
  unfold OpenLaw.pre at k;have f:(WTm.not (.lt (.lit (.int (n:Int))) (.len (.arg 0)))).holds [] {args:=[.list (ns.map .int)]}=OK:=by have f:=(holds_andW k).1;rw[hn]at f;exact f
  have e:=condW_of f (w_not (w_lt w_lit (w_len_list (w_arg rfl))));rw[CL]at e;refine Ze λq=>?_;have p:(n:Int)<((ns.length:Nat):Int):=by ext
  first
   |(rw[a4 p]at e;exact a7 e (by decide))
   |(simp at e;ext)
 cases g with
 |cons o m=>
  cases m;cases o with
  |list t j=>exact⟨_,_,ns,rfl,rfl,t,sD ns _ j,b⟩
theorem Db(l:OpenLaw)(args:cM WData):l.row.toRowW.claim.post args (.bool OK) args=OK:=
 postW_of
  (show WShape.has [] (.bool OK) .bool=OK by first|rfl|decide|simp[WShape.has,WShape.arms,WShape.armsAll])
  (show(WTm.eq .res (.lit (.bool OK))).value [] {args:=args,res:=ax (.bool OK),after:=args}=ax (.bool (OK==OK))from w_eq_bool (w_res rfl) w_lit) rfl
theorem attach_call{l:OpenLaw}{n:Nat}{q:RT}{c:cM Str}{E:(Str->c5 Rf)->Heap->Prop}{C:SG->Heap->Prop}{d:DefRec}
  (hn:l.most=ax n) (t:d.params.defaults=[])
  (call:∀(w:SG) (s₀ b:Ro) (mg k:Str->c5 Rf) (i:Rq) (o:Obj) (j cd g:Rf) (a:Rq) (vs:cM Rf) (ns:cM Int),
   Ground q c [] E w s₀ mg k b.heap->C w b.heap->
   b.heap.get? i=ax o->o.data=.func (docDef d.name d.params d.body d.scope j cd g)->b.heap.CodeRec cd d.name->mg d.name=ax (.ref i)->
   b.heap.get? a=ax {cls:=.type "list",data:=.seq vs.toArray}->IntsAre vs ns->ns.length<=n->b.gens= #[]->
   codeAny (model l.prog w) callerA (.call (.ref i) ⟨[.ref a],[]⟩) (λr s'=>r=.ok (.ret (.bool OK))/\OldK b.heap s'.heap/\s'.os=b.os/\AllBare s'.gens) b):
  WalkO q c E C l.row.toRowW d [] (λf vs=>afY f vs):=by
 intro w s₀ b mg k G Y i o j cd g dV kV I L u A p K B z Q y P F m J;obtain rfl:dV=.none:=Dflts.none A t;obtain rfl:kV=.none:=Dflts.noKw A;obtain⟨a,vs,ns,rfl,rfl,v,e,h⟩:=DJ hn y m;refine enter_call (Vk (call w s₀ b mg k i o j cd g a vs ns G Y I (fd_plain L) u p v e h K) λr s' H=>?_);obtain⟨rfl,O,N,M⟩:=H;exact⟨.inl ⟨.bool OK,.bool OK,[],rfl,λ_=>rfl,.bool OK,Db l _,λ_=>⟨VU,λ_ hm=>(nomatch hm)⟩⟩,O,N,M⟩
end Att
namespace L2
open PySem PySem.Spec PyProof.Rows
theorem oG:∀{vs:cM Rf} {ns:cM Int},IntsAre vs ns->Vals (ns.map V.int) vs
 |_,_,.nil=>.nil
 |_,_,.cons n t h=>.cons ⟨t,rfl⟩ (oG h)
def Om(H:Hp):Prop:=∀b,H b=cL\/∃o xs,H b=ax (.frz o (.lst xs))
theorem ES{P:RT}{w:SG}{K:td}{mg E:Str->c5 Rf}{CX:C6}{k:Nat}{L a:Rq}{X:S5}{x:Str}{sp:Sp}{c:Ro}{vs:cM Rf}{ns:cM Int}
  (Z:K.In c.heap) (l:c.heap.Ns RD mg) (f:c.heap.Ns builtinsNs E) (I:∀x:Str,x≠ "__name__"->E x=SS x) (Q:c.heap.NoLimit) (hg:c.gens= #[])
  (ha:c.heap.get? a=ax {cls:=.type "list",data:=.seq vs.toArray}) (hi:IntsAre vs ns) (S:ns.length<=RL) (hr:U5 k callerA)
  (F:∀base:Heap,K.In base->base.Ns RD mg->FnOk P w K mg base CX k L X [x] sp) (R:∀(s:Ro) (u:Rf),YO s X ⟨[u],[]⟩ [(x,u)])
  (G:∀H:Hp,Om H->Wh K H a (ns.map V.int)->sp [.ref a] H (λv _=>v=.bl OK) λ_ _ _=>False)
  (J:∀H e s',CX [] H c (λ_ _ _=>False) e s'->False):
  codeAny (model P w) callerA (.call (.ref L) ⟨[.ref a],[]⟩) (λr s'=>r=.ok (.ret (.bool OK))/\OldK c.heap s'.heap/\s'.os=c.os/\AllBare s'.gens) c:=by
 have rv:=oG hi;have O:=hi.length
 have i:∀H:Hp,Om H->Wh K H a (ns.map V.int)->YF P w H c.heap->(∀b,H b≠cL->b=a)->(H a≠cL->K.lookup a=cL)->
   codeAny (model P w) callerA (.call (.ref L) ⟨[.ref a],[]⟩) (λr s'=>r=.ok (.ret (.bool OK))/\OldK c.heap s'.heap/\s'.os=c.os/\AllBare s'.gens) c:=by
  intro H T hS TL U hK;have B:∀{b:Rq} {o:Obj},c.heap.get? b=ax o->H b=cL->(xJ c.heap H).get? b=ax o:=λe n=>D9 e n;have C:∀{b:Rq} {o:Obj} {t:Array WJ} {y:Nat},c.heap.get? b=ax o->o.data=.dict t y->H b=cL:=λ{b o t y} e d=>by
   cases q:H b with
   |none=>rfl
   |some u=>have M:b=a:=U b (by rw[q];simp);subst M;rw[ha]at e;cases e;have d':ZM.seq vs.toArray _=ZM.dict t y:=d;cases d'
  have g:∀{b:Rq} {m:Str->c5 Rf},c.heap.Ns b m->(xJ c.heap H).Ns b m:=λ{b m} ⟨o,t,y,e,d,r⟩=>⟨o,t,y,B e (C e d),d,r⟩;have p:K.In (xJ c.heap H):=λb o e=>B (Z b o e) (by
   cases q:H b with
   |none=>rfl
   |some u=>have M:b=a:=U b (by rw[q];simp);subst M;rw[hK (by rw[q];simp)]at e;cases e)
  have hM:Mod K mg (xJ c.heap H):=⟨p,g l,⟨E,g f,I⟩,let⟨mc,h1,h2⟩:=Q;⟨mc,g h1,h2⟩⟩;have e0:Env0 P w K mg (xJ c.heap H) callerA [] c H:=⟨rfl,hM,λb o e=>IJ e,Nat.le_of_eq (Dh _ _),trivial,λb f=>a7 (show b∈([]:cM Rq)from f) (by simp),TL,.of_eq hg⟩;refine Vk ((F _ p (g l)).run callerA [] c H ⟨[.ref a],[]⟩ [.ref a] [.ref a] _ _ hr e0 (R c (.ref a)) (.cons rfl .nil) (G H T hS)) λr s' h=>?_;cases r with
  |error e=>exact(J H e s' h).elim
  |ok fl=>
   cases fl with
   |next=>exact False.elim h
   |brk=>exact False.elim h
   |cont=>exact False.elim h
   |ret u=>
    obtain⟨v,H',os,A,un,N,r',q⟩:=h;have q':v=.bl OK:=q;subst q';obtain rfl:u=Rf.bool OK:=r';refine⟨rfl,OldK.of_keep λb o e=>?_,os,A⟩;cases q:H b with
    |none=>exact un.keep b o e q (by intro z;exact a7 (show b∈([]:cM Rq)from z) (by simp)) (by simp)
    |some u=>
     rcases T b with z|⟨ob,xs,z⟩
     .rw[q]at z;cases z
     .have z2:=un.YN b ob _ z;obtain⟨Y,_⟩:=TL b _ z;obtain⟨e2,_⟩:=N b _ z2;rw[e]at Y;cases Y;exact e2
 cases hk:K.lookup a with
 |some o=>have e:=Z a o hk;rw[ha]at e;cases e;refine i (λ_=>cL) (λ_=>.inl rfl) (.inr ⟨_,vs.toArray,_,hk,rfl,rfl,rfl,by rw[RB,O];exact S,by simpa using rv⟩) (λb u z=>by have j:(cL:c5 HO)=ax u:=z;cases j) (λb z=>a7 rfl z) λz=>a7 rfl z
 |none=>
  refine i (λb=>if b=a then ax (.frz {cls:=.type "list",data:=.seq vs.toArray} (.lst (ns.map V.int)))else cL) (λb=>?_) (.inl (.inr ⟨{cls:=.type "list",data:=.seq vs.toArray},ak rfl⟩)) (λb u z=>?_) (λb z=>?_) λ_=>hk
  .by_cases f:b=a
   .exact .inr ⟨_,_,ak f⟩
   .exact .inl (ar f)
  .by_cases f:b=a
   .have j:=(ak f).symm.trans z;cases j;subst f;exact⟨ha,by rw[CL];exact S,vs,_,rv,ha⟩
   .have j:=(ar f).symm.trans z;cases j
  .by_cases f:b=a
   .exact f
   .exact a7 (ar f) z
def ke(s:Tq)(j:Nat):Tq:=match s with
 |.ClassDef _ _ _ body _ _ _ _ _ _ _=>body.getD j (.Pass ⟨0,0,0,0⟩)
 |_=>.Pass ⟨0,0,0,0⟩
def qH(s:Tq):Arguments:=match s with
 |.FunctionDef _ a _ _ _ _ _ _ _ _=>a
 |_=>{posonlyargs:=[],args:=[],vararg:=cL,kwonlyargs:=[],kw_defaults:=[],kwarg:=cL,defaults:=[]}
def aC(s:Tq):cM Tq:=match s with
 |.FunctionDef _ _ b _ _ _ _ _ _ _=>b
 |_=>[]
def aI(s:Tq):VI:=match s with
 |.FunctionDef _ _ _ _ _ _ sc _ _ _=>sc
 |_=>{kind:=.function,names:=[],isGenerator:=Rh,isCoroutine:=Rh}
abbrev fF:C6:=λ_ _ _ _ _ _=>False
abbrev E0:XK:=λ_ _ _=>False
theorem Jl:pI fF X E0:=λ_ _ _ _ _ _ _ h=>h.elim
structure Vf(K:td)(x qual:Str)(st:Tq)(f:Rq)(fd:S5):Prop where
 ex:∃(oc:Rf) (od:c5 Rq) (kV doc pm:Rf) (an:c5 Rq) (S4 ct:Rf) (osl:Array (c5 Rf)),
  fd=Vp x qual (qH st) (aC st) (aI st) .none kV doc pm an S4 ct/\K.lookup f=ax ⟨oc,od,.func fd,osl⟩/\Zb K S4 qual=OK
 kp:UA K (.ref f)=OK
section
variable{P:RT}{w:SG}{K:td}{mg:Str->c5 Rf}{base:Heap}
theorem Vf.ok{x a:Str}{st:Tq}{f:Rq}{g:S5}{N ps:cM Str}{k:Nat}{sp:Sp}(F:Vf K x a st f g)(S:Tz N ps (aI st))(c:∀vs H Q E,sp vs H Q E->vs.length=ps.length)
  (n:∀(b:Rf) (A:Sk) (outer:cM Env) (s:Ro) (H:Hp) (vs:cM V) (Q:VK) (E:XK),U5 k (A.deeper (envOfC a (aI st) s.heap.objs.size f b))->sp vs H Q E->
   ∃t,ZJ (gl fF P w K mg base N a (aI st) f b A outer s H E).Zq (aC st) t/\t {nx:=λ_ H'=>Q .Uo H',rt:=Q} (start N vs) H):FnOk P w K mg base fF (k+1) f g ps sp:=by
 obtain⟨r,p,kV,m,o,u,b,ct,i,rfl,j,e⟩:=F.ex;refine JJ j e S c λA outer s H vs Q E l d=>?_;obtain⟨t,h,q⟩:=n b A outer s H vs Q E l d;exact⟨t,h.Zq,q⟩
theorem Vf.binds{x a:Str}{st:Tq}{f:Rq}{i:S5}{ps:cM Str}(F:Vf K x a st f i)
  (h:∀(kV b d:Rf) (e:c5 Rq) (g ct:Rf) (c:cM Rf),c.length=ps.length->bindArgs (Vp x a (qH st) (aC st) (aI st) .none kV b d e g ct) ⟨c,[]⟩=pure (ps.zip c)):Binds K i ps []:=by
 obtain⟨m,l,kV,b,d,e,g,ct,j,rfl,n,k⟩:=F.ex;exact .all (h kV b d e g ct)
theorem Fh{st:Tq}{kV a d b ct:Rf}(l:K.lookup f=ax ⟨oc,od,.func (Vp x qual (qH st) (aC st) (aI st) .none kV a d an b ct),osl⟩)
  (c:Zb K b qual=OK) (k:UA K (.ref f)=OK):Vf K x qual st f (Vp x qual (qH st) (aC st) (aI st) .none kV a d an b ct):=⟨⟨oc,od,kV,a,d,an,b,ct,osl,rfl,l,c⟩,k⟩
end
theorem Jo(a:U5 k A):A.units+1<cLine:=Yt (Nat.add_le_add_left (by decide:1<=64) _) a.units
section
variable{X:Cx}
theorem pv(i:Nat)(c:X.N[i]?=ax x:=by rfl)(b:PD X.env.scope x:=by first|exact a8 rfl|exact cv (a8 rfl)|exact cv (cv rfl))(hd:(x==("__debug__":Str))=Rh:=by decide)
  (a:(x==("__classdict__":Str))=Rh:=by decide):PE X (.Name x pos) (sE i):=KG c b hd a
end
def TC(H H':Hp):Prop:=∀b o,H b=ax o->H' b=ax o
theorem TC.refl(H:Hp):TC H H:=λ_ _ h=>h
theorem TC.trans(a:TC H H1)(b:TC H1 H2):TC H H2:=λc o h=>b c o (a c o h)
theorem TC.free(e:TC H H')(h:H' l=cL):H l=cL:=by
 cases q:H l with
 |none=>rfl
 |some o=>rw[e l o q]at h;cases h
end L2
set_option maxHeartbeats 4000000
namespace L2
open PySem PySem.Spec PyProof.Rows
section
variable{X:Cx}{Z:cM (Rq×Obj)}{σ:St}{H:Hp}{s:Ro}{h':Heap}
theorem Inv.WX{ch:cM Rq}(I:Inv X Z σ H s)(h:∀b∈ch,oV X Z H b)
  (k:∀b u,b∉ch->s.heap.get? b=ax u->h'.get? b=ax u) (j:s.heap.objs.size<=p)
  (new:UE X.prog X.w (dg H p o) h' p o):Inv X Z σ (dg H p o) {s with heap:=h',toks:=t'}:=by
 have hn:=I.TL.fresh j;have d:∀b u,H b=ax u->b∉ch:=λb u e z=>by rw[(h b z).1]at e;cases e
 have g:∀b u,s.heap.get? b=ax u->b≠p:=λb u e=>RO (RM (dt e) j);refine I.step (λb f=>?_) (λb u _ _ a e _=>k b u a e) (λb u _ _ a e _=>⟨u.slots,k b u a e⟩)
  (λb u _ e n=>by rw[aM (g b u e)];exact n) (λb u a e=>⟨u,k b u a e⟩) (λb xs e=>by rw[aM (dQ e hn)];exact e)
  (λb u xs e=>by rw[aM (dQ e hn)];exact e) (λb ps e=>⟨#[],by rw[aM (dQ e hn),e];simp⟩) (λm hm=>?_) (λb u e=>?_) I.bare
 .obtain⟨_,B,_,A,y,t⟩:=h b f;exact⟨A,B,y,t⟩
 .obtain⟨i,C,E,l,r⟩:=hm;exact⟨i,C,E,k _ i (λz=>(h _ z).2.1 rfl) l,r⟩
 .by_cases f:b=p
  .subst f;rw[bz]at e;cases e;exact new
  .rw[aM f]at e
   refine(I.TL b u e).WV (λc v a q=>k c v ?_ q) (λc q=>by rw[aM (dQ q hn)];exact q) λc xs q=>by rw[aM (dQ q hn)];exact q
   rcases a with z|z
   .rw[z];exact d b u e
   .exact d c _ z
end
def PF(K:td)(a:Rq):It:=
 ⟨λi H=>∃xs x,Wh K H a xs/\xs[i]?=ax x,
  λi H v b=>∃p x,H p=cL/\v=.ref p/\(∀xs,Wh K H a xs->xs[i]?=ax x)/\b=dg H p (.tup [.int i,x]),
  λi H=>∃xs,Wh K H a xs/\xs.length<=i⟩
theorem CW{K:td}{kk}(a e it:Rq)(U:e≠it):
  Turn P w K (.Tuple elts kk tp) (PF K a) [e,it] e (λi h=>(∃old,abd h e it i old)/\h.IsListIter it a i) where
 mem:=by simp
 obj:=λi h j b f=>by
  obtain⟨⟨old,g⟩,o,B,_,d⟩:=j;rcases Rn.mp f with z|f
  .subst z;exact⟨_,g,λv z=>by cases(show ZM.fields _=ZM.cell v from z)⟩
  .have z:b=it:=by simpa using f
   subst z;exact⟨o,B,λv z=>by rw[d]at z;cases z⟩
 keep:=λi h h' j k=>by obtain⟨⟨old,g⟩,c⟩:=j;exact⟨⟨old,k e (by simp) _ g⟩,c.at λo q=>k it (by simp) o q⟩
 item:=by
  intro X M A N R i l s Q H E I t j F;subst M A N;obtain⟨⟨old,g⟩,c⟩:=j;obtain⟨xs,x,r,y⟩:=F;obtain⟨SE,rv,p,Z⟩:=I.list r;obtain⟨u,hu,Y⟩:=rv.get y;refine wpAny_pyNext_enum_item g c p.isList (by simpa using hu) U λh1 B O hT hsz hk=>⟨_,rfl,?_⟩;refine WQ B λT G m=>?_;have n:=dt g;have C:it<s.heap.objs.size:=by obtain⟨_,z,_⟩:=c;exact dt z
  have hn:=I.TL.fresh (Rr _);have kk:∀b o,b∉[e,it]->s.heap.get? b=ax o->T.get? b=ax o:=λb o f q=>by have S:b≠e:=λz=>f (by simp[z]);have h4:b≠it:=λz=>f (by simp[z]);exact(m.2 b S).trans (hk b o S h4 q)
  have L:=(m.2 _ (Ti n)).trans hT
  have I2:Inv X l Q (dg H s.heap.objs.size (.tup [.int i,x])) {s with heap:=T,toks:=s.toks+1}:=
   I.WX t kk (Rr _) ⟨by show 2<=RL;decide,[.int i s.toks,u],.cons ⟨_,rfl⟩ (.cons Y .nil),⟨_,L,⟨rfl,_,rfl⟩,rfl⟩⟩
  refine⟨.ref s.heap.objs.size,_,I2,rfl,⟨_,x,hn,rfl,λys hy=>by rw[I.aaR hy r];exact y,rfl⟩,⟨⟨u,G⟩,O.at λo q=>(m.2 it U.symm).trans q⟩,λb f=>?_⟩;have J:b≠s.heap.objs.size:=by
   rcases Rn.mp f with z|f
   .rw[z];exact RO n
   .rw[show b=it by simpa using f];exact RO C
  rw[aM J];exact(t b f).1
 done:=by intro X M A N R i l s Q H E I t j F;subst M A N;obtain⟨⟨old,g⟩,c⟩:=j;obtain⟨xs,r,y⟩:=F;obtain⟨SE,rv,p,Z⟩:=I.list r;obtain⟨f0,f1,f2,f3,f4,f5⟩:=t it (by simp);have hl:=rv.length;exact wpAny_pyNext_enum_end (I.ok.hd R) g c p.isList (by simp;ext) λh1 eb=>⟨rfl,I.turned (λb o f q=>eb b o f q) f0 f1 f3 f4 f5⟩
 self:=λ_ _ _ _ _ j h=>by obtain⟨⟨old,g⟩,_⟩:=j;exact U6 g h
mutual
inductive DV(K:td)(H:Hp):V->lD->Prop
 |Uo:DV K H .Uo .none
 |bl (b:Bool):DV K H (.bl b) (.bool b)
 |int (i:Int):DV K H (.int i) (.int i)
 |str (x:Str):DV K H (.str x) (.str x)
 |tup {a:Rq} {xs:cM V} {ds:cM lD}:We K H a xs->T8 K H xs ds->DV K H (.ref a) (.tuple ds)
 |lst {a:Rq} {xs:cM V} {ds:cM lD}:Wh K H a xs->T8 K H xs ds->DV K H (.ref a) (.list ds)
inductive T8(K:td)(H:Hp):cM V->cM lD->Prop
 |nil:T8 K H [] []
 |cons {v:V} {vs:cM V} {d:lD} {ds:cM lD}:DV K H v d->T8 K H vs ds->T8 K H (v::vs) (d::ds)
end
section
variable{X:Cx}{Z:cM (Rq×Obj)}{σ:St}{H:Hp}{s:Ro}
mutual
theorem DV.reads(I:Inv X Z σ H s):∀{v:V} {d:lD} {u:Rf},DV X.K H v d->RelV v u->∃as,Reads s.heap u d as
 |_,_,_,.Uo,r=>by cases r;exact⟨_,.none⟩
 |_,_,_,.bl b,r=>by cases r;exact⟨_,.bool b⟩
 |_,_,_,.int i,r=>by obtain⟨t,rfl⟩:=r;exact⟨_,.int i t⟩
 |_,_,_,.str x,r=>by obtain⟨t,rfl⟩:=r;exact⟨_,.str x t⟩
 |_,_,_,.tup h hs,r=>by cases r;obtain⟨a,rv,⟨o,e,c,n,d⟩,_⟩:=I.tuple h;obtain⟨as,q⟩:=T8.reads I hs rv;exact⟨_,.tuple e c d (by simpa using q)⟩
 |_,_,_,.lst h hs,r=>by cases r;obtain⟨a,rv,⟨o,n,e,c,_,d⟩,_⟩:=I.list h;obtain⟨as,q⟩:=T8.reads I hs rv;exact⟨_,.list e c d (by simpa using q)⟩
theorem T8.reads(I:Inv X Z σ H s):∀{vs:cM V} {ds:cM lD} {a:cM Rf},T8 X.K H vs ds->Vals vs a->∃as,ady s.heap a ds as
 |_,_,_,.nil,r=>by cases r;exact⟨_,.nil⟩
 |_,_,_,.cons h hs,r=>by
  cases r with
  |cons c b=>obtain⟨as,q⟩:=DV.reads I h c;obtain⟨bs,d⟩:=T8.reads I hs b;exact⟨_,.cons q d⟩
end
end
def G9(K:td)(a:Bool):R2:=λx y H Q=>∃dx dy,DV K H x dx/\DV K H y dy/\dx.canLay0=OK/\dy.canLay0=OK/\dx.depth<=64/\Q (.bl (if a then !lD.eqv dx dy else lD.eqv dx dy)) H
section
variable{X:Cx}
theorem bO(l:X.A.units+64<cLine):OpR X (To .Eq) (G9 X.K Rh):=by intro a s k H x y v u Q I c b h;obtain⟨dx,n,j,i,g,f,m,q⟩:=h;obtain⟨o,e⟩:=j.reads I c;obtain⟨bs,d⟩:=i.reads I b;exact ai9 e d g f (by ext) ⟨.bl _,H,I,rfl,q⟩
theorem kJ(l:X.A.units+64<cLine):OpR X (To .NotEq) (G9 X.K OK):=by intro a s k H x y v u Q I c b h;obtain⟨dx,n,j,i,g,f,m,q⟩:=h;obtain⟨o,e⟩:=j.reads I c;obtain⟨bs,d⟩:=i.reads I b;exact aja e d g f (by ext) ⟨.bl _,H,I,rfl,q⟩
theorem fk:OpR X (UB .FloorDiv) (rI (λ_ j=>0<j/\j.natAbs.log2<9000) λi j=>.int (i/j)):=OV λi j _ _ _ _ _ a q=>by have b:(0:Int)<j:=a.1;exact floordiv_int (by ext) (by rw[Int.fdiv_eq_ediv_of_nonneg i (by ext)];exact q) (.inl (PyProof.noPylong_of_log2 a.2))
end
def kO(env:Env):cM (Str×Sj)->cM (Str×Rq)->cM (Str×Rq)
 |[],acc=>acc
 |(n,k)::r,acc=>if(k==Sj.free)=OK then(match env.cells.lookup n with|some c=>kO env r ((n,c)::acc)|none=>kO env r acc)else kO env r acc
theorem pk{f:Str×Sj->cM (Str×Rq)->Sem (ForInStep (cM (Str×Rq)))}
  (g:∀n k a,(k==Sj.free)=Rh->f (n,k) a=pure (.yield a)) (d:∀n c a,env.cells.lookup n=ax c->f (n,.free) a=pure (.yield ((n,c)::a))):
  ∀(names:cM (Str×Sj)) (a:cM (Str×Rq)),(∀y∈names,y.2=.free->∃c,env.cells.lookup y.1=ax c)->forIn names a f=pure (kO env names a)
 |[],a,_=>rfl
 |(n,k)::r,a,h=>by
  have i:=λy l=>h y (Rm _ l);rw[Xf];cases hk:(k==Sj.free)with
  |false=>rw[g n k a hk,pure_bind];show forIn r a f=_;rw[pk g d r a i];simp only[kO,hk,Yo,if_false]
  |true=>
   have e:k=.free:=by simpa using hk
   subst e;obtain⟨c,j⟩:=h _ Ri rfl;rw[d n c a j,pure_bind];show forIn r ((n,c)::a) f=_;rw[pk g d r _ i];have b:=j;simp only[kO,hk,if_true,b]
theorem uz(h:∀y∈scope.names,y.2=.free->∃c,env.cells.lookup y.1=ax c):closureFor scope env=pure (kO env scope.names []):=by simp only[closureFor];rw[pk (λn k a b=>by simp only[b,Yo,if_false]) (λn c a d=>by simp only[fo,if_true,cellOf,d,pure_bind]) scope.names [] h,pure_bind]
theorem nk:∀(names:cM (Str×Sj)) (a:cM (Str×Rq)),(∀x c,a.lookup x=ax c->env.cells.lookup x=ax c)->∀x c,(kO env names a).lookup x=ax c->env.cells.lookup x=ax c
 |[],_,h,x,c,e=>h x c e
 |(n,k)::r,a,h,x,c,e=>by
  unfold kO at e;split at e
  .split at e
   .rename_i g b
    refine nk r _ (λy d q=>?_) x c e;rw[S3]at q;split at q
    .rename_i f;cases q;rw[eq_of_beq f];exact b
    .exact h y d q
   .exact nk r a h x c e
  .exact nk r a h x c e
theorem oP:∀(names:cM (Str×Sj)) (a:cM (Str×Rq)) (x:Str),(a.lookup x).isSome=OK->((kO env names a).lookup x).isSome=OK
 |[],_,_,h=>h
 |(n,k)::r,a,x,h=>by
  unfold kO;split
  .split
   .refine oP r _ x ?_
    rw[S3];split
    .rfl
    .exact h
   .exact oP r a x h
  .exact oP r a x h
theorem pV:∀(names:cM (Str×Sj)) (a:cM (Str×Rq)) (x:Str) (c:Rq),(x,Sj.free)∈names->env.cells.lookup x=ax c->((kO env names a).lookup x).isSome=OK
 |[],_,_,_,h,_=>by cases h
 |(n,k)::r,a,x,c,h,hc=>by
  rcases Rn.mp h with z|h
  .cases z;simp only[kO,fo,if_true,hc];exact oP r _ _ (by simp[S3])
  .unfold kO
   split
   .split
    .exact pV r _ x c h hc
    .exact pV r a x c h hc
   .exact pV r a x c h hc
theorem yk(h:(x,Sj.free)∈names)(a:env.cells.lookup x=ax c):(kO env names []).lookup x=ax c:=by
 have q:=pV names [] x c h a;cases e:(kO env names []).lookup x with
 |none=>rw[e]at q;cases q
 |some d=>have z:=nk names [] (λy d q=>by cases q) x d e;rw[a]at z;exact z.symm
theorem zo{env:Env}{a:VI}{x:Str}{k:Sj}(h:(relabel a env).names.lookup x=ax k):∃k0,(x,k0)∈a.names/\(k=k0\/(k0=.free/\k=.cell)):=by
 obtain⟨⟨n,k0⟩,hm,e⟩:=RF.mp (TM h);simp only at e;split at e
 .rename_i b
  cases e;have c:(k0==Sj.free)=OK:=by rw[Rz,Rz]at b;exact b.1.1
  exact⟨k0,hm,.inr ⟨by simpa using c,rfl⟩⟩
 .cases e;exact⟨_,hm,.inl rfl⟩
theorem mI{env:Env}:∀{names:cM (Str×Sj)} {x:Str},names.lookup x=ax .free->
  (names.map λ(n,k)=>if(k==Sj.free&&env.scope.kind==.function&&env.kindOf n==ax .cell)then(n,Sj.cell)else(n,k)).lookup x=ax .cell\/
  (names.map λ(n,k)=>if(k==Sj.free&&env.scope.kind==.function&&env.kindOf n==ax .cell)then(n,Sj.cell)else(n,k)).lookup x=ax .free
 |[],_,h=>by cases h
 |(n,k)::r,x,h=>by
  rw[S3]at h;rw[RJ];dsimp only;by_cases a:(k==Sj.free&&env.scope.kind==.function&&env.kindOf n==ax .cell)=OK
  .rw[ak a,S3]
   cases hx:x==n with
   |true=>exact .inl rfl
   |false=>rw[hx]at h;exact mI h
  .rw[ar a,S3]
   cases hx:x==n with
   |true=>rw[hx]at h;exact .inr h
   |false=>rw[hx]at h;exact mI h
def i8(own:cM Str)(a:cM (Str×Nat)):cM Str:=own++a.map (·.1)
def rQ(own:cM Str)(b:cM (Str×Nat))(a:St):St:=own.map (λ_=>cL)++b.map λp=>(a[p.2]?).join
def aby(X:Cx)(a:VI):cM (Str×Nat)->Prop
 |[]=>True
 |p::r=>(X.N[p.2]?=ax p.1/\a.names.lookup p.1=ax .free/\(X.env.scope.names.lookup p.1=ax .cell\/X.env.scope.names.lookup p.1=ax .free))/\aby X a r
theorem aby.mem:∀{a:cM (Str×Nat)},aby X scope a->∀p∈a,X.N[p.2]?=ax p.1/\scope.names.lookup p.1=ax .free/\(X.env.scope.names.lookup p.1=ax .cell\/X.env.scope.names.lookup p.1=ax .free)
 |[],_,p,hp=>by cases hp
 |q::r,h,p,hp=>by
  rcases Rn.mp hp with z|hp
  .rw[z];exact h.1
  .exact h.2.mem p hp
def wY(X:Cx)(a:VI)(C:Rq):cM (Str×Rq):=Ut (C+1) a.names (kO X.env a.names [])
theorem uR:∀(names:cM (Str×Sj)) (n:Nat) (b:cM (Str×Rq)) (x:Str) (c:Rq),(Ut n names b).lookup x=ax c->(n<=c/\(x,Sj.cell)∈names)\/b.lookup x=ax c
 |[],_,_,_,_,h=>.inr h
 |(y,k)::r,n,b,x,c,h=>by
  unfold Ut at h;by_cases d:(k==Sj.cell)=OK
  .rw[ak d]at h
   have e:k=.cell:=by simpa using d
   rcases uR r _ _ x c h with⟨a,f⟩|a
   .exact .inl ⟨WK a,Rm _ f⟩
   .rw[S3]at a
    split at a
    .rename_i g;cases a;exact .inl ⟨Rr _,by rw[eq_of_beq g,e];exact Ri⟩
    .exact .inr a
  .rw[ar d]at h
   rcases uR r _ _ x c h with⟨a,f⟩|a
   .exact .inl ⟨a,Rm _ f⟩
   .exact .inr a
theorem Fm:∀(names:cM (Str×Sj)) (n:Nat) (a:cM (Str×Rq)) (x:Str),(x,Sj.cell)∉names->(Ut n names a).lookup x=a.lookup x
 |[],_,_,_,_=>rfl
 |(y,k)::r,n,a,x,h=>by
  have c:=λz=>h (Rm _ z);unfold Ut;by_cases b:(k==Sj.cell)=OK
  .have e:k=.cell:=by simpa using b
   rw[ak b,Fm r _ _ x c,S3];have d:(x==y)=Rh:=by refine beq_eq_false_iff_ne.mpr λz=>h ?_;rw[z,e];exact Ri
   rw[d]
  .rw[ar b];exact Fm r _ _ x c
theorem ur:∀(names:cM (Str×Sj)) (h:Heap) (b:cM (Str×Rq)) (x:Str) (c:Rq),(Ut h.objs.size names b).lookup x=ax c->(h.objs.size<=c/\(pushCells h names).IsCell c cL)\/b.lookup x=ax c
 |[],_,_,_,_,e=>.inr e
 |(y,k)::r,h,b,x,c,e=>by
  unfold Ut at e;unfold pushCells;by_cases d:(k==Sj.cell)=OK
  .rw[ak d]at e⊢
   rw[<-ec h {cls:=.type "cell",data:=.cell cL}]at e;rcases ur r _ _ x c e with⟨a,f⟩|a
   .rw[ec]at a;exact .inl ⟨WK a,f⟩
   .rw[S3]at a
    split at a
    .cases a;exact .inl ⟨Rr _,_,aaG _ _ _ _ (dN _ rfl),rfl⟩
    .exact .inr a
  .rw[ar d]at e⊢;exact ur r _ _ x c e
theorem Bf:∀(names:cM (Str×Sj)) (n:Nat) (e:cM (Str×Rq)),(∀x c,e.lookup x=ax c->c<n)->(∀x y c,e.lookup x=ax c->e.lookup y=ax c->x=y)->∀x y c,(Ut n names e).lookup x=ax c->(Ut n names e).lookup y=ax c->x=y
 |[],_,_,_,h2,x,y,c,e1,e2=>h2 x y c e1 e2
 |(z,k)::r,n,e,h1,h2,x,y,c,e1,e2=>by
  unfold Ut at e1 e2;by_cases h:(k==Sj.cell)=OK
  .rw[ak h]at e1 e2
   refine Bf r (n+1) ((z,n)::e) (λa d q=>?_) (λa b d g f=>?_) x y c e1 e2
   .rw[S3]at q
    split at q
    .cases q;exact Zf _
    .exact U0 (h1 a d q)
   .rw[S3]at g f
    split at g
    .rename_i ha
     split at f
     .rename_i i;rw[eq_of_beq ha,eq_of_beq i]
     .cases g;exact a7 (h1 b _ f) (T5 _)
    .split at f
     .cases f;exact a7 (h1 a _ g) (T5 _)
     .exact h2 a b d g f
  .rw[ar h]at e1 e2;exact Bf r n e h1 h2 x y c e1 e2
theorem AN:∀{names:cM (Str×Sj)} {x:Str} {k a:Sj},(names.map (·.1)).Nodup->names.lookup x=ax k->(x,a)∈names->k=a
 |[],_,_,_,_,h,_=>by cases h
 |(y,j)::r,x,k,a,hn,h,hm=>by
  rw[RJ,UQ]at hn;rw[S3]at h;rcases Rn.mp hm with e|hm'
  .cases e;rw[fo]at h;exact(R9 h).symm
  .cases hx:x==y with
   |true=>rw[eq_of_beq hx]at hm';exact a7 (RF.mpr ⟨_,hm',rfl⟩) hn.1
   |false=>rw[hx]at h;exact AN hn.2 h hm'
def gx(X:Cx)(s:Ro)(H:Hp)(a:VI)(C:Rq)(N:cM Str)(fp:cM Rq):Cx:=
 {X with N:=N,s₀:=s,H₀:=H,env:=compEnvC a (wY X a C) C X.env,outer:=X.stack,stack:=X.stack,ex:=fp,fn:=λx=>((kO X.env a.names []).lookup x).isNone,pn:=[],xe:=λ_ _=>False}
section
variable{X:Cx}{Z:cM (Rq×Obj)}{Y:St}{H:Hp}{s:Ro}
theorem vx{a:VI}(I:Inv X Z Y H s)(e:(kO X.env a.names []).lookup x=ax c):X.env.cells.lookup x=ax c/\c<s.heap.objs.size:=by have h:=nk _ _ (λ_ _ q=>by cases q) x c e;obtain⟨v,o,z,_⟩:=I.cell x c h;exact⟨h,dt z⟩
theorem BH(I:Inv X Z Y H s)(L:scope.kind=.function)(m:(scope.names.map (·.1)).Nodup)
  (u:∀y∈scope.names,y.2=.free->∃c,X.env.cells.lookup y.1=ax c) (f:s.heap.objs.size<=C) (i:∀b∈fp,oV X Z H b) (d:∀b∈fp,b<s.heap.objs.size):(gx X s H scope C N fp).Ok where
 mod:=I.ok.mod
 kind:=L
 glob:=I.ok.glob
 blt:=I.ok.blt
 above:=f
 inj:=Bf _ _ _ (λx c e=>U0 (RM (vx I e).2 f)) λx y c A w=>I.ok.inj x y c (vx I A).1 (vx I w).1
 has:=λx F=>by
  have j:∃k,(relabel scope X.env).names.lookup x=ax k/\(k=.cell\/k=.free):=by
   rcases F with z|z
   .exact⟨_,z,.inl rfl⟩
   .exact⟨_,z,.inr rfl⟩
  obtain⟨k,J,n⟩:=j;obtain⟨B,hm,t⟩:=zo J;have e:B=.free\/B=.cell:=by
   rcases t with z|⟨z,_⟩
   .subst z
    rcases n with z|z
    .exact .inr z
    .exact .inl z
   .exact .inl z
  have q:((wY X scope C).lookup x).isSome=OK:=by
   rcases e with e|e
   .subst e;obtain⟨c,K⟩:=u _ hm rfl;exact Vn _ _ _ (.inr (by rw[yk hm K];rfl))
   .subst e
    refine Vn _ _ _ (.inl ?_);cases z:scope.names.lookup x with
    |none=>exact a7 hm (λhm=>by
      have:∀{l:cM (Str×Sj)},l.lookup x=cL->(x,Sj.cell)∉l:=λ{l}=>by
       induction l with
       |nil=>exact λ_=>by simp
       |cons p r E=>
        intro h q;rw[S3]at h;rcases Rn.mp q with q|q
        .rw[<-q,fo]at h;cases h
        .split at h
         .cases h
         .exact E h q
      exact this z hm)
    |some M=>rw[AN m z hm]
  exact Wx.mp q
 cab:=λx c A w=>by
  have g:((kO X.env scope.names []).lookup x).isNone=OK:=A;have v:=w;rcases uR _ _ _ x c v with⟨z,_⟩|z
  .exact SH f (WK z)
  .rw[z]at g;cases g
 hd:=I.ok.hd
 frames:=I.ok.frames
 stk:=.inl rfl
 exf:=λb a=>⟨RO (RM (d b a) f),λx c e=>by
  rcases uR _ _ _ x c e with⟨z,_⟩|z
  .exact Ti (RM (RM (d b a) f) (WK z))
  .exact(i b a).2.2.2.2.1 x c (vx I z).1⟩
 bs:=I.bs
 bsz:=SH I.ok.bsz I.sz
 aaN:=λb o e a=>by
  rcases(i b a).2.2.2.1 with z|z
  .exact I.ok.aaN b o e z
  .exact a7 (RM (dt e) (SH I.ok.bsz z)) (T5 _)
 aaO:=λb a G=>by
  rcases Rn.mp (I.YH b G)with z|z
  .exact(i b a).2.1 z
  .exact(i b a).2.2.1 z
 XX:=I.stack
 frf:=I.Y7
theorem G0(I:Inv X Z Y H s)(Wj:scope.kind=.function)(hnd:(scope.names.map (·.1)).Nodup)
  (hfr:∀y∈scope.names,y.2=.free->∃c,X.env.cells.lookup y.1=ax c) (hfv:aby X scope fv) (hD:s.heap.objs.size<=D) (hDC:D<C) (hC:s.heap.objs.size<=C) (hf:∀b∈fp,oV X Z H b) (hfl:∀b∈fp,b<s.heap.objs.size)
  (hns:h1.Ns C m) (hoc:∀x c,(wY X scope C).lookup x=ax c->C<c->∃v,h1.IsCell c v) (hk:∀b o,s.heap.get? b=ax o->h1.get? b=ax o) (hd:∃n,h1.get? D=ax {cls:=.type "list",data:=.seq #[] n}):
  Inv (gx X s H scope C (i8 own fv) fp) [] (rQ own fv Y) (dg H D (.lst [])) {s with heap:=h1,toks:=t1}:=by
 have hn:=I.TL.fresh hD;obtain⟨n,hd⟩:=hd;have hCD:=Ti hDC;have hcs:∀x c,(wY X scope C).lookup x=ax c->C<c\/(X.env.cells.lookup x=ax c/\c<s.heap.objs.size):=λx c e=>by
  rcases uR _ _ _ x c e with⟨z,_⟩|z
  .exact .inl z
  .exact .inr (vx I z)
 refine⟨BH I Wj hnd hfr hC hf hfl,rfl,I.bare,Un.laid hk hD hn,⟨m,hns,λi x v e1 e2 e3=>?_⟩,λx c e=>?_,?_,λx c e=>?_,λp hp=>a7 (show p∈([]:cM (Rq×Obj))from hp) (by simp),?_,?_⟩
 .
  have e1':(own++fv.map (·.1))[i]?=ax x:=e1;have e2':(own.map (λ_=>(cL:c5 V))++fv.map λp=>(Y[p.2]?).join)[i]?=ax (ax v):=e2;have hi:own.length<=i:=by
   by_cases hi:i<own.length
   .rw[Tj (by simpa using hi),Rt]at e2'
    cases q:own[i]? with
    |none=>rw[q]at e2';cases e2'
    |some _=>rw[q]at e2';cases e2'
   .omega
  rw[TN hi,Rt]at e1';rw[TN (by simpa using hi),Rt,CL]at e2';cases q:fv[i - own.length]? with
  |none=>rw[q]at e1';cases e1'
  |some p=>
   rw[q]at e1' e2';have ex:=R9 e1';subst ex;have ev:(Y[p.2]?).join=ax v:=R9 e2';obtain⟨g1,g2,g3⟩:=hfv.mem p (RU q);have ev2:Y[p.2]?=ax (ax v):=by
    cases z:Y[p.2]? with
    |none=>rw[z]at ev;cases ev
    |some y=>rw[z]at ev;exact e9 ax ev
   obtain⟨m0,_,hl⟩:=I.loc;obtain⟨u,r,l⟩:=hl p.2 p.1 v g1 ev2 (.inr g3);refine⟨u,r,?_⟩;have l2:∃c,X.env.cells.lookup p.1=ax c/\s.heap.IsCell c (ax u):=by
    rcases l with⟨k,_⟩|⟨_,c,e,z⟩
    .have k':X.env.scope.names.lookup p.1=ax .local:=k
     rcases g3 with z|z
     .rw[z]at k';cases k'
     .rw[z]at k';cases k'
    .exact⟨c,e,z⟩
   obtain⟨c,e,o,ho,hdc⟩:=l2;refine .inr ⟨?_,c,?_,o,hk c o ho,hdc⟩
   .exact mI g2
   .show(wY X scope C).lookup p.1=ax c;unfold wY;rw[Fm _ _ _ _ λz=>by cases AN hnd g2 z];exact yk (TM g2) e
 .rcases hcs x c e with z|⟨z,_⟩
  .exact hoc x c e z
  .obtain⟨v,o,ho,hdc⟩:=I.cell x c z;exact⟨v,o,hk c o ho,hdc⟩
 .show dg H D (.lst []) C=cL;rw[aM hCD];exact I.TL.fresh hC
 .show dg H D (.lst []) c=cL
  rcases hcs x c e with z|⟨z1,z2⟩
  .rw[aM (Ti (abe hDC z))];exact I.TL.fresh (SH hC (Vx z))
  .rw[aM (RO (RM z2 hD))];exact I.VG x c z1
 .exact I.TL.laid hk hD ⟨by show 0<=RL;exact Tp _,[],n,.nil,hd⟩
 .show(own.map (λ_=>(cL:c5 V))++fv.map λp=>(Y[p.2]?).join).length=(own++fv.map (·.1)).length;simp
end
def E9(X:Cx)(d:cM SI)(t:TT):Prop:=
 ∀(a:cM (Rq×Obj)) (s:Ro) (b:St) (H:Hp) (Q:Bool->Hp->Prop),Inv X a b H s->t b H Q->
  wpAny (model X.prog X.w) X.A (forIn d OK λc r=>if r=OK then do let ok<-isTrue c X.env (eval c X.env);pure (ForInStep.yield ok)else pure (ForInStep.yield r)) (TP X a b Q) X.xe s
def Jd:TT:=λ_ H Q=>Q OK H
theorem ck:E9 X [] Jd:=λ_ _ _ H _ I h=>wpAny_tests_nil ⟨H,I,h⟩
theorem nM(h:PT X c tc):E9 X [c] tc:=λa s b H Q I d=>wpAny_tests_one (h a s b H Q I d)
def JB(J:It)(D:Rq)(c:St)(g:TG)(h:TT)(f:TE)(k:Hp)(Fin:Hp->Prop):Prop:=
 ∃W:Nat->Nat->St->Hp->Prop,(∃m,W 0 m c (dg k D (.lst [])))/\∀i m σ H,W i m σ H->
  (J.stop i H/\Fin H)\/(J.go i H/\∃N:St->Hp->Prop,(∀σ' H',N σ' H'->∃m',m'<m/\W (i+1) m' σ' H')/\
   ∀x H',J.yld i H x H'->g x σ H' λa j=>h a j λb e=>if b=OK then f a e λy d=>∃ys,d D=ax (.lst ys)/\ys.length<RL/\N a (dg d D (.lst (ys++[y])))else N a e)
section
variable{prog:RT}{w:SG}{A:Sk}{s:Ro}
theorem CQ{g o d:SI}{f:cM SI}{b:VI}{k:Pos}{it i:Rf}{env:Env}{R:aey->Ro->Prop}{XE:Rf->Ro->Prop}(B:∀x s1,XE x s1->notedBy (model prog w) A env (λe s2=>R (.error e) s2) x s1)(I:Nat->Ro->Prop)
  (j:∀n s,I n s->wpAny (model prog w) A (pyNext it) (λr s1=>match r with
   |none=>R (.ok .next) s1
   |some v=>wpAny (model prog w) A (letOwnedTupleGo o it v) (λ_ s2=>wpAny (model prog w) A (assign o env v) (λ_ s3=>
     wpAny (model prog w) A (forIn f OK λc r=>if r=OK then do let ok<-isTrue c env (eval c env);pure (ForInStep.yield ok)else pure (ForInStep.yield r)) (λok s4=>
      if ok=OK then wpAny (model prog w) A (eval g env) (λx s5=>
       wpAny (model prog w) A (call (.builtin "list.append") [i,x]) (λ_ s6=>∃m,m<n/\I m s6) (λ_ _=>False) s5) XE s4
      else∃m,m<n/\I m s4) (λ_ _=>False) s3) (λ_ _=>False) s2) (λ_ _=>False) s1) (λ_ _=>False) s)
  (n:Nat) (h:I n s):codeAny (model prog w) A (.compLoop (.ListComp g [⟨o,d,f,0⟩] b k) 0 it i env) R s:=by
 refine codeAny_loop rfl I (λn s C=>?_) n h;show wpAny _ A (Sem.onRaise (compTurn (.ListComp g [⟨o,d,f,0⟩] b k) 0 it i env) (λx=>do noteFrame x env;theTreesLotGoes x)) _ _ s;refine wpAny_noted ?_;rw[compTurn_list]
 have l:∀{α:Type} {t:Sem α} {Q y:α->Ro->Prop} {E:Rf->Ro->Prop} {s:Ro},wpAny (model prog w) A t Q (λ_ _=>False) s->(∀a s',Q a s'->y a s')->wpAny (model prog w) A t y E s:=
  λp q=>wpAny_mono p q λ_ _ z=>False.elim z
 refine Ld (Uq (Ld (l (j n s C) λr s1 p=>?_)));cases r with
 |none=>exact Ru p
 |some v=>
  refine Ld (l p λ_ s2 q=>Ld (l q λ_ s3 H=>Ld (l H λok s4 u=>?_)));cases ok with
  |false=>exact Ru ⟨rfl,u⟩
  |true=>exact Ld (Ld (wpAny_mono u (λx s5 G=>Ld (l G λ_ s6 F=>Ru (Ru ⟨rfl,F⟩))) B))
end
section
variable{X:Cx}{Z:cM (Rq×Obj)}{Y:St}{H:Hp}{s:Ro}
theorem wj
  (h:Q (newEnv scope s.heap.objs.size globals (Ut (s.heap.objs.size+1) scope.names closure) qual cL .none (ax env) builtinsNs) {s with heap:=pushCells (s.heap.push {cls:=.type "dict",data:=.dict #[]}) scope.names}):
  wpAny M A (newFunctionEnv scope globals closure [] qual cL .none (ax env)) Q E s:=by
 simp only[newFunctionEnv,Option.isSome_some,if_true];refine Ld (wpAny_alloc ?_);refine Ld (wpAny_layCells _ (λc a b=>by cases hkc:a==Sj.cell<;>simp[hkc]) _ _ _ _ ?_);rw[show({s with heap:=s.heap.push {cls:=.type "dict",data:=.dict #[]}}:Ro).heap.objs.size=s.heap.objs.size+1 from ec ..];rw[ZW];exact Ld (Ru (Ru h))
theorem uY{O tg l:SI}{B:cM SI}{scope:VI}{pos:Pos}{own:cM Str}{h:cM (Str×Nat)}{g:TG}{tc:TT}{te:TE}{E:Rf->Ro->Prop}{it:Rq}{fp:cM Rq}{tn:Nat->Heap->Prop}{J:It}{Fin:Rq->Hp->Prop}
  {RR:Rf->Rq->aey->Ro->Prop} (I:Inv X Z Y H s) (hc:X.calm=OK) (Wj:scope.kind=.function) (hnd:(scope.names.map (·.1)).Nodup) (hfr:∀y∈scope.names,y.2=.free->∃c,X.env.cells.lookup y.1=ax c) (hfv:aby X scope h)
  (T:Turn X.prog X.w X.K tg J fp it tn) (st:tn 0 s.heap) (G:∀b∈fp,oV X Z H b)
  (hg:∀C,PG (gx X s H scope C (i8 own h) fp) tg g) (ht:∀C,E9 (gx X s H scope C (i8 own h) fp) B tc) {W:Rq->Rf->Ro->Prop} (he:∀C,PE ((gx X s H scope C (i8 own h) fp).X5 (W C)) O te) (hEE:∀D C x s1,s.heap.objs.size<=C->W C x s1->notedBy (model X.prog X.w) X.A (compEnvC scope (wY X scope C) C X.env) (λe s2=>RR (.ref D) C (.error e) s2) x s1)
  (hR:∀D,H D=cL->JB J D (rQ own h Y) g tc te H (Fin D))
  (hRR:∀D C H' s',Inv X Z Y H' s'->Fin D H'->(∃m,s'.heap.Ns C m)->s.heap.objs.size<=C->H' C=cL->RR (.ref D) C (.ok .next) s'):
  wpAny (model X.prog X.w) X.A (newList []) (λacc s3=>wpAny (model X.prog X.w) X.A (newFunctionEnv scope X.env.globals (kO X.env scope.names []) [] X.env.qual cL .none (ax X.env)) (λagJ s4=>
   codeAny (model X.prog X.w) X.A (.compStart (.ListComp O [⟨tg,l,B,0⟩] scope pos) 0 (.ref it) acc {agJ with scope:=relabel scope X.env}) (RR acc agJ.locals) s4) E s3) E s:=by
 refine TV ?_;generalize hH2:s.heap.push {cls:=.type "list",dict:=cL,data:=.seq ([]:cM Rf).toArray}=h2;have hz:h2.objs.size=s.heap.objs.size+1:=by rw[<-hH2,ec]
 refine wj (s:={s with heap:=h2}) ?_;have L:s.heap.objs.size<h2.objs.size:=by rw[hz];exact Zf _
 have hC:s.heap.objs.size<=h2.objs.size:=Vx L;generalize hH1:pushCells (h2.push {cls:=.type "dict",data:=.dict #[]}) scope.names=h1;have kp2:∀b o,h2.get? b=ax o->h1.get? b=ax o:=λb o e=>by rw[<-hH1];exact aaG _ _ b o (c6 _ e)
 have kp:∀b o,s.heap.get? b=ax o->h1.get? b=ax o:=λb o e=>kp2 b o (by rw[<-hH2];exact c6 _ e);have hns:h1.Ns h2.objs.size (λ_=>cL):=by rw[<-hH1];exact(Heap.Ns.new h2 (.type "dict")).keeps (aaG _ _)
 have hoc:∀x c,(wY X scope h2.objs.size).lookup x=ax c->h2.objs.size<c->∃v,h1.IsCell c v:=λx c e Y2=>by
  have e':(Ut (h2.push {cls:=.type "dict",data:=.dict #[]}).objs.size scope.names (kO X.env scope.names [])).lookup x=ax c:=by rw[ec];exact e
  rcases ur _ _ _ x c e' with⟨_,z⟩|z
  .exact⟨cL,by rw[<-hH1];exact z⟩
  .exact a7 (abe (vx I z).2 (abe L Y2)) (T5 _)
 have hd:∃n,h1.get? s.heap.objs.size=ax {cls:=.type "list",data:=.seq #[] n}:=⟨0,kp2 _ _ (by rw[<-hH2];exact dN _ rfl)⟩;have F:∀b∈fp,b<s.heap.objs.size:=λb f=>by obtain⟨o,e,_⟩:=T.obj 0 _ st b f;exact dt e
 have hn:H s.heap.objs.size=cL:=I.TL.fresh (Rr _);obtain⟨W,⟨m0,w0⟩,U⟩:=hR s.heap.objs.size hn;have M:∀{pl:cM (Rq×Obj)} {H':Hp},(∀b∈fp,H' b=cL)->(∀p∈pl,p.1∉fp)->∀b∈fp,oV (gx X s H scope h2.objs.size (i8 own h) fp) pl H' b:=λ{pl H'} hn' hpl b f=>by have ok:=BH (C:=h2.objs.size) (N:=i8 own h) I Wj hnd hfr hC G F;exact⟨hn' b f,(ok.exf b f).1,ok.aaO b f,.inl f,(ok.exf b f).2,λp hp=>by have hp':p∈([]:cM (Rq×Obj))++pl:=hp;intro z;exact hpl p (by simpa using hp') (by rw[z];exact f)⟩
 have k:∀s4:Ro,s4={s with heap:=h1}->
   codeAny (model X.prog X.w) X.A (.compLoop (.ListComp O [⟨tg,l,B,0⟩] scope pos) 0 (.ref it) (.ref s.heap.objs.size) (compEnvC scope (wY X scope h2.objs.size) h2.objs.size X.env)) (RR (.ref s.heap.objs.size) h2.objs.size) s4:=by
  rintro s4 rfl
  have I0:Inv (gx X s H scope h2.objs.size (i8 own h) fp) [] (rQ own h Y) (dg H s.heap.objs.size (.lst [])) {s with heap:=h1}:=
   G0 I Wj hnd hfr hfv (Rr _) L hC G F hns hoc kp hd
  have st0:tn 0 h1:=T.keep 0 _ _ st λb _ o e=>kp b o e;have fr0:∀b∈fp,(dg H s.heap.objs.size (.lst [])) b=cL:=λb f=>by rw[aM (RO (F b f))];exact(G b f).1
  refine CQ (λx s1 z=>hEE _ _ x s1 hC z) (λn s'=>∃i σ' H',Inv (gx X s H scope h2.objs.size (i8 own h) fp) [] σ' H' s'/\tn i s'.heap/\(∀b∈fp,H' b=cL)/\W i n σ' H') ?_ m0 ⟨0,_,_,I0,st0,fr0,w0⟩;rintro n s5 ⟨i,j,H5,I5,st5,fr5,w5⟩;rcases U i n j H5 w5 with⟨stop,fin⟩|⟨go,N,hN,step⟩
  .refine fR (T.done (gx X s H scope h2.objs.size (i8 own h) fp) rfl rfl rfl hc i [] s5 j H5 (λ_ _=>False) I5 (M fr5 (by simp)) st5 stop) λr s6 ⟨hr,R⟩=>?_;subst hr;obtain⟨mm,hm,_⟩:=R.loc;refine hRR _ _ H5 s6 ?_ fin ⟨mm,hm⟩ hC R.free;exact I.adg (ch:=fp) R.os R.base R.TL R.bare λb f=>⟨(G b f).2.2.2.1,(G b f).2.1,(G b f).2.2.2.2.1,(G b f).2.2.2.2.2⟩
  .refine fR (T.item (gx X s H scope h2.objs.size (i8 own h) fp) rfl rfl rfl hc i [] s5 j H5 (λ_ _=>False) I5 (M fr5 (by simp)) st5 go) λr s6 ⟨u,hr,h6⟩=>?_
   subst hr;refine fR h6 λ_ s7 ⟨x,H7,I7,r7,y7,t,fr7⟩=>?_;have I7':=I7.pinned (fp:=fp) (M fr7 (by simp)) (T.obj _ _ t);have q:∀{a:St} {P:Hp} {Q:Ro},Inv (gx X s H scope h2.objs.size (i8 own h) fp) ([]++ux fp s7.heap) a P Q->N a P->∃m,m<n/\∃i σ' H',Inv (gx X s H scope h2.objs.size (i8 own h) fp) [] σ' H' Q/\tn i Q.heap/\(∀b∈fp,H' b=cL)/\W i m σ' H':=λ{a P Q} I8 n8=>by obtain⟨m',hm,w8⟩:=hN a P n8;refine⟨m',hm,i+1,a,P,I8.Yk,T.keep _ _ _ t λb f o e=>(I8.pin (b,o) (RN _ (RN _ (md f e)))).1,λb f=>?_,w8⟩;obtain⟨o,e,d⟩:=T.obj _ _ t b f;exact(I8.pin (b,o) (RN _ (RN _ (md f e)))).2.1
   refine fR (hg _ _ s7 j H7 x u _ I7' r7 (step x H7 y7)) λ_ Q ⟨a,P,I8,q8⟩=>?_;refine fR (ht _ _ Q a P _ I8 q8) λok s9 ⟨H9,I9,q9⟩=>?_;cases ok with
   |false=>rw[ar Rg]at q9⊢;exact q I9 q9
   |true=>rw[ak rfl]at q9⊢;refine fR (he _ _ s9 a H9 _ (I9.X5 _) q9) λy s10 ⟨S,H10,ajT,r10,ys,hy,hl,q10⟩=>?_;have I10:=ajT.Wa;refine fR (gn _ s10 a H10 (.ref s.heap.objs.size) [S] (.ref s.heap.objs.size) [y] (λ_ H11=>N a H11) I10 rfl (.cons r10 .nil) ⟨_,ys,S,rfl,rfl,hy,hl,q10⟩) λ_ s11 ⟨v11,H11,I11,_,q11⟩=>?_;exact q I11 q11
 exact codeAny_compStart_list (k _ rfl) (T.self _ 0 _ _ _ (T.keep 0 _ _ st λb _ o e=>kp b o e) (k _ rfl))
def B9(own:cM Str)(e:cM (Str×Nat))(b:TI)(g:TG)(d:TT)(c:TE):TE:=λY H Q=>b Y H λJ a=>∀D,a D=cL->JB J D (rQ own e Y) g d c a λf=>Q (.ref D) f
theorem tD{a:VI}(ok:X.Ok)(h:∀y∈a.names,y.2=.free->(X.env.scope.names.lookup y.1=ax .cell\/X.env.scope.names.lookup y.1=ax .free)):∀y∈a.names,y.2=.free->∃c,X.env.cells.lookup y.1=ax c:=
 λy b e=>ok.has y.1 (h y b e)
theorem JF{a b:VI}(h:(a.names.all λy=> !(y.2==Sj.free)||(b.names.lookup y.1==ax Sj.cell)||(b.names.lookup y.1==ax Sj.free))=OK):
  ∀y∈a.names,y.2=.free->(b.names.lookup y.1=ax .cell\/b.names.lookup y.1=ax .free):=λy c e=>by
 have q:=U7.mp h y c;rw[e]at q
 simpa using q
theorem cW{elt tg iter:SI}{ifs:cM SI}{scope:VI}{pos:Pos}(own:cM Str)(fv:cM (Str×Nat)){wi:TI}{g:TG}{tc:TT}{te:TE}(hc:X.calm=OK)(hi:PI X tg iter wi)
  (hg:∀s H C fp,PG (gx X s H scope C (i8 own fv) fp) tg g) (ht:∀s H C fp,E9 (gx X s H scope C (i8 own fv) fp) ifs tc) (he:∀s H C fp,PE (gx X s H scope C (i8 own fv) fp) elt te) (hfv:aby X scope fv)
  (aeB:(scope.names.all λy=> !(y.2==Sj.free)||(X.env.scope.names.lookup y.1==ax Sj.cell)||(X.env.scope.names.lookup y.1==ax Sj.free))=OK)
  (Wj:scope.kind=.function:=by rfl) (hnd:(scope.names.map (·.1)).Nodup:=by left)
  (abG:∀y∈scope.names,y.2=.local->scope.names.lookup y.1=ax .local:=by left) (hs:∀x,foldedSetIterable iter X.env x=pure x:=by intro _;rfl):
  PE X (.ListComp elt [⟨tg,iter,ifs,0⟩] scope pos) (B9 own fv wi g tc te):=by
 intro Z s Y H Q I h;have hfr:=JF aeB;rw[eval_ListComp];refine ab5 (use:=cL) rfl hs (uz (tD I.ok hfr)) Wj abG (fR (hi Z s Y H _ I h) λxv s1 h1=>fR h1 λitv s2 h2=>?_);obtain⟨it,fp,tn,J,H2,e,I2,T,st2,f2,R⟩:=h2;subst e;refine uY I2 hc Wj hnd (tD I.ok hfr) hfv T st2 f2 (λC=>hg _ _ C _) (λC=>ht _ _ C _) (W:=λ_ _ _=>False) (λC=>he _ _ C _) (λ_ _ _ _ _ z=>z.elim) (Fin:=λD H'=>Q (.ref D) H') R ?_;intro D C H' s' I' fin hm hC hn;obtain⟨m,hm⟩:=hm;refine⟨m,hm,λh' hs'=>⟨.ref D,H',?_,rfl,fin⟩⟩;obtain⟨f0,f1,_,f3,f4,f5⟩:=I2.aat hC hn;exact I'.turned (t':=s'.toks) (λb o hb q=>(hs'.2 b hb).trans q) f0 f1 f3 f4 f5
theorem qm{elt tg iter:SI}{ifs:cM SI}{scope:VI}{pos agq py:Pos}{i:Nat}{x:Str}(own:cM Str)(fv:cM (Str×Nat)){wi:TI}{g:TG}{tc:TT}{te:TE}(hN:X.N.Nodup)(hi':X.N[i]?=ax x)(hx:X.env.scope.names.lookup x=ax .local)
  (hc:X.calm=OK) (hi:PI X tg iter wi)
  (hg:∀s H C fp,PG (gx X s H scope C (i8 own fv) fp) tg g) (ht:∀s H C fp,E9 (gx X s H scope C (i8 own fv) fp) ifs tc) (he:∀s H C fp,PE (gx X s H scope C (i8 own fv) fp) elt te) (hfv:aby X scope fv)
  (aeB:(scope.names.all λy=> !(y.2==Sj.free)||(X.env.scope.names.lookup y.1==ax Sj.cell)||(X.env.scope.names.lookup y.1==ax Sj.free))=OK)
  (hsw:Ug (.ListComp elt [⟨tg,iter,ifs,0⟩] scope pos) (ax (.Name x py)) agq.line X.env=pure OK:=by rfl)
  (Wj:scope.kind=.function:=by rfl) (hnd:(scope.names.map (·.1)).Nodup:=by left)
  (abG:∀y∈scope.names,y.2=.local->scope.names.lookup y.1=ax .local:=by left) (hs:∀x,foldedSetIterable iter X.env x=pure x:=by intro _;rfl):
  PS X (.Assign [.Name x py] (.ListComp elt [⟨tg,iter,ifs,0⟩] scope pos) agq) (D8 (B9 own fv wi g tc te) (yB i)):=by
 intro Z s Y H D I h;have hfr:=JF aeB;rw[exec_Assign_Name_used _ _ _ _ hsw];refine Ld (Uq (Ld ?_));show wpAny _ _ (do let _<-comprehension (.ListComp elt [⟨tg,iter,ifs,0⟩] scope pos) scope X.env _ (newList []) Rh (eval iter X.env) (ax (assign (.Name x py) X.env))) _ _ s;refine Ld (fR (ab5 (use:=ax (assign (.Name x py) X.env)) (Q:=λ_ s'=>SP X Z D .next s') rfl hs (uz (tD I.ok hfr)) Wj abG
  (fR (hi Z s Y H _ I h) λxv s1 h1=>fR h1 λitv s2 h2=>?_)) λ_ s' q=>Ru (Ru q))
 obtain⟨it,fp,tn,J,H2,e,I2,T,st2,f2,R⟩:=h2;subst e;refine uY I2 hc Wj hnd (tD I.ok hfr) hfv T st2 f2 (λC=>hg _ _ C _) (λC=>ht _ _ C _) (W:=λ_ _ _=>False) (λC=>he _ _ C _) (λ_ _ _ _ _ z=>z.elim) (Fin:=λL H'=>D.nx (Y.set i (ax (.ref L))) H') R ?_;intro L C H' s' I' fin hm hC hn;obtain⟨m,hm⟩:=hm;obtain⟨f0,f1,f2',f3,f4,f5⟩:=I2.aat hC hn;show wpAny _ _ (assign (.Name x py) X.env (.ref L)) _ _ s';refine afd (vT I' hN hi' (.inl hx) (v:=.ref L) rfl (λs'' I'' ⟨a,sb,ha⟩=>?_) (.inr hx));have hCa:C≠a:=by
  rcases ha with z|z
  .rw[z];exact f1
  .exact λq=>f4 x a z q.symm
 refine⟨m,hm.sameBut sb hCa,λh' hs'=>⟨_,H',?_,fin⟩⟩;exact I''.turned (t':=s''.toks) (λb o hb q=>(hs'.2 b hb).trans q) f0 f1 f3 f4 f5
end
def qX(P:RT)(w:SG)(K:td)(mg:Str->c5 Rf)(base:Heap)(k:Nat)(x:Str)(ps:cM Str)(sp:Sp):Prop:=
 ∃(f:Rq) (a:S5),FnOk P w K mg base fF k f a ps sp/\Binds K a ps []/\UA K (.ref f)=OK/\mg x=ax (.ref f)
theorem bj(C:qX X.prog X.w X.K X.mg X.base k x ps sp)(h:U5 j X.A)(ha:PA X (e::es) t)(c:k<=j:=by decide)(i:Gl X x:=by rfl)
  (d:(x==("__debug__":Str))=Rh:=by decide) (l:R0 (e::es) X.env=(Rh,eval e X.env)::R0 es X.env:=by rfl) (a:(backTo pos (R0 es X.env)).any (·.1)=Rh:=by rfl):
  PE X (.Call (.Name x p) (e::es) [] pos) (tP sp [] E0 t):=by
 obtain⟨f,n,F,b,g,m⟩:=C;exact B2 F (h.mono c) i m g b .nil Jl ha d l a
section
variable{Z:St}{H:Hp}{Q:VK}{D:Ends}
theorem KZ(h:t {D with nx:=u D} Z H):Ll t u D Z H:=h
theorem KI(h:te Z H λx H1=>g x Z H1 D.nx):D8 te g D Z H:=h
theorem HZ{Q:St->Hp->Prop}(h:Q (Z.set i (ax v)) H):yB i v Z H Q:=h
theorem Pf(h:Q v H):tC v Z H Q:=h
theorem NH(h:ta Z H λx H1=>tb Z H1 λy H2=>r x y H2 Q):Mv r ta tb Z H Q:=h
theorem Oh(c:Iv x y=OK)(h:Q (.bl (decide (x=y))) H):Qz x y H Q:=⟨c,h⟩
theorem Oy(c:Iv x y=OK)(h:Q (.bl (!decide (x=y))) H):QD x y H Q:=⟨c,h⟩
theorem KK(h:te Z H D.rt):KM te D Z H:=h
theorem IP(h:te Z H λ_ H1=>D.nx Z H1):Ea te D Z H:=h
theorem LF(h:c Z H λb H1=>if b=OK then t D Z H1 else u D Z H1):Me c t u D Z H:=h
theorem HD(h:D.nx Z H):EW D Z H:=h
theorem HQ{Q:Bool->Hp->Prop}(h:t Z H λx H'=>∃k,x=.bl k/\Q k H'):Cr t Z H Q:=h
theorem Qo{Q:Bool->Hp->Prop}(h:t Z H λx H'=>∃k,x=.bl k/\Q k H'):tB t Z H Q:=h
theorem MZ{Q:Bool->Prop}(h:Q b):∃k,V.bl b=.bl k/\Q k:=⟨b,rfl,h⟩
theorem N4{Q:Bool->Hp->Prop}(h:t Z H λc H1=>if c=OK then Q OK H1 else u Z H1 Q):Pe t u Z H Q:=h
theorem Kh{Q:Bool->Hp->Prop}(h:t Z H λc H1=>Q (!c) H1):Kc t Z H Q:=h
theorem K7{Q:cM V->Hp->Prop}(h:Q [] H):xm Z H Q:=h
theorem Iy{Q:cM V->Hp->Prop}(h:ta Z H λx H1=>tr Z H1 λxs H2=>Q (x::xs) H2):mL ta tr Z H Q:=h
theorem MW(h:t Z H λvs H1=>r vs H1 Q):Mp r t Z H Q:=h
theorem Hc(h:t Z H λvs H1=>sp (vs++[]) H1 Q E):tP sp [] E t Z H Q:=h
theorem J8(h:t Z H λxs H1=>xs.length<=RL/\∀p,H1 p=cL->Q (.ref p) (dg H1 p (.tup xs))):KJ t Z H Q:=h
theorem LK(h:t Z H λxs H1=>xs.length<=RL/\∀p,H1 p=cL->Q (.ref p) (dg H1 p (.lst xs))):LA t Z H Q:=h
theorem N5{K:td}(h:to Z H λx H1=>Qc K T x H1/\t Z H1 λxs H2=>r x xs H2 Q):Mx K T r to t Z H Q:=h
end
theorem J0{α:Type}{xs:cM α}{i:Int}{v:α}(a:0<=i)(h:xs[i.toNat]?=ax v):pU xs i=ax v:=by have q:=Bp h;rwa [Vh a]at q
theorem TC.tup{K:td}(e:TC H H')(h:We K H a xs):We K H' a xs:=by
 rcases h with(h|⟨o,h⟩)|h
 .exact .inl (.inl (e _ _ h))
 .exact .inl (.inr ⟨o,e _ _ h⟩)
 .exact .inr h
theorem ce(h:H p=cL)(o:HO):TC H (dg H p o):=λb u q=>by rw[aM (dQ q h)];exact q
theorem Jw:SS "max"=ax (.builtin "max"):=by left
theorem aV:SS "isinstance"=ax (.builtin "isinstance"):=by left
theorem fD:SS "len"=ax (.builtin "len"):=by left
theorem yU:SS "sorted"=ax (.builtin "sorted"):=by left
theorem mO:SS "all"=ax (.builtin "all"):=by left
theorem v9:SS "int"=ax (.type "int"):=by left
theorem L7:SS "bool"=ax (.type "bool"):=by left
theorem jF:SS "str"=ax (.type "str"):=by left
theorem FM:SS "list"=ax (.type "list"):=by left
theorem eD:SS "tuple"=ax (.type "tuple"):=by left
section
variable{X:Cx}
theorem yc:U4 X (.builtin "sorted") (λxs H Q=>∃(p:Rq) (ns:cM Int),xs=[.ref p]/\Wh X.K H p (ns.map V.int)/\ns.length<64/\∀(l:Rq) (a:cM Int),H l=cL->a.Perm ns->a.Pairwise (·<=·)->Q (.ref l) (dg H l (.lst (a.map V.int)))):=by
 intro f s y H xs A Q I r h;obtain⟨p,ns,rfl,k,t,q⟩:=h;obtain⟨u,rfl,i⟩:=kX r;cases i;obtain⟨w,rv,pl,C⟩:=I.list k;have m:=rv.length;rw[CL]at m;refine sorted_ints pl.isList (pG rv) (by ext) λc a hi g j=>?_;obtain⟨e,n⟩:=sortedAll_at s.heap w c;have d:a.length=ns.length:=g.length_eq;have v:c.toList.length=a.length:=hi.length;refine⟨.ref (s.heap.objs.size+1),_,I.laid (t':=s.toks) (o:=.lst (a.map V.int)) (λb B z=>sortedAll_old z) (VW _) ?_,rfl,q _ a (I.TL.fresh (VW _)) g j⟩;refine⟨?_,c.toList,e,oG hi,n⟩;rw[CL,d];have:(64:Nat)<=RL:=by decide
 ext
end
end L2
namespace L3
open PySem L2
abbrev D:=lD
inductive PV where
 |fz (d:D)
 |ow (ds:cM D)
 |pl (i:Nat)
abbrev bA:=cM (c5 PV)
structure Xc where
 cls:Str
 fs:cM (Str×D)
inductive Res(α:Type) where
 |ok (a:α)
 |er (x:Xc)
 |bad
namespace Res
def bind(r:Res α)(f:α->Res β):Res β:=match r with
 |.ok a=>f a
 |.er x=>.er x
 |.bad=>.bad
def Ta:c5 α->Res α
 |some a=>.ok a
 |none=>.bad
theorem bind_ok(a:α)(f:α->Res β):(Res.ok a).bind f=f a:=rfl
theorem adS(x:Xc)(f:α->Res β):(Res.er x).bind f=.er x:=rfl
end Res
abbrev fu:=@Res.bind_ok
abbrev eH:=Rq->Prop
def nQ(O:eH)(p:Rq):eH:=λb=>O b\/b=p
def GK(O:eH)(p:Rq):eH:=λb=>O b/\b≠p
def Q3:eH:=λ_=>False
def Ev(O:eH)(H:Hp)(a:eH)(H':Hp):Prop:=∀b o,H b=ax o->¬O b->H' b=ax o/\¬a b
theorem Ev.refl:Ev O H O H:=λ_ _ h n=>⟨h,n⟩
theorem Ev.trans(a:Ev O H O1 H1)(b:Ev O1 H1 O2 H2):Ev O H O2 H2:=λp o h n=>let⟨h1,n1⟩:=a p o h n;b p o h1 n1
theorem Ev.grow(s:TC H H'):Ev O H O H':=λb o h n=>⟨s b o h,n⟩
theorem Ev.add(s:TC H H')(a:H p=cL):Ev O H (nQ O p) H':=λb o h n=>⟨s b o h,λz=>z.elim n λe=>by subst e;rw[h]at a;cases a⟩
theorem Ev.sub(h:∀b,O' b->O b):Ev O H O' H:=λb o e n=>⟨e,λz=>n (h b z)⟩
theorem Ev.mut(a:O p)(u:HO):Ev O H O (dg H p u):=λb o h n=>⟨by rw[aM (λe=>n (by rw[e];exact a))];exact h,n⟩
def WH(K:td)(H:Hp)(a:Rq)(xs:cM V):Prop:=Rd H a (.lst xs)\/∃(b:cM Rf) (n:Nat),K.lookup a=ax {cls:=.type "list",data:=.seq b.toArray n}/\xs.length<=RL/\Vals xs b
theorem WH.sq(h:WH K H a xs):Wh K H a xs:=by
 rcases h with h|⟨SE,n,h1,h2,h3⟩
 .exact .inl h
 .exact .inr ⟨_,SE.toArray,n,h1,rfl,rfl,rfl,by rw[RB,<-h3.length];exact h2,by simpa using h3⟩
theorem WH.of(h:H a=ax (.lst xs)):WH K H a xs:=.inl (.inl h)
theorem WH.same(e:TC H H')(h:WH K H a xs):WH K H' a xs:=by
 rcases h with(h|⟨o,h⟩)|h
 .exact .inl (.inl (e _ _ h))
 .exact .inl (.inr ⟨o,e _ _ h⟩)
 .exact .inr h
theorem oH(H:Hp):TC (λ_=>cL) H:=λ_ _ h=>by cases h
def YB(O:eH)(K:td)(H:Hp)(a:Rq)(xs:cM V):Prop:=WH K H a xs/\(O a->WH K (λ_=>cL) a xs)
def XG(O:eH)(K:td)(H:Hp)(a:Rq)(xs:cM V):Prop:=We K H a xs/\(O a->We K (λ_=>cL) a xs)
section
variable{O Z:eH}{K:td}{H H':Hp}{a:Rq}{xs:cM V}
theorem YB.ev(h:YB O K H a xs)(e:Ev O H Z H'):YB Z K H' a xs:=by
 obtain⟨h,k⟩:=h;by_cases z:O a
 .exact⟨WH.same (oH H') (k z),λ_=>k z⟩
 .rcases h with(h|⟨o,h⟩)|h
  .obtain⟨c,b⟩:=e a _ h z;exact⟨.inl (.inl c),λy=>a7 y b⟩
  .obtain⟨c,b⟩:=e a _ h z;exact⟨.inl (.inr ⟨o,c⟩),λy=>a7 y b⟩
  .exact⟨.inr h,λ_=>.inr h⟩
theorem XG.ev(h:XG O K H a xs)(e:Ev O H Z H'):XG Z K H' a xs:=by
 obtain⟨h,k⟩:=h;by_cases z:O a
 .exact⟨(oH H').tup (k z),λ_=>k z⟩
 .rcases h with(h|⟨o,h⟩)|h
  .obtain⟨c,b⟩:=e a _ h z;exact⟨.inl (.inl c),λy=>a7 y b⟩
  .obtain⟨c,b⟩:=e a _ h z;exact⟨.inl (.inr ⟨o,c⟩),λy=>a7 y b⟩
  .exact⟨.inr h,λ_=>.inr h⟩
end
mutual
inductive DV(O:eH)(K:td)(H:Hp):V->D->Prop
 |Uo:DV O K H .Uo .none
 |bl (b:Bool):DV O K H (.bl b) (.bool b)
 |int (i:Int):DV O K H (.int i) (.int i)
 |str (x:Str):DV O K H (.str x) (.str x)
 |tup {a:Rq} {xs:cM V} {ds:cM D}:XG O K H a xs->T8 O K H xs ds->DV O K H (.ref a) (.tuple ds)
 |lst {a:Rq} {xs:cM V} {ds:cM D}:YB O K H a xs->T8 O K H xs ds->DV O K H (.ref a) (.list ds)
inductive T8(O:eH)(K:td)(H:Hp):cM V->cM D->Prop
 |nil:T8 O K H [] []
 |cons {v:V} {vs:cM V} {d:D} {ds:cM D}:DV O K H v d->T8 O K H vs ds->T8 O K H (v::vs) (d::ds)
end
section
variable{O Z:eH}{K:td}{H H':Hp}
mutual
theorem DV.ev(e:Ev O H Z H'):∀{v:V} {d:D},DV O K H v d->DV Z K H' v d
 |_,_,.Uo=>.Uo
 |_,_,.bl b=>.bl b
 |_,_,.int i=>.int i
 |_,_,.str x=>.str x
 |_,_,.tup h hs=>.tup (h.ev e) (T8.ev e hs)
 |_,_,.lst h hs=>.lst (h.ev e) (T8.ev e hs)
theorem T8.ev(e:Ev O H Z H'):∀{vs:cM V} {ds:cM D},T8 O K H vs ds->T8 Z K H' vs ds
 |_,_,.nil=>.nil
 |_,_,.cons h hs=>.cons (DV.ev e h) (T8.ev e hs)
end
theorem T8.length:∀{vs:cM V} {ds:cM D},T8 O K H vs ds->vs.length=ds.length
 |_,_,.nil=>rfl
 |_,_,.cons _ t=>by rw[Rk,Rk,t.length]
theorem T8.get:∀{vs:cM V} {ds:cM D} {i:Nat} {d:D},T8 O K H vs ds->ds[i]?=ax d->∃v,vs[i]?=ax v/\DV O K H v d
 |_,_,_,_,.nil,e=>by simp at e
 |_,_,0,_,.cons h _,e=>by simp at e;subst e;exact⟨_,rfl,h⟩
 |_,_,i+1,d,.cons _ t,e=>by obtain⟨v,b,a⟩:=T8.get t (by simpa using e);exact⟨v,by simpa using b,a⟩
theorem T8.adQ:∀{vs:cM V} {ds:cM D} {i:Nat} {v:V},T8 O K H vs ds->vs[i]?=ax v->∃d,ds[i]?=ax d/\DV O K H v d
 |_,_,_,_,.nil,e=>by simp at e
 |_,_,0,_,.cons h _,e=>by simp at e;subst e;exact⟨_,rfl,h⟩
 |_,_,i+1,v,.cons _ t,e=>by obtain⟨d,b,a⟩:=T8.adQ t (by simpa using e);exact⟨d,by simpa using b,a⟩
theorem T8.append:∀{vs ws:cM V} {ds es:cM D},T8 O K H vs ds->T8 O K H ws es->T8 O K H (vs++ws) (ds++es)
 |_,_,_,_,.nil,h=>h
 |_,_,_,_,.cons h t,g=>.cons h (T8.append t g)
theorem T8.take:∀{vs:cM V} {ds:cM D} (n:Nat),T8 O K H vs ds->T8 O K H (vs.take n) (ds.take n)
 |_,_,0,_=>.nil
 |_,_,_+1,.nil=>.nil
 |_,_,n+1,.cons h t=>.cons h (T8.take n t)
theorem T8.drop:∀{vs:cM V} {ds:cM D} (n:Nat),T8 O K H vs ds->T8 O K H (vs.drop n) (ds.drop n)
 |_,_,0,h=>h
 |_,_,_+1,.nil=>.nil
 |_,_,n+1,.cons _ t=>T8.drop n t
theorem T8.erase:∀{vs:cM V} {ds:cM D} (n:Nat),T8 O K H vs ds->T8 O K H (vs.eraseIdx n) (ds.eraseIdx n)
 |_,_,_,.nil=>.nil
 |_,_,0,.cons _ t=>t
 |_,_,n+1,.cons g t=>.cons g (T8.erase n t)
theorem T8.flat(h:T8 O K H vs ds):∀n:Nat,T8 O K H (RH n vs).flatten (RH n ds).flatten
 |0=>.nil
 |n+1=>by rw[SQ,SQ,UU,UU];exact h.append (T8.flat h n)
mutual
theorem DV.plain:∀{v:V} {d:D},DV O K H v d->L2.DV K H v d
 |_,_,.Uo=>.Uo
 |_,_,.bl b=>.bl b
 |_,_,.int i=>.int i
 |_,_,.str x=>.str x
 |_,_,.tup h hs=>.tup h.1 (T8.plain hs)
 |_,_,.lst h hs=>.lst h.1.sq (T8.plain hs)
theorem T8.plain:∀{vs:cM V} {ds:cM D},T8 O K H vs ds->L2.T8 K H vs ds
 |_,_,.nil=>.nil
 |_,_,.cons h hs=>.cons (DV.plain h) (T8.plain hs)
end
end
def DX(O:eH)(K:td)(H:Hp)(v:V):D->Prop
 |.list ds=>∃a xs,v=.ref a/\WH K H a xs/\T8 O K H xs ds
 |d=>DV O K H v d
theorem DV.x(h:DV O K H v d):DX O K H v d:=by
 cases h with
 |lst h a=>exact⟨_,_,rfl,h.1,a⟩
 |Uo=>exact .Uo
 |bl b=>exact .bl b
 |int i=>exact .int i
 |str x=>exact .str x
 |tup h a=>exact .tup h a
theorem DX.plain(h:DX O K H v d):L2.DV K H v d:=by
 cases d with
 |list ds=>obtain⟨a,xs,rfl,e,c⟩:=h;exact .lst e.sq c.plain
 |none=>exact DV.plain h
 |bool b=>exact DV.plain h
 |int i=>exact DV.plain h
 |str x=>exact DV.plain h
 |tuple ds=>exact DV.plain h
 |dict W9=>exact DV.plain h
def aau(K:td)(b:Hp)(O:eH)(H:Hp)(v:V):PV->Prop
 |.fz d=>DV O K H v d
 |.ow ds=>∃a vs,v=.ref a/\O a/\b a=cL/\H a=ax (.lst vs)/\T8 O K H vs ds
 |.pl _=>False
structure Rl(K:td)(B:eH)(H0:Hp)(O:eH)(σ:St)(H:Hp)(ρ:bA):Prop where
 same:TC H0 H
 bo:∀a,B a->O a
 bd:∀a,B a->H0 a≠cL
 od:∀a,H a=cL->¬O a
 len:σ.length=ρ.length
 slot:∀(i:Nat) (x:PV),ρ[i]?=ax (ax x)->∃v,σ[i]?=ax (ax v)/\aau K H0 O H v x
 one:∀(i j:Nat) (ds es:cM D) (v:V),ρ[i]?=ax (ax (.ow ds))->ρ[j]?=ax (ax (.ow es))->σ[i]?=ax (ax v)->σ[j]?=ax (ax v)->i=j
def W8(K:td)(e:Hp)(O:eH)(b:St)(H:Hp)(ρ:bA)(v:V):PV->Prop
 |.fz d=>DV O K H v d
 |.ow ds=>∃a vs,v=.ref a/\O a/\e a=cL/\H a=ax (.lst vs)/\T8 O K H vs ds/\∀(i:Nat) (c:cM D),ρ[i]?=ax (ax (.ow c))->b[i]?≠ax (ax (.ref a))
 |.pl i=>b[i]?=ax (ax v)
def ox:PV->Prop
 |.ow _=>False
 |_=>True
def gI:PV->PV
 |.ow ds=>.fz (.list ds)
 |p=>p
section
variable{K:td}{B O X:eH}{Z H H':Hp}{Y:St}{ρ ρ':bA}{v:V}
theorem aau.grow(s:TC H H')(h:aau K Z O H v x):aau K Z O H' v x:=by
 cases x with
 |fz d=>exact DV.ev (Ev.grow s) h
 |ow ds=>obtain⟨a,vs,e,g,f,c,b⟩:=h;exact⟨a,vs,e,g,f,s _ _ c,b.ev (Ev.grow s)⟩
 |pl i=>exact h
theorem Rl.grow(R:Rl K B Z O Y H ρ)(s:TC H H'):Rl K B Z O Y H' ρ:=
 ⟨R.same.trans s,R.bo,R.bd,λa h=>R.od a (s.free h),R.len,λi x h=>let⟨v,h1,h2⟩:=R.slot i x h;⟨v,h1,h2.grow s⟩,R.one⟩
theorem Rl.aeg(R:Rl K B Z O Y H ρ)(h:H p=cL):Z p=cL:=R.same.free h
theorem Rl.add(R:Rl K B Z O Y H ρ)(s:TC H H')(c:H p=cL)(f:H' p≠cL):Rl K B Z (nQ O p) Y H' ρ:=by
 refine⟨R.same.trans s,λa h=>.inl (R.bo a h),R.bd,λa h z=>z.elim (R.od a (s.free h)) λe=>f (by rw[<-e];exact h),R.len,λi x h=>?_,R.one⟩;obtain⟨v,g,b⟩:=R.slot i x h;refine⟨v,g,?_⟩;cases x with
 |fz d=>exact DV.ev (Ev.add s c) b
 |ow ds=>obtain⟨a,vs,e,m,l,k,j⟩:=b;exact⟨a,vs,e,.inl m,l,s _ _ k,j.ev (Ev.add s c)⟩
 |pl i=>exact b
theorem Rl.ag8(R:Rl K B Z O Y H ρ)(h:Z a=cL):¬B a:=λz=>R.bd a z h
theorem Rl.sub(R:Rl K B Z O Y H ρ){a:Rq}(k:Z a=cL)(h:∀(i:Nat) (es:cM D),ρ[i]?=ax (ax (.ow es))->Y[i]?≠ax (ax (.ref a))):Rl K B Z (GK O a) Y H ρ:=by
 refine⟨R.same,λb c=>⟨R.bo b c,λe=>R.ag8 k (e▸c)⟩,R.bd,λb c z=>R.od b c z.1,R.len,λi x g=>?_,R.one⟩;obtain⟨v,j,f⟩:=R.slot i x g;refine⟨v,j,?_⟩;cases x with
 |fz d=>exact DV.ev (Ev.sub λb z=>z.1) f
 |ow ds=>obtain⟨b,vs,e,o,n,m,l⟩:=f;subst e;exact⟨b,vs,rfl,⟨o,λe=>h i ds g (by rw[j,e])⟩,n,m,l.ev (Ev.sub λb z=>z.1)⟩
 |pl i=>exact f
theorem AD(h:H a=ax (.lst vs))(n:¬O a)(hd:T8 O K H vs ds):DV O K H (.ref a) (.list ds):=.lst ⟨WH.of h,λz=>a7 z n⟩ hd
theorem lL{pv:PV}(R:Rl K B Z O Y H ρ)(h:W8 K Z O Y H ρ v pv):∃X,Ev O H X H/\Rl K B Z X Y H ρ/\W8 K Z X Y H ρ v (gI pv):=by
 cases pv with
 |fz d=>exact⟨O,.refl,R,h⟩
 |pl i=>exact⟨O,.refl,R,h⟩
 |ow ds=>obtain⟨a,vs,rfl,j,g,f,e,c⟩:=h;exact⟨GK O a,Ev.sub λb z=>z.1,R.sub g c,AD f (λz=>z.2 rfl) (e.ev (Ev.sub λb z=>z.1))⟩
theorem on(pv:PV):ox (gI pv):=by cases pv<;>trivial
theorem W8.keep{pv:PV}(hs:ox pv)(e:Ev O H X H')(h:W8 K Z O Y H ρ v pv):W8 K Z X Y H' ρ' v pv:=by
 cases pv with
 |fz d=>exact DV.ev e h
 |pl i=>exact h
 |ow ds=>exact hs.elim
def QL:c5 (c5 PV)->c5 D
 |some (ax (.fz d))=>ax d
 |some (ax (.ow ds))=>ax (.list ds)
 |_=>cL
def lc(ρ:bA):PV->c5 D
 |.fz d=>ax d
 |.ow ds=>ax (.list ds)
 |.pl i=>QL ρ[i]?
theorem jL{pv:PV}(R:Rl K B Z O Y H ρ)(h:W8 K Z O Y H ρ v pv)(e:lc ρ pv=ax d):DX O K H v d:=by
 cases pv with
 |fz p=>cases e;exact DV.x h
 |ow ds=>cases e;obtain⟨a,vs,rfl,z,y,m,l,w⟩:=h;exact⟨a,vs,rfl,WH.of m,l⟩
 |pl i=>
  have b:QL ρ[i]?=ax d:=e;have n:=h;cases q:ρ[i]? with
  |none=>rw[q]at b;cases b
  |some o=>
   cases o with
   |none=>rw[q]at b;cases b
   |some x=>
    obtain⟨u,f,c⟩:=R.slot i x q;rw[n]at f;cases f;rw[q]at b;cases x with
    |fz p=>cases b;exact DV.x c
    |ow ds=>cases b;obtain⟨a,vs,rfl,t,r,k,g⟩:=c;exact⟨a,vs,rfl,WH.of k,g⟩
    |pl j=>exact c.elim
def toS(ρ:bA)(i:Nat):c5 (c5 PV)->c5 (D×bA)
 |some (ax (.fz d))=>ax (d,ρ)
 |some (ax (.ow ds))=>ax (.list ds,ρ.set i (ax (.fz (.list ds))))
 |_=>cL
def v5(ρ:bA):PV->c5 (D×bA)
 |.fz d=>ax (d,ρ)
 |.ow ds=>ax (.list ds,ρ)
 |.pl i=>toS ρ i ρ[i]?
theorem gF{l:cM α}(h:(l.set i x)[j]?=ax y):(j=i/\y=x)\/(j≠i/\l[j]?=ax y):=by
 rw[Tb]at h;by_cases e:i=j
 .rw[ak e]at h
  split at h
  .cases h;exact .inl ⟨e.symm,rfl⟩
  .cases h
 .rw[ar e]at h;exact .inr ⟨λz=>e z.symm,h⟩
theorem tX{pv:PV}(R:Rl K B Z O Y H ρ)(h:W8 K Z O Y H ρ v pv)(e:v5 ρ pv=ax (d,ρ')):∃X,Ev O H X H/\Rl K B Z X Y H ρ'/\DV X K H v d:=by
 cases pv with
 |fz d'=>cases e;exact⟨O,.refl,R,h⟩
 |ow ds=>cases e;obtain⟨a,vs,rfl,h1,h2,U,T,S⟩:=h;exact⟨GK O a,Ev.sub λb z=>z.1,R.sub h2 S,AD U (λz=>z.2 rfl) (T.ev (Ev.sub λb z=>z.1))⟩
 |pl i=>
  have c:toS ρ i ρ[i]?=ax (d,ρ'):=e;have t:=h;cases q:ρ[i]? with
  |none=>rw[q]at c;cases c
  |some o=>
   cases o with
   |none=>rw[q]at c;cases c
   |some x=>
    obtain⟨u,C,y⟩:=R.slot i x q;rw[t]at C;cases C;rw[q]at c;cases x with
    |fz d'=>cases c;exact⟨O,.refl,R,y⟩
    |pl j=>exact y.elim
    |ow ds=>
     cases c;obtain⟨a,vs,rfl,k1,Q,P,N⟩:=y;have m:Ev O H (GK O a) H:=Ev.sub λb z=>z.1;have E:=AD P (λz=>z.2 rfl) (N.ev m);refine⟨GK O a,m,⟨R.same,λb l=>⟨R.bo b l,λe=>R.ag8 Q (e▸l)⟩,R.bd,λb l z=>R.od b l z.1,by rw[UR];exact R.len,λj x g=>?_,λj k xs F w r p=>?_⟩,E⟩
     .rcases gF g with⟨rfl,f⟩|⟨Xa,g⟩
      .cases f;exact⟨_,t,E⟩
      .obtain⟨u,A,n⟩:=R.slot j x g
       refine⟨u,A,?_⟩;cases x with
       |fz d=>exact DV.ev m n
       |pl i=>exact n
       |ow xs=>obtain⟨b,G,rfl,M,L,J,I⟩:=n;exact⟨b,G,rfl,⟨M,λz=>Xa (R.one j i xs ds (.ref a) g q (by rw[A,z]) t)⟩,L,J,I.ev m⟩
     .rcases gF r with⟨rfl,f⟩|⟨_,r⟩
      .cases f
      .rcases gF p with⟨rfl,f⟩|⟨_,p⟩
       .cases f
       .exact R.one j k xs F w r p
end
def QJ(K:td)(B:eH)(H:Hp)(c:Rf)(dx:c5 Rq)(x:Xc):Prop:=
 (∃a,c=.ref a/\RG K RD x.cls=ax (ax (.ref a)))/\∃fs,(∀p,dx=ax p->H p=ax (.xd fs))/\∀f d,x.fs.lookup f=ax d->dx≠cL/\∃v,fs.lookup f=ax v/\DV B K H v d
def XE(K:td)(B:eH)(a:Hp)(E:XK)(x:Xc):Prop:=∀c dx H',TC a H'->QJ K B H' c dx x->E c dx H'
theorem XE.from(h:XE K B H0 E x)(g:∀a,B a->O a)(s:TC H0 H):XE K O H E x:=λc dx l b ⟨k,fs,j,i⟩=>
 h c dx l (s.trans b) ⟨k,fs,j,λf d e=>let⟨g1,v,g2,g3⟩:=i f d e;⟨g1,v,g2,g3.ev (Ev.sub g)⟩⟩
def WR(K:td)(E:XK)(B:eH)(b:Hp)(P:α->Prop):Res α->Prop
 |.ok a=>P a
 |.er x=>XE K B b E x
 |.bad=>False
section
variable{K:td}{E:XK}{B:eH}{Z:Hp}
theorem WR.bind(h:WR K E B Z P (r.bind k)):WR K E B Z (λa=>WR K E B Z P (k a)) r:=by cases r<;>exact h
theorem WR.Ta(h:WR K E B Z P ((Res.Ta o).bind k)):∃a,o=ax a/\WR K E B Z P (k a):=by
 cases o with
 |none=>exact h.elim
 |some a=>exact⟨a,rfl,h⟩
theorem WR.imp(h:WR K E B Z P r)(g:∀a,P a->P' a):WR K E B Z P' r:=by
 cases r with
 |ok a=>exact g a h
 |er x=>exact h
 |bad=>exact h
end
abbrev FE:=bA->Res (PV×bA)
abbrev FT:=bA->Res (Bool×bA)
abbrev FA:=bA->Res (cM PV×bA)
def EO(K:td)(E:XK)(t:TE)(f:FE):Prop:=
 ∀(B:eH) (b:Hp) (O:eH) (a:St) (H:Hp) (ρ:bA) (Q:VK),Rl K B b O a H ρ->WR K E B b (λr=>∀O' v H',Ev O H O' H'->Rl K B b O' a H' r.2->W8 K b O' a H' r.2 v r.1->Q v H') (f ρ)->t a H Q
def TTO(K:td)(E:XK)(t:TT)(f:FT):Prop:=
 ∀(B:eH) (b:Hp) (O:eH) (a:St) (H:Hp) (ρ:bA) (Q:Bool->Hp->Prop),Rl K B b O a H ρ->WR K E B b (λr=>∀O' H',Ev O H O' H'->Rl K B b O' a H' r.2->Q r.1 H') (f ρ)->t a H Q
def AO(K:td)(E:XK)(t:TA)(f:FA):Prop:=
 ∀(B:eH) (b:Hp) (O:eH) (a:St) (H:Hp) (ρ:bA) (Q:cM V->Hp->Prop),Rl K B b O a H ρ->WR K E B b (λr=>∀O' vs H',Ev O H O' H'->Rl K B b O' a H' r.2->Paired (λv pv=>W8 K b O' a H' r.2 v pv/\ox pv) vs r.1->Q vs H') (f ρ)->t a H Q
inductive RV where
 |fz (d:D)
 |ow (ds:cM D)
def RV.pv:RV->PV
 |.fz d=>.fz d
 |.ow ds=>.ow ds
def Fin(O:eH)(K:td)(H:Hp)(Q:VK):RV->Prop
 |.fz d=>∀v H',TC H H'->DV O K H' v d->Q v H'
 |.ow ds=>∀p vs H',TC H H'->H p=cL->H' p=ax (.lst vs)->T8 (nQ O p) K H' vs ds->Q (.ref p) H'
def sk(O:eH)(H:Hp):Prop:=∀a,H a=cL->¬O a
section
variable{K:td}{E:XK}{B O X:eH}{Y H H':Hp}{Z:St}{ρ ρ':bA}{v:V}
theorem lh(R:Rl K B Y O Z H ρ)(h:∀X v H',Ev O H X H'->Rl K B Y X Z H' ρ->W8 K Y X Z H' ρ v rv.pv->Q v H'):Fin O K H Q rv:=by
 cases rv with
 |fz d=>exact λv H' s c=>h O v H' (Ev.grow s) (R.grow s) c
 |ow ds=>intro p vs H' s b e c;refine h (nQ O p) (.ref p) H' (Ev.add s b) (R.add s b (by rw[e];simp)) ⟨p,vs,rfl,.inr rfl,R.aeg b,e,c,λi o hi z=>?_⟩;obtain⟨u,f,a,k,j,n,m,g,l⟩:=R.slot i _ hi;rw[z]at f;cases f;cases j;rw[b]at g;cases g
theorem Fin.new(hd:T8 O K H vs ds)(h:Fin O K H Q (.ow ds)):∀p,H p=cL->Q (.ref p) (dg H p (.lst vs)):=λp a=>
 h p vs _ (ce a _) a bz (hd.ev (Ev.add (ce a _) a))
theorem Fin.adk(hd:T8 O K H vs ds)(b:sk O H)(h:Fin O K H Q (.fz (.tuple ds))):∀p,H p=cL->Q (.ref p) (dg H p (.tup vs)):=λp a=>
 h (.ref p) _ (ce a _) (.tup ⟨We.of bz,λz=>a7 z (b p a)⟩ (hd.ev (Ev.grow (ce a _))))
theorem Fin.at(h:Fin O K H Q (.fz d))(a:DV O K H v d):Q v H:=h v H (TC.refl H) a
def Bh(ρ:bA)(i:Nat):c5 (c5 PV)->Res (PV×bA)
 |some (ax (.fz d))=>.ok (.fz d,ρ)
 |some (ax (.ow _))=>.ok (.pl i,ρ)
 |_=>.bad
def ae(i:Nat):FE:=λρ=>Bh ρ i ρ[i]?
theorem ad:EO K E (sE i) (ae i):=by
 intro B Y O Z H ρ Q R w;unfold ae at w;cases q:ρ[i]? with
 |none=>rw[q]at w;exact w.elim
 |some o=>
  cases o with
  |none=>rw[q]at w;exact w.elim
  |some x=>
   rw[q]at w;obtain⟨v,a,b⟩:=R.slot i x q;cases x with
   |fz d=>exact⟨v,a,w O v H .refl R b⟩
   |ow ds=>exact⟨v,a,w O v H .refl R a⟩
   |pl j=>exact w.elim
def pC(d:D):FE:=λρ=>.ok (.fz d,ρ)
theorem Ec(h:∀O H,DV O K H v d):EO K E (tC v) (pC d):=λB Y O Z H ρ Q R w=>w O v H .refl R (h O H)
theorem aq:EO K E (tC (.int i)) (pC (.int i)):=Ec λ_ _=>.int i
theorem zi:EO K E (tC (.bl b)) (pC (.bool b)):=Ec λ_ _=>.bl b
theorem aJ:EO K E (tC (.str x)) (pC (.str x)):=Ec λ_ _=>.str x
theorem d9:EO K E (tC .Uo) (pC .none):=Ec λ_ _=>.Uo
def qv(K:td)(r:R2)(f:D->D->c5 RV):Prop:=∀(O:eH) (H:Hp) (x y:V) (dx a:D) (rv:RV) (Q:VK),sk O H->DX O K H x dx->DX O K H y a->f dx a=ax rv->Fin O K H Q rv->r x y H Q
def aA(f:D->D->c5 RV)(c fb:FE):FE:=λρ=>(c ρ).bind λa=>(fb a.2).bind λb=>(Res.Ta (lc b.2 (gI a.1))).bind λdx=>(Res.Ta (lc b.2 b.1)).bind λd=>(Res.Ta (f dx d)).bind λrv=>.ok (rv.pv,b.2)
theorem ap(p:qv K r f)(ha:EO K E ta fa)(q:EO K E tb fb):EO K E (Mv r ta tb) (aA f fa fb):=by intro B Y O Z H ρ Q R w;refine ha B Y O Z H ρ _ R (w.bind.imp λa h P x N z F o=>?_);obtain⟨J,u,R2,n⟩:=lL F o;refine q B Y J Z N a.2 _ R2 (h.bind.imp λb c I y M g d m=>?_);have e:=n.keep (on a.1) g (ρ':=b.2);obtain⟨dx,j,c⟩:=c.Ta;obtain⟨A,i,c⟩:=c.Ta;obtain⟨rv,k,c⟩:=c.Ta;refine p I M x y dx A rv Q d.od (jL d e j) (jL d m i) k (lh d λG v L t C l=>?_);exact c G v L (z.trans (u.trans (g.trans t))) C l
def QO(K:td)(r:V->Hp->VK->Prop)(f:D->c5 RV):Prop:=∀(O:eH) (H:Hp) (x:V) (dx:D) (rv:RV) (Q:VK),sk O H->DX O K H x dx->f dx=ax rv->Fin O K H Q rv->r x H Q
def G3(f:D->c5 RV)(b:FE):FE:=λρ=>(b ρ).bind λa=>(Res.Ta (lc a.2 a.1)).bind λdx=>(Res.Ta (f dx)).bind λrv=>.ok (rv.pv,a.2)
theorem No(i:QO K r f)(ha:EO K E ta fa):EO K E (QA r ta) (G3 f fa):=by intro B Y O Z H ρ Q R w;refine ha B Y O Z H ρ _ R (w.bind.imp λa b n x p k c h=>?_);obtain⟨dx,d,b⟩:=b.Ta;obtain⟨rv,e,b⟩:=b.Ta;exact i n p x dx rv Q c.od (jL c h d) e (lh c λm v o j l g=>b m v o (k.trans j) l g)
def Pi:D->c5 Bool
 |.bool b=>ax b
 |_=>cL
theorem KW(h:DX O K H x d)(e:Pi d=ax b):x=.bl b:=by cases d<;>cases e;cases h;rfl
def ay(c:FE):bA->Res (Bool×bA):=λρ=>(c ρ).bind λa=>(Res.Ta (lc a.2 a.1)).bind λd=>(Res.Ta (Pi d)).bind λb=>.ok (b,a.2)
theorem aG(ha:EO K E ta fa):TTO K E (Cr ta) (ay fa):=by intro B Y O Z H ρ Q R w;refine ha B Y O Z H ρ _ R (w.bind.imp λa c j x k i e h=>?_);obtain⟨d,f,c⟩:=c.Ta;obtain⟨b,g,c⟩:=c.Ta;exact⟨b,KW (jL e h f) g,c j k i e⟩
theorem eS(ha:EO K E ta fa):TTO K E (tB ta) (ay fa):=aG ha
def gw(b fb:FT):FT:=λρ=>(b ρ).bind λa=>if a.1=OK then fb a.2 else .ok (Rh,a.2)
def kL(b fb:FT):FT:=λρ=>(b ρ).bind λa=>if a.1=OK then .ok (OK,a.2)else fb a.2
def ib(b:FT):FT:=λρ=>(b ρ).bind λa=>.ok (!a.1,a.2)
theorem TTO.next(h:TTO K E t f)(R:Rl K B Y O1 Z H1 ρ)(a:Ev O H O1 H1)(w:WR K E B Y (λr=>∀X H',Ev O H X H'->Rl K B Y X Z H' r.2->Q r.1 H') (f ρ)):t Z H1 Q:=
 h B Y O1 Z H1 ρ Q R (w.imp λr q X H' b c=>q X H' (a.trans b) c)
theorem EO.next(h:EO K E t f)(R:Rl K B Y O1 Z H1 ρ)(b:Ev O H O1 H1)(w:WR K E B Y (λr=>∀X v H',Ev O H X H'->Rl K B Y X Z H' r.2->W8 K Y X Z H' r.2 v r.1->Q v H') (f ρ)):t Z H1 Q:=
 h B Y O1 Z H1 ρ Q R (w.imp λr q X v H' c d a=>q X v H' (b.trans c) d a)
theorem gC(j:TTO K E t f)(i:TTO K E u g):TTO K E (MG t u) (gw f g):=by
 intro B Y O Z H ρ Q R w;refine j B Y O Z H ρ _ R (w.bind.imp λa c k l d e=>?_);obtain⟨b,h⟩:=a;cases b with
 |true=>exact i.next e d c
 |false=>exact c k l d e
theorem gL(j:TTO K E t f)(i:TTO K E u g):TTO K E (Pe t u) (kL f g):=by
 intro B Y O Z H ρ Q R w;refine j B Y O Z H ρ _ R (w.bind.imp λa c k l d e=>?_);obtain⟨b,h⟩:=a;cases b with
 |true=>exact c k l d e
 |false=>exact i.next e d c
theorem gA(c:TTO K E t f):TTO K E (Kc t) (ib f):=by intro B Y O Z H ρ Q R w;exact c B Y O Z H ρ _ R (w.bind.imp λa b g h d e=>b g h d e)
def bZ:FT:=λρ=>.ok (OK,ρ)
theorem cf:TTO K E Jd bZ:=λB Y O Z H ρ Q R w=>w O H .refl R
def mV(b fb:FE):FE:=λρ=>(ay b ρ).bind λa=>if a.1=OK then fb a.2 else .ok (.fz (.bool Rh),a.2)
def Ng(b fb:FE):FE:=λρ=>(ay b ρ).bind λa=>if a.1=OK then .ok (.fz (.bool OK),a.2)else fb a.2
def GV(b:FE):FE:=λρ=>(ay b ρ).bind λa=>.ok (.fz (.bool (!a.1)),a.2)
theorem fU(ha:EO K E ta fa)(i:EO K E tb fb):EO K E (IV ta tb) (mV fa fb):=by
 intro B Y O Z H ρ Q R w;refine aG ha B Y O Z H ρ (λc d=>if c=OK then tb Z d Q else Q (.bl Rh) d) R (w.bind.imp λa e j d f g=>?_);obtain⟨b,h⟩:=a;cases b with
 |true=>exact i.next g f e
 |false=>exact e j _ d f g (.bl Rh)
theorem MM(ha:EO K E ta fa)(i:EO K E tb fb):EO K E (OI ta tb) (Ng fa fb):=by
 intro B Y O Z H ρ Q R w;refine aG ha B Y O Z H ρ (λc d=>if c=OK then Q (.bl OK) d else tb Z d Q) R (w.bind.imp λa e j d f g=>?_);obtain⟨b,h⟩:=a;cases b with
 |true=>exact e j _ d f g (.bl OK)
 |false=>exact i.next g f e
theorem GJ(ha:EO K E ta fa):EO K E (Jz ta) (GV fa):=by intro B Y O Z H ρ Q R w;exact aG ha B Y O Z H ρ (λc b=>Q (.bl (!c)) b) R (w.bind.imp λa d g b e f=>d g _ b e f (.bl _))
def fL(f g:D->D->c5 RV)(h fb e:FE):FE:=λρ=>(h ρ).bind λa=>(fb a.2).bind λb=>(Res.Ta (lc b.2 (gI a.1))).bind λdx=>(Res.Ta (lc b.2 (gI b.1))).bind λj=>
 (Res.Ta (f dx j)).bind λrv=>match rv with
  |.fz (.bool OK)=>(e b.2).bind λc=>(Res.Ta (lc c.2 (gI b.1))).bind λd=>(Res.Ta (lc c.2 c.1)).bind λi=>(Res.Ta (g d i)).bind λrv=>.ok (rv.pv,c.2)
  |.fz (.bool Rh)=>.ok (.fz (.bool Rh),b.2)
  |_=>.bad
theorem ie(hr:qv K r f)(q:qv K r' g)(ha:EO K E ta fa)(hb:EO K E tb fb)(hc:EO K E tc fc):EO K E (zH r r' ta tb tc) (fL f g fa fb fc):=by
 intro B Y O Z H ρ Q R w;refine ha B Y O Z H ρ _ R (w.bind.imp λa N O1 x H1 J R1 p1=>?_);obtain⟨O2,I,R2,p2⟩:=lL R1 p1;refine hb B Y O2 Z H1 a.2 _ R2 (N.bind.imp λb e O3' y M u C o=>?_);obtain⟨j,i,m,F⟩:=lL C o;have i:=u.trans i;have p:=p2.keep (on a.1) i (ρ':=b.2);obtain⟨dx,T,e⟩:=e.Ta;obtain⟨dy,S,e⟩:=e.Ta;obtain⟨rv,qf,e⟩:=e.Ta;refine hr j M x y dx dy rv _ m.od (jL m p T) (jL m F S) qf ?_;cases rv with
 |ow ds=>exact e.elim
 |fz d=>
  intro v H' s dv;cases dv with
  |bl k=>
   refine⟨k,rfl,?_⟩;have L:=m.grow s;have t:Ev j M j H':=Ev.grow s;cases k with
   |false=>exact e j _ H' (J.trans (I.trans (i.trans t))) L (.bl Rh)
   |true=>rw[ak rfl];refine hc B Y j Z H' b.2 _ L (WR.imp (WR.bind e) λc h O5 z H5 G l p5=>?_);obtain⟨A,n,h⟩:=h.Ta;obtain⟨dz,P,h⟩:=h.Ta;obtain⟨rv,U,h⟩:=h.Ta;refine q O5 H5 y z A dz rv Q l.od (jL l (F.keep (on b.1) (t.trans G)) n) (jL l p5 P) U (lh l λO6 v H6 e6 R6 p6=>?_);exact h O6 v H6 (J.trans (I.trans (i.trans (t.trans (G.trans e6))))) R6 p6
  |_=>exact e.elim
def aj:FA:=λρ=>.ok ([],ρ)
def ac(d:FE)(c:FA):FA:=λρ=>(d ρ).bind λa=>(c a.2).bind λb=>.ok (gI a.1::b.1,b.2)
theorem ai:AO K E xm aj:=λB Y O Z H ρ Q R w=>w O [] H .refl R .nil
theorem af(ha:EO K E ta fa)(j:AO K E tr fr):AO K E (mL ta tr) (ac fa fr):=by intro B Y O Z H ρ Q R w;refine ha B Y O Z H ρ _ R (w.bind.imp λa f t x r l n i=>?_);obtain⟨p,k,R2,h⟩:=lL n i;refine j B Y p Z r a.2 _ R2 (f.bind.imp λb e o d q c m g=>?_);exact e o (x::d) q (l.trans (k.trans c)) m (.cons ⟨h.keep (on a.1) c,on a.1⟩ g)
def mS(ρ:bA):cM PV->c5 (cM D)
 |[]=>ax []
 |p::r=>match lc ρ p with
  |some d=>(match mS ρ r with
   |some ds=>ax (d::ds)
   |none=>cL)
  |none=>cL
theorem rG(R:Rl K B Y O Z H ρ):∀{vs:cM V} {ps:cM PV} {ds:cM D},Paired (λv pv=>W8 K Y O Z H ρ v pv/\ox pv) vs ps->mS ρ ps=ax ds->Paired (DX O K H) vs ds
 |_,_,_,.nil,e=>by cases e;exact .nil
 |_,_,_,.cons (l₂:=ps) (b:=p) h t,e=>by
  unfold mS at e;cases q:lc ρ p with
  |none=>rw[q]at e;cases e
  |some d=>
   rw[q]at e;dsimp only at e;cases q2:mS ρ ps with
   |none=>rw[q2]at e;cases e
   |some a=>rw[q2]at e;cases e;exact .cons (jL R h.1 q) (rG R t q2)
def lN(ρ:bA):cM PV->c5 (cM D×bA)
 |[]=>ax ([],ρ)
 |p::r=>match v5 ρ p with
  |some (d,ρ1)=>(match lN ρ1 r with
   |some (ds,ρ2)=>ax (d::ds,ρ2)
   |none=>cL)
  |none=>cL
theorem oh:∀{vs:cM V} {ps:cM PV} {ds:cM D} {O:eH} {ρ ρ':bA},Rl K B Y O Z H ρ->Paired (λv pv=>W8 K Y O Z H ρ v pv/\ox pv) vs ps->lN ρ ps=ax (ds,ρ')->∃X,Ev O H X H/\Rl K B Y X Z H ρ'/\T8 X K H vs ds
 |_,_,_,O,_,_,R,.nil,e=>by cases e;exact⟨O,.refl,R,.nil⟩
 |_,_,_,O,ρ,ρ',R,.cons (l₁:=vs) (l₂:=ps) (b:=p) h t,e=>by
  unfold lN at e;cases q:v5 ρ p with
  |none=>rw[q]at e;cases e
  |some r=>
   obtain⟨d,a⟩:=r;rw[q]at e;dsimp only at e;cases q2:lN a ps with
   |none=>rw[q2]at e;cases e
   |some k=>obtain⟨m,i⟩:=k;rw[q2]at e;cases e;obtain⟨y,g,u,o⟩:=tX R h.1 q;have j:Paired (λv pv=>W8 K Y y Z H a v pv/\ox pv) vs ps:=Paired.aeU t λv pv ⟨l,c⟩=>⟨l.keep c g,c⟩;obtain⟨w,f,R2,n⟩:=oh u j q2;exact⟨w,g.trans f,R2,.cons (o.ev f) n⟩
abbrev FN:=cM D->Res RV
def iA(K:td)(n:Nat)(F:FN):Sp:=λvs H Q E=>vs.length=n/\∃(B:eH) (ds:cM D),(∀a,B a->H a≠cL)/\T8 B K H vs ds/\WR K E B H (Fin B K H Q) (F ds)
def na(F:FN)(n:Nat)(c:FA):FE:=λρ=>(c ρ).bind λa=>(Res.Ta (lN a.2 a.1)).bind λb=>if b.1.length=n then(F b.1).bind λrv=>.ok (rv.pv,b.2)else .bad
theorem tq(ha:AO K E ta fa):EO K E (tP (iA K n F) [] E ta) (na F n fa):=by
 intro B Y O Z H ρ Q R w;refine ha B Y O Z H ρ _ R (w.bind.imp λa e t vs u k m g=>?_);obtain⟨⟨ds,d⟩,q,b⟩:=e.Ta;obtain⟨p,j,R2,c⟩:=oh m g q;dsimp only at b;by_cases hn:ds.length=n
 .rw[ak hn]at b
  rw[SW];refine⟨c.length.trans hn,p,ds,λa z h=>R2.od a h z,c,?_⟩;cases qF:F ds with
  |bad=>rw[qF]at b;exact b.elim
  |er x=>rw[qF]at b;exact XE.from b R2.bo R2.same
  |ok rv=>rw[qF]at b;exact lh R2 λo v r i l f=>b o v r (k.trans (j.trans i)) l f
 .rw[ar hn]at b;exact b.elim
def cU(c:FA):FE:=λρ=>(c ρ).bind λa=>(Res.Ta (lN a.2 a.1)).bind λb=>if b.1.length<=1000 then .ok (.fz (.tuple b.1),b.2)else .bad
def cH(c:FA):FE:=λρ=>(c ρ).bind λa=>(Res.Ta (lN a.2 a.1)).bind λb=>if b.1.length<=1000 then .ok (.ow b.1,b.2)else .bad
theorem Gi(h:n<=1000):n<=RL:=SH h (by decide)
theorem fC(ha:AO K E ta fa):EO K E (KJ ta) (cU fa):=by
 intro B Y O Z H ρ Q R w;refine ha B Y O Z H ρ _ R (w.bind.imp λa e p vs r j l g=>?_);obtain⟨⟨ds,d⟩,q,b⟩:=e.Ta;obtain⟨o,i,R2,c⟩:=oh l g q;dsimp only at b;by_cases hn:ds.length<=1000
 .rw[ak hn]at b;refine⟨by rw[c.length];exact Gi hn,Fin.adk c R2.od (lh R2 λm v n h k f=>b m v n (j.trans (i.trans h)) k f)⟩
 .rw[ar hn]at b;exact b.elim
theorem c8(ha:AO K E ta fa):EO K E (LA ta) (cH fa):=by
 intro B Y O Z H ρ Q R w;refine ha B Y O Z H ρ _ R (w.bind.imp λa e p vs r j l g=>?_);obtain⟨⟨ds,d⟩,q,b⟩:=e.Ta;obtain⟨o,i,R2,c⟩:=oh l g q;dsimp only at b;by_cases hn:ds.length<=1000
 .rw[ak hn]at b;refine⟨by rw[c.length];exact Gi hn,Fin.new c (lh R2 λm v n h k f=>b m v n (j.trans (i.trans h)) k f)⟩
 .rw[ar hn]at b;exact b.elim
def DL(K:td)(r:cM V->Hp->VK->Prop)(f:cM D->c5 RV):Prop:=∀(O:eH) (H:Hp) (xs:cM V) (ds:cM D) (rv:RV) (Q:VK),sk O H->Paired (DX O K H) xs ds->f ds=ax rv->Fin O K H Q rv->r xs H Q
def dD(f:cM D->c5 RV)(b:FA):FE:=λρ=>(b ρ).bind λa=>(Res.Ta (mS a.2 a.1)).bind λds=>(Res.Ta (f ds)).bind λrv=>.ok (rv.pv,a.2)
theorem bV(i:DL K r f)(ha:AO K E ta fa):EO K E (Mp r ta) (dD f fa):=by intro B Y O Z H ρ Q R w;refine ha B Y O Z H ρ _ R (w.bind.imp λa d n vs p k c h=>?_);obtain⟨ds,q,b⟩:=d.Ta;obtain⟨rv,e,b⟩:=b.Ta;exact i n p vs ds rv Q c.od (rG c h q) e (lh c λm v o j l g=>b m v o (k.trans j) l g)
def LP:D->c5 Int
 |.int i=>ax i
 |_=>cL
theorem Av(h:DX O K H x d)(e:LP d=ax i):x=.int i:=by cases d<;>cases e;cases h;rfl
abbrev FO:=bA->Res (c5 Int×bA)
def OM(K:td)(E:XK)(t:TO)(f:FO):Prop:=
 ∀(B:eH) (Y:Hp) (O:eH) (Z:St) (H:Hp) (ρ:bA) (Q:c5 Int->Hp->Prop),Rl K B Y O Z H ρ->WR K E B Y (λr=>∀X H',Ev O H X H'->Rl K B Y X Z H' r.2->Q r.1 H') (f ρ)->t Z H Q
def dm:FO:=λρ=>.ok (cL,ρ)
def cG(b:FE):FO:=λρ=>(b ρ).bind λa=>(Res.Ta (lc a.2 a.1)).bind λd=>(Res.Ta (LP d)).bind λi=>.ok (ax i,a.2)
theorem cJ:OM K E B0 dm:=λB Y O Z H ρ Q R w=>w O H .refl R
theorem bR(ha:EO K E ta fa):OM K E (JR ta) (cG fa):=by intro B Y O Z H ρ Q R w;refine ha B Y O Z H ρ _ R (w.bind.imp λa e j x k h c g=>?_);obtain⟨d,q,b⟩:=e.Ta;obtain⟨i,f,b⟩:=b.Ta;exact⟨i,Av (jL c g q) f,b j k h c⟩
def ON(K:td)(r:V->c5 Int->c5 Int->Hp->VK->Prop)(f:D->c5 Int->c5 Int->c5 RV):Prop:=∀(O:eH) (H:Hp) (x:V) (lo hi:c5 Int) (dx:D) (rv:RV) (Q:VK),sk O H->DX O K H x dx->f dx lo hi=ax rv->Fin O K H Q rv->r x lo hi H Q
def kQ(f:D->c5 Int->c5 Int->c5 RV)(d:FE)(b c:FO):FE:=λρ=>(d ρ).bind λa=>(b a.2).bind λl=>(c l.2).bind λh=>(Res.Ta (lc h.2 (gI a.1))).bind λdx=>(Res.Ta (f dx l.1 h.1)).bind λrv=>.ok (rv.pv,h.2)
theorem fE(p:ON K r f)(ha:EO K E ta fa)(q:OM K E tl fl)(t:OM K E th fh):EO K E (Qv r ta tl th) (kQ f fa fl fh):=by intro B Y O Z H ρ Q R w;refine ha B Y O Z H ρ _ R (w.bind.imp λa i T x S z F o=>?_);obtain⟨L,y,R2,n⟩:=lL F o;refine q B Y L Z S a.2 _ R2 (i.bind.imp λl g J P e C=>?_);refine t B Y J Z P l.2 _ C (g.bind.imp λh b I N d c=>?_);obtain⟨dx,j,b⟩:=b.Ta;obtain⟨rv,k,b⟩:=b.Ta;exact p I N x l.1 h.1 dx rv Q c.od (jL c (n.keep (on a.1) (e.trans d)) j) k (lh c λG v M u A m=>b G v M (z.trans (y.trans (e.trans (d.trans u)))) A m)
end
theorem BC{l:cM α}(h:(l.set i x)[i]?=ax y):i<l.length:=by
 rw[Tb]at h;rw[ak rfl]at h;split at h
 .assumption
 .cases h
section
variable{K:td}{E:XK}{B O U:eH}{Z H H':Hp}{Y:St}{ρ ρ':bA}{v:V}
theorem Rl.mut{i:Nat}{ds f:cM D}{a:Rq}{c:cM V}(R:Rl K B Z O Y H ρ)(hi:ρ[i]?=ax (ax (.ow ds)))(G:Y[i]?=ax (ax (.ref a)))(I:O a)(J:Z a=cL)(hd:T8 O K H c f):
  Rl K B Z O Y (dg H a (.lst c)) (ρ.set i (ax (.ow f))):=by
 have ev:Ev O H O (dg H a (.lst c)):=Ev.mut I _;refine⟨λb o e=>by rw[aM (dQ e J)];exact R.same b o e,R.bo,R.bd,λb l=>?_,by rw[UR];exact R.len,λj x g=>?_,λj k xs C w T S t q=>?_⟩
 .by_cases e:b=a
  .rw[e,bz]at l;cases l
  .rw[aM e]at l;exact R.od b l
 .rcases gF g with⟨rfl,X⟩|⟨Xa,g⟩
  .cases X;exact⟨_,G,a,c,rfl,I,J,bz,hd.ev ev⟩
  .obtain⟨u,F,p⟩:=R.slot j x g
   refine⟨u,F,?_⟩;cases x with
   |fz d=>exact DV.ev ev p
   |pl i=>exact p
   |ow xs=>obtain⟨b,L,rfl,Q,P,N,M⟩:=p;have A:b≠a:=λz=>Xa (R.one j i xs ds (.ref a) g hi (by rw[F,z]) G);exact⟨b,L,rfl,Q,P,by rw[aM A];exact N,M.ev ev⟩
 .have own:∀{j:Nat} {xs:cM D},(ρ.set i (ax (.ow f)))[j]?=ax (ax (.ow xs))->∃C,ρ[j]?=ax (ax (.ow C)):=λ{j xs} h=>by
   rcases gF h with⟨rfl,_⟩|⟨_,h⟩
   .exact⟨_,hi⟩
   .exact⟨_,h⟩
  obtain⟨n,y⟩:=own T;obtain⟨m,r⟩:=own S;exact R.one j k n m w y r t q
theorem BI(h:n<1000000):n<RL:=RM h (by decide)
def ve:c5 (c5 PV)->c5 (cM D)
 |some (ax (.ow ds))=>ax ds
 |_=>cL
theorem oE(h:ve o=ax ds):o=ax (ax (.ow ds)):=by
 unfold ve at h;split at h
 .cases h;rfl
 .cases h
def lx(i:Nat)(fe:FE):FE:=λρ=>(Res.Ta (ve ρ[i]?)).bind λ_=>(fe ρ).bind λa=>(Res.Ta (v5 a.2 a.1)).bind λb=>(Res.Ta (ve b.2[i]?)).bind λds=>
 if ds.length<1000000 then .ok (.fz .none,b.2.set i (ax (.ow (ds++[b.1]))))else .bad
theorem lX(t:EO K E te fe):EO K E (Mx K "list" B5 (sE i) (mL te xm)) (lx i fe):=by
 intro B Z O Y H ρ Q R w;obtain⟨G,o,w⟩:=w.Ta;obtain⟨v,h,a,vs,rfl,P,N,u,M⟩:=R.slot i _ (oE o);refine⟨_,h,.inl ⟨rfl,_,Wh.of u⟩,?_⟩;refine t B Z O Y H ρ _ R (w.bind.imp λb c T y X A I p=>?_);obtain⟨⟨d,m⟩,n,c⟩:=c.Ta;obtain⟨J,z,R2,F⟩:=tX I p n;obtain⟨ds,e,c⟩:=c.Ta;have e:=oE e;obtain⟨L,l,S,f,C,k,r,q,j⟩:=R2.slot i _ e;subst C;rw[h]at l;cases l;dsimp only at c;by_cases g:ds.length<1000000
 .rw[ak g]at c;refine⟨a,f,y,rfl,rfl,q,BI (by rw[j.length];exact g),?_⟩;exact c J .Uo _ (A.trans (z.trans (Ev.mut k _))) (R2.mut e h k r (j.append (.cons F .nil))) .Uo
 .rw[ar g]at c;exact c.elim
def Dv(i:Nat)(fe:FE):FE:=λρ=>(Res.Ta (ve ρ[i]?)).bind λ_=>(fe ρ).bind λa=>(Res.Ta (lc a.2 a.1)).bind λd=>(Res.Ta (LP d)).bind λn=>(Res.Ta (ve a.2[i]?)).bind λds=>
 if -(2^63)<=n/\n<2^63 then(Res.Ta (seqIndex? n ds.length)).bind λk=>(Res.Ta ds[k]?).bind λx=>.ok (.fz x,a.2.set i (ax (.ow (ds.eraseIdx k))))else .bad
theorem Gh(G:EO K E te fe):EO K E (Mx K "list" ER (sE i) (mL te xm)) (Dv i fe):=by
 intro B Z O Y H ρ Q R w;obtain⟨P,t,w⟩:=w.Ta;obtain⟨v,j,a,vs,rfl,g2,g3,I,X⟩:=R.slot i _ (oE t);refine⟨_,j,.inl ⟨rfl,_,Wh.of I⟩,?_⟩;refine G B Z O Y H ρ _ R (w.bind.imp λb c S y H1 L l z=>?_);obtain⟨d,r,c⟩:=c.Ta;obtain⟨n,p,c⟩:=c.Ta;obtain⟨ds,e,c⟩:=c.Ta;have e:=oE e;have J:=Av (jL l z r) p;subst J;obtain⟨T,m,a',f,M,h,C,A,g⟩:=l.slot i _ e;subst M;rw[j]at m;cases m;by_cases hn: -(2^63)<=n/\n<2^63
 .rw[ak hn]at c;obtain⟨k,q,c⟩:=c.Ta;obtain⟨x,o,c⟩:=c.Ta;obtain⟨u,F,N⟩:=g.get o;refine⟨a,f,n,k,u,rfl,rfl,A,hn.1,hn.2,by rw[g.length];exact q,F,?_⟩;exact c S u _ (L.trans (Ev.mut h _)) (l.mut e j h C (g.erase k)) (N.ev (Ev.mut h _))
 .rw[ar hn]at c;exact c.elim
abbrev FG:=PV->bA->Res bA
abbrev Ny:=cM D->bA->Res bA
def GO(K:td)(E:XK)(g:TG)(f:FG):Prop:=
 ∀(B:eH) (Z:Hp) (O:eH) (Y:St) (H:Hp) (ρ:bA) (v:V) (pv:PV) (Q:St->Hp->Prop),Rl K B Z O Y H ρ->W8 K Z O Y H ρ v pv->WR K E B Z (λρ'=>∀U σ' H',Ev O H U H'->Rl K B Z U σ' H' ρ'->Q σ' H') (f pv ρ)->g v Y H Q
def Pb(K:td)(E:XK)(g:Mz)(f:Ny):Prop:=
 ∀(B:eH) (Z:Hp) (O:eH) (Y:St) (H:Hp) (ρ:bA) (vs:cM V) (ds:cM D) (Q:St->Hp->Prop),Rl K B Z O Y H ρ->T8 O K H vs ds->WR K E B Z (λρ'=>∀U σ' H',Ev O H U H'->Rl K B Z U σ' H' ρ'->Q σ' H') (f ds ρ)->g vs Y H Q
theorem Rl.agi(R:Rl K B Z O Y H ρ)(h:DV O K H v d):Rl K B Z O (Y.set i (ax v)) H (ρ.set i (ax (.fz d))):=by
 refine⟨R.same,R.bo,R.bd,R.od,by rw[UR,UR];exact R.len,λj x c=>?_,λj k xs m w g f b a=>?_⟩
 .rcases gF c with⟨rfl,e⟩|⟨r,c⟩
  .cases e;have:=BC c;exact⟨v,by rw[Tb,ak rfl,ak (by rw[R.len];exact this)],h⟩
  .obtain⟨u,q,p⟩:=R.slot j x c;exact⟨u,by rw[Tb,ar (λz=>r z.symm)];exact q,p⟩
 .rcases gF g with⟨rfl,l⟩|⟨o,g⟩
  .cases l
  .rcases gF f with⟨rfl,l⟩|⟨n,f⟩
   .cases l
   .rw[Tb,ar (λz=>o z.symm)]at b;rw[Tb,ar (λz=>n z.symm)]at a;exact R.one j k xs m w g f b a
theorem Rl.alf(R:Rl K B Z O Y H ρ)(h:W8 K Z O Y H ρ v (.ow ds)):Rl K B Z O (Y.set i (ax v)) H (ρ.set i (ax (.ow ds))):=by
 obtain⟨a,vs,rfl,F,C,A,y,n⟩:=h;refine⟨R.same,R.bo,R.bd,R.od,by rw[UR,UR];exact R.len,λj x g=>?_,λj k xs m w t f c b=>?_⟩
 .rcases gF g with⟨rfl,e⟩|⟨J,g⟩
  .cases e;have:=BC g;exact⟨.ref a,by rw[Tb,ak rfl,ak (by rw[R.len];exact this)],a,vs,rfl,F,C,A,y⟩
  .obtain⟨u,q,p⟩:=R.slot j x g;exact⟨u,by rw[Tb,ar (λz=>J z.symm)];exact q,p⟩
 .rcases gF t with⟨rfl,I⟩|⟨o,d⟩
  .rcases gF f with⟨rfl,G⟩|⟨l,f⟩
   .rfl
   .rw[Tb,ar (λz=>l z.symm)]at b
    rcases gF c with⟨_,e⟩|⟨z,_⟩
    .cases e;exact a7 b (n k m f)
    .exact a7 rfl z
  .have r:=d
   rw[Tb,ar (λz=>o z.symm)]at c;rcases gF f with⟨rfl,I⟩|⟨l,f⟩
   .rcases gF b with⟨_,e⟩|⟨z,_⟩
    .cases e;exact a7 c (n j xs d)
    .exact a7 rfl z
   .rw[Tb,ar (λz=>l z.symm)]at b;exact R.one j k xs m w d f c b
def gN(i:Nat):FG:=λpv ρ=>match pv with
 |.ow ds=>.ok (ρ.set i (ax (.ow ds)))
 |.fz d=>.ok (ρ.set i (ax (.fz d)))
 |.pl j=>(Res.Ta (v5 ρ (.pl j))).bind λb=>.ok (b.2.set i (ax (.fz b.1)))
theorem aB:GO K E (yB i) (gN i):=by
 intro B Z O Y H ρ v pv Q R p w;cases pv with
 |ow ds=>exact w O _ H .refl (R.alf p)
 |fz d=>exact w O _ H .refl (R.agi p)
 |pl j=>obtain⟨⟨d,a⟩,q,w⟩:=WR.Ta (show WR K E B Z _ ((Res.Ta (v5 ρ (.pl j))).bind λb=>.ok (b.2.set i (ax (.fz b.1))))from w);obtain⟨f,c,R2,e⟩:=tX R p q;exact w f _ H c (R2.agi e)
def B8:Ny:=λds ρ=>match ds with
 |[]=>.ok ρ
 |_=>.bad
def rD(f:FG)(g:Ny):Ny:=λds ρ=>match ds with
 |[]=>.bad
 |d::r=>(f (.fz d) ρ).bind λa=>g r a
theorem jm:Pb K E M6 B8:=by
 intro B Z O Y H ρ vs ds Q R a w;cases a with
 |nil=>exact⟨rfl,w O Y H .refl R⟩
 |cons _ _=>exact w.elim
theorem db(m:GO K E t f)(l:Pb K E u g):Pb K E (IU t u) (rD f g):=by
 intro B Z O Y H ρ vs ds Q R o w;cases o with
 |nil=>exact w.elim
 |cons k j=>rename_i v vs d ds;refine⟨_,_,rfl,m B Z O Y H ρ _ (.fz d) _ R k (WR.imp (WR.bind w) λc i y b A e p=>?_)⟩;exact l B Z y b A c _ _ Q p (j.ev e) (i.imp λh q r a z n R2=>q r a z (e.trans n) R2)
def QI:D->c5 (cM D)
 |.tuple ds=>ax ds
 |_=>cL
theorem FJ(h:DX O K H x d)(e:QI d=ax ds):∃a xs,x=.ref a/\XG O K H a xs/\T8 O K H xs ds:=by
 cases d<;>cases e;cases h with
 |tup h b=>exact⟨_,_,rfl,h,b⟩
def gT(n:Nat)(f:Ny):FG:=λpv ρ=>(Res.Ta (lc ρ pv)).bind λd=>(Res.Ta (QI d)).bind λds=>if ds.length=n then f ds ρ else .bad
theorem jf(h:Pb K E t f):GO K E (MO K n t) (gT n f):=by
 intro B Z O Y H ρ v pv Q R p w;obtain⟨d,e,w⟩:=w.Ta;obtain⟨ds,c,w⟩:=w.Ta;obtain⟨a,xs,rfl,g,b⟩:=FJ (jL R p e) c;by_cases hn:ds.length=n
 .rw[ak hn]at w;exact⟨a,xs,rfl,g.1,b.length.trans hn,h B Z O Y H ρ xs ds Q R b w⟩
 .rw[ar hn]at w;exact w.elim
inductive Fl where
 |nx (ρ:bA)
 |rt (rv:RV)
 |bk (ρ:bA)
 |ct (ρ:bA)
abbrev FS:=bA->Res Fl
def aci(K:td)(B:eH)(Z:Hp)(O:eH)(H:Hp)(D:Ends):Fl->Prop
 |.nx ρ'=>∀U σ' H',Ev O H U H'->Rl K B Z U σ' H' ρ'->D.nx σ' H'
 |.bk ρ'=>∀U σ' H',Ev O H U H'->Rl K B Z U σ' H' ρ'->D.bk σ' H'
 |.ct ρ'=>∀U σ' H',Ev O H U H'->Rl K B Z U σ' H' ρ'->D.ct σ' H'
 |.rt rv=>Fin B K Z D.rt rv
def SO(K:td)(E:XK)(t:TS)(g:FS):Prop:=
 ∀(B:eH) (Z:Hp) (O:eH) (Y:St) (H:Hp) (ρ:bA) (D:Ends),Rl K B Z O Y H ρ->WR K E B Z (aci K B Z O H D) (g ρ)->t D Y H
theorem aci.ev{D:Ends}(e:Ev O H O1 H1)(h:aci K B Z O H D fl):aci K B Z O1 H1 D fl:=by
 cases fl with
 |nx ρ'=>exact λU a H' b c=>h U a H' (e.trans b) c
 |bk ρ'=>exact λU a H' b c=>h U a H' (e.trans b) c
 |ct ρ'=>exact λU a H' b c=>h U a H' (e.trans b) c
 |rt rv=>exact h
def bq:FS:=λρ=>.ok (.nx ρ)
def aF(f g:FS):FS:=λρ=>(f ρ).bind λa=>match a with
 |.nx ρ1=>g ρ1
 |a=>.ok a
def d7(f:FE):FS:=λρ=>(f ρ).bind λa=>.ok (.nx a.2)
def bp(f:FE)(g:FG):FS:=λρ=>(f ρ).bind λa=>(g a.1 a.2).bind λb=>.ok (.nx b)
def dJ(c:FT)(f g:FS):FS:=λρ=>(c ρ).bind λa=>if a.1=OK then f a.2 else g a.2
def Dq(ρ:bA):PV->c5 RV
 |.fz d=>ax (.fz d)
 |.ow ds=>ax (.ow ds)
 |.pl i=>match ρ[i]? with
  |some (ax (.fz d))=>ax (.fz d)
  |some (ax (.ow ds))=>ax (.ow ds)
  |_=>cL
def bG(f:FE):FS:=λρ=>(f ρ).bind λa=>(Res.Ta (Dq a.2 a.1)).bind λrv=>.ok (.rt rv)
theorem bg:SO K E EW bq:=λB Z O Y H ρ D R w=>w O Y H .refl R
theorem az(h:SO K E t f)(e:SO K E u g):SO K E (Ll t u) (aF f g):=by
 intro B Z O Y H ρ D R w;refine h B Z O Y H ρ {D with nx:=u D} R (WR.imp (WR.bind w) λd b=>?_);cases d with
 |nx a=>exact λk c l i j=>e B Z k c l a D j (WR.imp b λd q=>q.ev i)
 |rt rv=>exact b
 |bk a=>exact b
 |ct a=>exact b
theorem gz(h:EO K E t f):SO K E (Ea t) (d7 f):=by intro B Z O Y H ρ D R w;exact h B Z O Y H ρ _ R (w.bind.imp λa b e x g c d i=>b e Y g c d)
theorem bF(h:EO K E t f)(j:GO K E g fg):SO K E (D8 t g) (bp f fg):=by intro B Z O Y H ρ D R w;refine h B Z O Y H ρ _ R (w.bind.imp λa e o x q l m i=>?_);exact j B Z o Y q a.2 x a.1 _ m i (e.bind.imp λc d n b p k R2=>d n b p (l.trans k) R2)
theorem bU(l:TTO K E c fc)(n:SO K E t f)(m:SO K E u g):SO K E (Me c t u) (dJ fc f g):=by
 intro B Z O Y H ρ D R w;refine l B Z O Y H ρ _ R (w.bind.imp λa e j k h i=>?_);obtain⟨b,d⟩:=a;cases b with
 |true=>exact n B Z j Y k d D i (WR.imp e λo q=>q.ev h)
 |false=>exact m B Z j Y k d D i (WR.imp e λo q=>q.ev h)
theorem Kk{pv:PV}(R:Rl K B Z O Y H ρ)(p:W8 K Z O Y H ρ v pv)(e:Dq ρ pv=ax rv)(w:Fin B K Z Q rv):Q v H:=by
 have ow:∀{a:Rq} {vs:cM V} {ds:cM D},O a->Z a=cL->H a=ax (.lst vs)->T8 O K H vs ds->Fin B K Z Q (.ow ds)->Q (.ref a) H:=λ{a vs ds} k g f c w=>
  w a vs H R.same g f (c.ev (Ev.sub λb z=>z.elim (R.bo b) λe=>by rw[e];exact k))
 have fz:∀{d:D},DV O K H v d->Fin B K Z Q (.fz d)->Q v H:=λ{d} h w=>w v H R.same (h.ev (Ev.sub R.bo));cases pv with
 |fz d=>cases e;exact fz p w
 |ow ds=>cases e;obtain⟨a,vs,rfl,k,g,f,c,r⟩:=p;exact ow k g f c w
 |pl i=>
  have n:=p;unfold Dq at e;dsimp only at e;cases q:ρ[i]? with
  |none=>rw[q]at e;cases e
  |some o=>
   cases o with
   |none=>rw[q]at e;cases e
   |some x=>
    obtain⟨u,m,l⟩:=R.slot i x q;rw[n]at m;cases m;rw[q]at e;cases x with
    |fz d=>cases e;exact fz l w
    |ow ds=>cases e;obtain⟨a,vs,rfl,k,g,f,c⟩:=l;exact ow k g f c w
    |pl j=>exact l.elim
theorem aZ(h:EO K E t f):SO K E (KM t) (bG f):=by intro B Z O Y H ρ D R w;refine h B Z O Y H ρ _ R (w.bind.imp λa b g x i e d c=>?_);obtain⟨rv,q,b⟩:=b.Ta;exact Kk d c q b
def wq(K:td)(J:It)(O:eH)(H:Hp)(ds:cM D):Prop:=∀U H',Ev O H U H'->sk U H'->
 (∀i,i<ds.length->J.go i H'/\∀x H'',J.yld i H' x H''->TC H' H''/\∃d,ds[i]?=ax d/\DV U K H'' x d)/\J.stop ds.length H'
abbrev FI:=bA->Res (cM D×bA)
def IO(K:td)(E:XK)(b:TI)(c:FI):Prop:=
 ∀(B:eH) (Z:Hp) (O:eH) (Y:St) (H:Hp) (ρ:bA) (a:It->Hp->Prop),Rl K B Z O Y H ρ->WR K E B Z (λr=>∀U J H',Ev O H U H'->Rl K B Z U Y H' r.2->wq K J U H' r.1->a J H') (c ρ)->b Y H a
def sW(gt:FG)(b:FS):cM D->FS
 |[],ρ=>.ok (.nx ρ)
 |d::r,ρ=>(gt (.fz d) ρ).bind λa=>(b a).bind λc=>match c with
  |.nx ρ2=>sW gt b r ρ2
  |.ct ρ2=>sW gt b r ρ2
  |.bk ρ2=>.ok (.nx ρ2)
  |.rt rv=>.ok (.rt rv)
def jZ(c:FI)(gt:FG)(b:FS):FS:=λρ=>(c ρ).bind λa=>sW gt b a.1 a.2
theorem jr(hi:IO K E wi fi)(X:GO K E g gt)(hb:SO K E tb b):SO K E (MK wi g tb) (jZ fi gt b):=by
 intro B Z O Y H ρ D R w;refine hi B Z O Y H ρ _ R (w.bind.imp λa L C J S P Q N=>?_);obtain⟨ds,A⟩:=a;dsimp only at L N Q;refine⟨λi m c H'=>m=ds.length - i/\i<=ds.length/\∃O2 ρ2,Ev C S O2 H'/\Rl K B Z O2 c H' ρ2/\WR K E B Z (aci K B Z O H D) (sW gt b (ds.drop i) ρ2),⟨_,rfl,Tp _,C,A,.refl,Q,L⟩,?_⟩;rintro i m k I ⟨rfl,hi,O2,ρ2,e2,R2,w2⟩;obtain⟨go,l⟩:=N O2 I e2 R2.od;by_cases t:i<ds.length
 .obtain⟨g1,g2⟩:=go i t
  refine .inr ⟨g1,λc H'=>i+1<=ds.length/\∃O2 ρ2,Ev C S O2 H'/\Rl K B Z O2 c H' ρ2/\WR K E B Z (aci K B Z O H D) (sW gt b (ds.drop (i+1)) ρ2),λc H' ⟨h1,h2⟩=>⟨ds.length - (i+1),by ext,rfl,h1,h2⟩,λx G y=>?_⟩;obtain⟨M,d,hd,dv⟩:=g2 x G y;have ed:ds.drop i=d::ds.drop (i+1):=by obtain⟨_,q⟩:=Rp.mp hd;rw[Wy t,q]
  rw[ed]at w2;have e3:Ev O2 I O2 G:=Ev.grow M;refine X B Z O2 k G ρ2 x (.fz d) _ (R2.grow M) dv (WR.imp (WR.bind w2) λz T O4 u H4 e4 R4=>?_);have j:=e2.trans (e3.trans e4);refine hb B Z O4 u H4 z _ R4 (WR.imp (WR.bind T) λfl r=>?_);cases fl with
  |nx f=>exact λp h F n o=>⟨t,p,f,j.trans n,o,r⟩
  |ct f=>exact λp h F n o=>⟨t,p,f,j.trans n,o,r⟩
  |bk f=>exact λp h F n o=>r p h F (P.trans (j.trans n)) o
  |rt rv=>exact r
 .have e:i=ds.length:=by ext
  subst e;rw[Ui (Rr _)]at w2;exact .inl ⟨l,w2 O2 k I (P.trans e2) R2⟩
def g9:D->c5 (cM D)
 |.tuple ds=>ax ds
 |.list ds=>ax ds
 |_=>cL
def E3(K:td)(c:TE):TI:=λY H R=>c Y H λx b=>∃a,x=.ref a/\(((∃xs,Wh K b a xs)/\R (Qi K a) b)\/((∃xs,We K b a xs)/\R (PR K a) b))
theorem eZ(t:PE X l tl):PI X tg l (E3 X.K tl):=by
 intro f s Y H R I h;refine fR (t f s Y H _ I h) λv d ⟨x,k,c,m,n⟩=>?_;obtain⟨a,e,q⟩:=n;subst e;cases m;rcases q with⟨⟨xs,g⟩,q⟩|⟨⟨xs,g⟩,q⟩
 .obtain⟨j,rv,p,r⟩:=c.list g
  refine Yu p.isList ?_;refine⟨d.heap.objs.size,[d.heap.objs.size],_,_,k,rfl,c.kept λb o e=>c6 _ e,DG a _,⟨_,dN _ rfl,rfl,rfl⟩,λb i=>?_,q⟩;have e:b=d.heap.objs.size:=by simpa using i
  subst e;exact c.aat (Rr _) (c.TL.fresh (Rr _))
 .obtain⟨j,rv,p,r⟩:=c.tuple g
  refine UH (show d.heap.IsTuple a j.toArray from p) ?_;refine⟨d.heap.objs.size,[d.heap.objs.size],_,_,k,rfl,c.kept λb o e=>c6 _ e,Ag a _,⟨_,dN _ rfl,rfl,rfl⟩,λb i=>?_,q⟩;have e:b=d.heap.objs.size:=by simpa using i
  subst e;exact c.aat (Rr _) (c.TL.fresh (Rr _))
theorem Iu(h:YB O K H a xs)(hd:T8 O K H xs ds):wq K (Qi K a) O H ds:=by intro U H' e n;have b:=h.ev e;have c:=hd.ev e;refine⟨λi hi=>?_,⟨xs,b.1.sq,by rw[hd.length];exact Rr _⟩⟩;obtain⟨x,j,_⟩:=c.get (Rj hi);refine⟨⟨xs,x,b.1.sq,j⟩,?_⟩;rintro y k ⟨rfl,hy⟩;obtain⟨d,g,f⟩:=c.adQ (hy xs b.1.sq);exact⟨TC.refl _,d,g,f⟩
theorem LH(h:XG O K H a xs)(hd:T8 O K H xs ds):wq K (PR K a) O H ds:=by intro U H' e n;have b:=h.ev e;have c:=hd.ev e;refine⟨λi hi=>?_,⟨xs,b.1,by rw[hd.length];exact Rr _⟩⟩;obtain⟨x,j,_⟩:=c.get (Rj hi);refine⟨⟨xs,x,b.1,j⟩,?_⟩;rintro y k ⟨rfl,hy⟩;obtain⟨d,g,f⟩:=c.adQ (hy xs b.1);exact⟨TC.refl _,d,g,f⟩
def jU(fe:FE):FI:=λρ=>(fe ρ).bind λa=>(Res.Ta (v5 a.2 a.1)).bind λb=>(Res.Ta (g9 b.1)).bind λds=>.ok (ds,b.2)
theorem gv(h:EO K E tl fe):IO K E (E3 K tl) (jU fe):=by
 intro B Z O Y H ρ o R w;refine h B Z O Y H ρ _ R (w.bind.imp λa b p x j g n l=>?_);obtain⟨⟨d,k⟩,q,b⟩:=b.Ta;obtain⟨i,f,R2,m⟩:=tX n l q;obtain⟨ds,c,b⟩:=b.Ta;dsimp only at c;cases m with
 |tup h e=>cases c;exact⟨_,rfl,.inr ⟨⟨_,h.1⟩,b i _ j (g.trans f) R2 (LH h e)⟩⟩
 |lst h e=>cases c;exact⟨_,rfl,.inl ⟨⟨_,h.1.sq⟩,b i _ j (g.trans f) R2 (Iu h e)⟩⟩
 |_=>cases c
def jR(lo:Int)(n:Nat):cM D:=(Sb n).map λ(k:Nat)=>.int (lo+(k:Int))
theorem Ek:wq K (OS lo n) O H (jR lo n):=by
 intro U H' e c;have a:(jR lo n).length=n:=by unfold jR;rw[CL,RQ]
 refine⟨λi hi=>?_,by show n<=_;rw[a];exact Rr _⟩;rw[a]at hi;refine⟨hi,?_⟩;rintro x b ⟨rfl,rfl⟩;exact⟨TC.refl _,.int (lo+i),by unfold jR;rw[Rt,List.getElem?_range hi];rfl,.int _⟩
def lW(i:Int):Prop:= -(2^62)<=i/\i<2^62
noncomputable instance(i:Int):Decidable (lW i):=by unfold lW;infer_instance
def gJ:cM D->c5 (cM D)
 |[.int j]=>if lW j then ax (jR 0 j.toNat)else cL
 |_=>cL
def jK(f:cM D->c5 (cM D))(b:FA):FI:=λρ=>(b ρ).bind λa=>(Res.Ta (mS a.2 a.1)).bind λds=>(Res.Ta (f ds)).bind λxs=>.ok (xs,a.2)
theorem g6(h:AO K E ta fa):IO K E (JS ta) (jK gJ fa):=by
 intro B Z O Y H ρ o R w;refine h B Z O Y H ρ _ R (w.bind.imp λa c m vs n l e g=>?_);obtain⟨ds,q,c⟩:=c.Ta;obtain⟨xs,b,c⟩:=c.Ta;have f:=rG e g q;unfold gJ at b;split at b
 .rename_i j
  split at b
  .rename_i d
   cases b;cases f with
   |cons k i=>cases i;cases k;exact⟨j,rfl,d.1,d.2,c m _ n l e Ek⟩
  .cases b
 .cases b
end
section
variable{K:td}{E:XK}{B O Y:eH}{X H H':Hp}{Z:St}{ρ ρ':bA}{v:V}
def vU:c5 PV->c5 PV
 |some (.fz d)=>ax (.fz d)
 |_=>cL
def dL(ρ:bA):bA:=ρ.map vU
theorem AE{i:Nat}(h:(dL ρ)[i]?=ax (ax x)):∃d,x=.fz d/\ρ[i]?=ax (ax (.fz d)):=by
 unfold dL at h;rw[Rt]at h;cases q:ρ[i]? with
 |none=>rw[q]at h;cases h
 |some o=>
  rw[q]at h;have a:=R9 h;unfold vU at a;split at a
  .cases a;exact⟨_,rfl,rfl⟩
  .cases a
def vI(ρ:bA):cM Nat->c5 (cM D×bA)
 |[]=>ax ([],ρ)
 |j::r=>match v5 ρ (.pl j)with
  |some (d,ρ1)=>(match vI ρ1 r with
   |some (c,ρ2)=>ax (d::c,ρ2)
   |none=>cL)
  |none=>cL
theorem DB(R:Rl K B X O Z H ρ)(h:v5 ρ (.pl i)=ax (d,ρ')):∃v,Z[i]?=ax (ax v):=by
 have a:toS ρ i ρ[i]?=ax (d,ρ'):=h;cases q:ρ[i]? with
 |none=>rw[q]at a;cases a
 |some o=>
  cases o with
  |none=>rw[q]at a;cases a
  |some x=>obtain⟨v,b,_⟩:=R.slot i x q;exact⟨v,b⟩
theorem zw:∀{f:cM Nat} {ds:cM D} {O:eH} {ρ ρ':bA},Rl K B X O Z H ρ->vI ρ f=ax (ds,ρ')->∃Y vs,Ev O H Y H/\Rl K B X Y Z H ρ'/\T8 Y K H vs ds/\f.map (λj=>(Z[j]?).join)=vs.map ax
 |[],_,O,_,_,R,e=>by cases e;exact⟨O,[],.refl,R,.nil,rfl⟩
 |j::r,_,O,ρ,ρ',R,e=>by
  unfold vI at e;cases q:v5 ρ (.pl j)with
  |none=>rw[q]at e;cases e
  |some p=>
   obtain⟨d,a⟩:=p;rw[q]at e;dsimp only at e;cases q2:vI a r with
   |none=>rw[q2]at e;cases e
   |some i=>obtain⟨c,h⟩:=i;rw[q2]at e;cases e;obtain⟨v,b⟩:=DB R q;obtain⟨u,l,o,n⟩:=tX (pv:=.pl j) R b q;obtain⟨t,vs,g,R2,m,k⟩:=zw o q2;exact⟨t,v::vs,l.trans g,R2,.cons (n.ev g) m,by rw[RJ,RJ,k,b];rfl⟩
def d8(gt:FG)(ft:FT)(fe:FE):cM D->bA->cM D->Res (cM D)
 |[],_,acc=>.ok acc
 |d::r,ρ,acc=>(gt (.fz d) ρ).bind λc=>(ft c).bind λb=>if b.1=OK then(fe b.2).bind λa=>(Res.Ta (v5 a.2 a.1)).bind λx=>
   if acc.length<1000000 then d8 gt ft fe r (dL x.2) (acc++[x.1])else .bad
  else d8 gt ft fe r (dL b.2) acc
def jS:Res α->Res α
 |.er _=>.bad
 |r=>r
def dh(n:Nat)(b:cM Nat)(e:FI)(gt:FG)(ft:FT)(fe:FE):FE:=λρ=>(e ρ).bind λa=>(Res.Ta (vI a.2 b)).bind λc=>
 (jS (d8 gt ft fe a.1 (RH n cL++c.1.map λd=>ax (.fz d)) [])).bind λxs=>.ok (.ow xs,c.2)
theorem IR{own:cM Str}(h:own.length=n):own.map (λ_=>(cL:c5 V))=RH n cL:=by
 subst h
 induction own with
 |nil=>rfl
 |cons x r a=>rw[RJ,a,Rk,SQ]
theorem BF(h:WR K E B X P (jS r)):∃a,r=.ok a/\P a:=by
 cases r with
 |ok a=>exact⟨a,rfl,h⟩
 |er x=>exact h.elim
 |bad=>exact h.elim
def Oz(K:td)(J:It)(O:eH)(H:Hp)(ds:cM D):Prop:=∀Y H',Ev O H Y H'->TC H H'->sk Y H'->
 (∀i,i<ds.length->J.go i H'/\∀x H'',J.yld i H' x H''->TC H' H''/\∃d,ds[i]?=ax d/\DV Y K H'' x d)/\J.stop ds.length H'
def Pj(K:td)(E:XK)(b:TI)(c:FI):Prop:=
 ∀(B:eH) (X:Hp) (O:eH) (Z:St) (H:Hp) (ρ:bA) (a:It->Hp->Prop),Rl K B X O Z H ρ->WR K E B X (λr=>∀Y J H',Ev O H Y H'->Rl K B X Y Z H' r.2->Oz K J Y H' r.1->a J H') (c ρ)->b Z H a
theorem IO.s(h:IO K E wi fi):Pj K E wi fi:=λB X O Z H ρ c R w=>h B X O Z H ρ c R (w.imp λr q Y J H' e R a=>q Y J H' e R λd f b _ n=>a d f b n)
theorem nF(hn:own.length=n)(hf:fv.map (·.2)=fj)
  (hi:Pj K E wi fi) (hg:GO K E0 g gt) (ht:TTO K E0 tc ft) (he:EO K E0 te fe):EO K E (B9 own fv wi g tc te) (dh n fj fi gt ft fe):=by
 intro B X O Z H ρ Q R w;refine hi B X O Z H ρ _ R (w.bind.imp λa w1 O1 J H1 e1 R1 it=>?_);obtain⟨ds,ρ1⟩:=a;obtain⟨⟨cs,ρ2⟩,qc,w1⟩:=w1.Ta;dsimp only at qc it;obtain⟨G,vs,e2,R2,dvs,hvs⟩:=zw R1 qc;obtain⟨xs,qx,w1⟩:=BF (WR.bind w1);intro f C;have hB:∀{H':Hp},TC H1 H'->H' f≠cL->∀a,nQ G f a->H' a≠cL:=λ{H'} s nd a h z=>h.elim (λq=>R2.od a (s.free z) q) λe=>nd (by rw[<-e];exact z);refine⟨λi m I H'=>m=ds.length - i/\i<=ds.length/\∃(t:cM D) (F:cM V) (l:bA),TC H1 H'/\H' f=ax (.lst F)/\T8 (nQ G f) K H' F t/\I.length=l.length/\(∀(j:Nat) (x:PV),l[j]?=ax (ax x)->∃d u,x=PV.fz d/\I[j]?=ax (ax u)/\DV (nQ G f) K H' u d)/\d8 gt ft fe (ds.drop i) l t=.ok xs,
  ⟨_,rfl,Tp _,[],[],_,ce C _,bz,.nil,?_,λj x L=>?_,qx⟩,?_⟩
 .unfold rQ;rw[Ry,Ry,CL,CL,S8,CL,hn,<-dvs.length];have:=e9 Za hvs;rw[CL,CL,<-hf,CL]at this;ext
 .have hm:fv.map (λp=>(Z[p.2]?).join)=vs.map ax:=by rw[<-hvs,<-hf,Sw];rfl
  unfold rQ;rw[IR hn,hm];by_cases hj:j<n
  .rw[Tj (by rw[S8];exact hj),Vo,ak hj]at L;cases L
  .rw[TN (by rw[S8];ext),S8,Rt]at L⊢
   cases qd:cs[j - n]? with
   |none=>rw[qd]at L;cases L
   |some d=>rw[qd]at L;cases L;obtain⟨u,hu,du⟩:=dvs.get qd;exact⟨d,u,rfl,by rw[hu];rfl,du.ev (Ev.add (ce C _) C)⟩
 .rintro i m I H' ⟨rfl,hi,t,F,l,s,hD,dys,hl,hsl,c⟩
  have nD:H' f≠cL:=by rw[hD];simp
  have no':=λa z h=>hB s nD a h z;have ev1:=e2.trans (Ev.add s C);obtain⟨go,stop⟩:=it (nQ G f) H' ev1 s no';by_cases Y2:i<ds.length
  .obtain⟨g1,g2⟩:=go i Y2
   refine .inr ⟨g1,λA M=>i+1<=ds.length/\∃(t:cM D) (F:cM V) (l:bA),TC H1 M/\M f=ax (.lst F)/\T8 (nQ G f) K M F t/\A.length=l.length/\(∀(j:Nat) (x:PV),l[j]?=ax (ax x)->∃d u,x=PV.fz d/\A[j]?=ax (ax u)/\DV (nQ G f) K M u d)/\d8 gt ft fe (ds.drop (i+1)) l t=.ok xs,
    λA M ⟨T,h2⟩=>⟨ds.length - (i+1),by ext,rfl,T,h2⟩,λx H3 y=>?_⟩
   obtain⟨s3,d,hd,dv⟩:=g2 x H3 y;have ed:ds.drop i=d::ds.drop (i+1):=by obtain⟨_,q⟩:=Rp.mp hd;rw[Wy Y2,q]
   rw[ed]at c;have hD3:=s3 _ _ hD;have nD3:H3 f≠cL:=by rw[hD3];simp
   have sv:=s.trans s3;have RC:Rl K (nQ G f) H3 (nQ G f) I H3 l:=⟨TC.refl _,λ_ h=>h,hB sv nD3,λa z h=>hB sv nD3 a h z,hl,λj x L=>by obtain⟨d,u,rfl,T,h2⟩:=hsl j x L;exact⟨u,T,h2.ev (Ev.grow s3)⟩,λj k xs F w hj=>by obtain⟨d,u,e,_⟩:=hsl j _ hj;cases e⟩;unfold d8 at c;have U:∀{O5:eH} {A:St} {M:Hp} {N:bA} {H6:Hp},Rl K (nQ G f) H3 O5 A M N->(∀b o,b≠f->M b=ax o->H6 b=ax o)->A.length=(dL N).length/\∀(j:Nat) (x:PV),(dL N)[j]?=ax (ax x)->∃d u,x=PV.fz d/\A[j]?=ax (ax u)/\DV (nQ G f) K H6 u d:=λ{O5 A M N H6} S k=>by refine⟨by unfold dL;rw[CL];exact S.len,λj x L=>?_⟩;obtain⟨d,rfl,hxx⟩:=AE L;obtain⟨u,T,h2⟩:=S.slot j _ hxx;refine⟨d,u,rfl,T,DV.ev (λb o h n=>⟨k b o (λe=>n (.inr e)) h,n⟩) (DV.ev (Ev.sub S.bo) h2)⟩
   refine hg _ _ _ I H3 l x (.fz d) _ RC dv ?_;cases qg:gt (.fz d) l with
   |er z=>rw[qg]at c;cases c
   |bad=>rw[qg]at c;cases c
   |ok ρ3=>
    rw[qg,fu]at c;intro O4 σ4 H4 e4 R4;refine ht _ _ _ σ4 H4 ρ3 _ R4 ?_;cases qt:ft ρ3 with
    |er z=>rw[qt]at c;cases c
    |bad=>rw[qt]at c;cases c
    |ok b=>
     obtain⟨b,ρ4⟩:=b;rw[qt,fu]at c;intro O5 M e5 S;cases b with
     |false=>rw[ar Rg]at c⊢;obtain⟨l5,k5⟩:=U S λb o _ h=>h;refine⟨Y2,t,F,dL ρ4,sv.trans S.same,S.same _ _ hD3,?_,l5,k5,c⟩;exact dys.ev (Ev.grow (s3.trans S.same))
     |true=>
      rw[ak rfl]at c⊢;refine he _ _ _ σ4 M ρ4 _ S ?_;cases qe:fe ρ4 with
      |er z=>rw[qe]at c;cases c
      |bad=>rw[qe]at c;cases c
      |ok r=>
       rw[qe,fu]at c;intro O6 yv H6 e6 R6 p6;cases q7:v5 r.2 r.1 with
       |none=>rw[q7]at c;cases c
       |some xr=>
        obtain⟨xd,ρ7⟩:=xr;rw[q7]at c;obtain⟨O7,e7,R7,dv7⟩:=tX R6 p6 q7;have hD7:=R7.same _ _ hD3;have P:(if t.length<1000000 then d8 gt ft fe (ds.drop (i+1)) (dL ρ7) (t++[xd])else .bad)=.ok xs:=c;by_cases hl6:t.length<1000000
        .rw[ak hl6]at P
         have up:∀b o,b≠f->H6 b=ax o->dg H6 f (.lst (F++[yv])) b=ax o:=λb o hb h=>by rw[aM hb];exact h
         have evD:Ev (nQ G f) H6 (nQ G f) (dg H6 f (.lst (F++[yv]))):=λb o h n=>⟨up b o (λe=>n (.inr e)) h,n⟩;have akV:=dys.ev (Ev.grow (s3.trans R7.same));obtain⟨l5,k5⟩:=U R7 up;refine⟨F,hD7,BI (by rw[dys.length];exact hl6),Y2,t++[xd],F++[yv],dL ρ7,λb o h=>?_,bz,?_,l5,k5,P⟩
         .rw[aM (dQ h C)];exact R7.same _ _ (sv _ _ h)
         .exact(akV.append (.cons (DV.ev (Ev.sub R7.bo) dv7) .nil)).ev evD
        .rw[ar hl6]at P;cases P
  .have e:i=ds.length:=by ext
   subst e;rw[Ui (Rr _)]at c;have c:=c;cases c;refine .inl ⟨stop,?_⟩;refine w1 (nQ G f) (.ref f) H' (e1.trans ev1) (R2.add s C nD) ⟨f,F,rfl,.inr rfl,R2.aeg C,hD,dys,λk es hk z=>?_⟩;obtain⟨u,T,b,us,e2,g1,g2,g3,g4⟩:=R2.slot k _ hk;rw[z]at T;cases T;cases e2;rw[C]at g3;cases g3
theorem cO(hn:own.length=n)(c:fv.map (·.2)=fj)
  (hi:IO K E wi fi) (b:GO K E0 g gt) (a:TTO K E0 tc ft) (d:EO K E0 te fe):EO K E (B9 own fv wi g tc te) (dh n fj fi gt ft fe):=nF hn c hi.s b a d
def KB(ρ:bA):c5 (c5 PV)->Res (cM D×bA)
 |some (ax (.ow ds))=>.ok (ds,ρ)
 |_=>.bad
def ql(i:Nat):FI:=λρ=>KB ρ ρ[i]?
theorem og:Pj K E (E3 K (sE i)) (ql i):=by
 intro B X O Z H ρ z R w;unfold ql at w;cases q:ρ[i]? with
 |none=>rw[q]at w;exact w.elim
 |some o=>
  cases o with
  |none=>rw[q]at w;exact w.elim
  |some x=>
   cases x with
   |fz d=>rw[q]at w;exact w.elim
   |pl j=>rw[q]at w;exact w.elim
   |ow ds=>rw[q]at w;obtain⟨v,m,a,vs,rfl,u,t,c,p⟩:=R.slot i _ q;refine⟨_,m,a,rfl,.inl ⟨⟨vs,Wh.of c⟩,w O _ H .refl R λY H' e s n=>?_⟩⟩;have k:=s _ _ c;have b:=p.ev e;refine⟨λj l=>?_,⟨vs,Wh.of k,by rw[b.length];exact Rr _⟩⟩;obtain⟨x,h,_⟩:=b.get (Rj l);refine⟨⟨vs,x,Wh.of k,h⟩,?_⟩;rintro y r ⟨rfl,hy⟩;obtain⟨d,g,f⟩:=b.adQ (hy vs (Wh.of k));exact⟨TC.refl _,d,g,f⟩
def bu(F:FN)(n:Nat)(c:FA):FE:=λρ=>(c ρ).bind λa=>(Res.Ta (lN a.2 a.1)).bind λb=>if b.1.length=n then(jS (F b.1)).bind λrv=>.ok (rv.pv,b.2)else .bad
theorem bv(ha:AO K E ta fa):EO K E (tP (iA K n F) [] E0 ta) (bu F n fa):=by
 intro B X O Z H ρ Q R w;refine ha B X O Z H ρ _ R (w.bind.imp λa e u vs y l o h=>?_);obtain⟨⟨ds,d⟩,q,b⟩:=e.Ta;obtain⟨r,k,R2,c⟩:=oh o h q;dsimp only at b;by_cases hn:ds.length=n
 .rw[ak hn]at b;obtain⟨rv,f,b⟩:=BF (WR.bind b);rw[SW];refine⟨c.length.trans hn,r,ds,λa z i=>R2.od a i z,c,?_⟩;rw[f];exact lh R2 λp v t j m g=>b p v t (l.trans (k.trans j)) m g
 .rw[ar hn]at b;exact b.elim
end
def dI(N:Nat)(g:FS):FN:=λds=>(g (ds.map (λd=>ax (.fz d))++RH (N - ds.length) cL)).bind λa=>match a with
 |.rt rv=>.ok rv
 |.nx _=>.ok (.fz .none)
 |_=>.bad
theorem yo(f:∀a,B a->H a≠cL)(g:T8 B K H vs ds):Rl K B H B (L2.start N vs) H (ds.map (λd=>ax (.fz d))++RH (N.length - ds.length) cL):=by
 have l:=g.length;refine⟨TC.refl _,λ_ h=>h,f,λa z h=>f a h z,?_,λi x k=>?_,λi j xs o w hi=>?_⟩
 .unfold L2.start;rw[Ry,Ry,CL,CL,S8,S8,l]
 all_goals
  have b:∀{i:Nat} {x:PV},(ds.map (λd=>ax (PV.fz d))++RH (N.length - ds.length) cL)[i]?=ax (ax x)->∃d,x=.fz d/\ds[i]?=ax d:=λ{i x} h=>by
   by_cases hi:i<ds.length
   .rw[Tj (by rw[CL];exact hi),Rt]at h
    cases q:ds[i]? with
    |none=>rw[q]at h;cases h
    |some d=>rw[q]at h;cases h;exact⟨d,rfl,rfl⟩
   .rw[TN (by rw[CL];ext),Vo]at h;split at h<;>cases h
 .obtain⟨d,rfl,m⟩:=b k;obtain⟨v,c,n⟩:=g.get m;refine⟨v,?_,n⟩;have hi:=(Rp.mp c).1;unfold L2.start;rw[Tj (by rw[CL];exact hi),Rt,c];rfl
 .obtain⟨d,e,_⟩:=b hi;cases e
theorem Q5(F:Vf K x qual st f fd)(S:Tz N ps (aI st))(hn:ps.length=n)
  (o:∀(a:Rf) (A:Sk) (outer:cM Env) (s:Ro) (H:Hp) (E:XK),U5 k (A.deeper (Se qual (aI st) s.heap.objs.size f a))->
   ∃t,ZJ (gl fF P w K mg base N qual (aI st) f a A outer s H E).Zq (aC st) t/\SO K E t g):FnOk P w K mg base fF (k+1) f fd ps (iA K n (dI N.length g)):=by
 refine F.ok S (λvs H Q E h=>h.1.trans hn.symm) (λa A outer s H vs Q E i h=>?_);obtain⟨t,c,d⟩:=o a A outer s H E i;obtain⟨r,B,ds,j,m,h⟩:=h;refine⟨t,c,d B H B _ H _ _ (yo j m) (WR.imp (WR.bind h) λl q=>?_)⟩;cases l with
 |rt rv=>exact q
 |nx ρ=>exact λu b p e R=>q .Uo p R.same .Uo
 |bk ρ=>exact q.elim
 |ct ρ=>exact q.elim
end L3
namespace L3
open PySem PySem.Spec PyProof.Rows L2
theorem OpR.or(h:OpR X f r)(h':OpR X f r'):OpR X f (λx y H Q=>r x y H Q\/r' x y H Q):=by
 intro a s b H x y v u Q I d c q;rcases q with q|q
 .exact h a s b H x y v u Q I d c q
 .exact h' a s b H x y v u Q I d c q
theorem KL(I:Inv X pins σ H s)(h:WH X.K H l xs):xs.length<=RL/\∃(a:cM Rf) (n:Nat),Vals xs a/\xs.length=a.length/\s.heap.get? l=ax {cls:=.type "list",data:=.seq a.toArray n}:=by
 rcases h with(h|⟨o,h⟩)|⟨a,n,h1,h2,h3⟩
 .exact I.adF h
 .obtain⟨_,z,a,n,r,e⟩:=I.TL l _ h;exact⟨z,a,n,r,r.length,e⟩
 .exact⟨h2,a,n,h3,h3.length,I.YE _ _ h1⟩
def JV(K:td):R2:=λx y H Q=>∃l b xs zs,x=.ref l/\y=.ref b/\WH K H l xs/\WH K H b zs/\xs.length+zs.length<=RL/\∀p,H p=cL->Q (.ref p) (dg H p (.lst (xs++zs)))
theorem xE:OpR X (UB .Add) (JV X.K):=by
 intro c s t H x y v u Q I g f h;obtain⟨l,b,xs,w,rfl,rfl,k,m,C,q⟩:=h;cases g;cases f;obtain⟨z,d,n,r,E,e⟩:=KL I k;obtain⟨A,a,B,i,j,p⟩:=KL I m;refine PySem.P.add_list e p ?_ (by rw[RB,RB];ext);have o:d.toArray++a.toArray=(d++a).toArray:=by simp
 rw[o];exact⟨.ref _,_,I.aeF (r.append i) (by rw[Ry];ext),rfl,q _ I.fresh⟩
def Ja(K:td):R2:=λx y H Q=>∃l k xs,x=.ref l/\y=.int k/\WH K H l xs/\ -(2^63)<=k/\k<2^63/\xs.length*k.toNat<=RL/\
 ∀p,H p=cL->Q (.ref p) (dg H p (.lst (RH k.toNat xs).flatten))
theorem Ix:OpR X (UB .Mult) (Ja X.K):=by
 intro j s N H x y v u Q I C B h;obtain⟨l,k,xs,rfl,rfl,G,L,J,o,q⟩:=h;cases C;obtain⟨t,rfl⟩:=B;obtain⟨z,b,n,r,E,e⟩:=KL I G;have c:b.toArray.size*k.toNat<=RL:=by rw[RB,<-E];exact o
 have d:¬b.toArray.size*k.toNat>(2^63 - 1)/8:=by
  have:(RL:Nat)<=(2^63 - 1)/8:=by decide
  ext
 have f:¬(!R8.List.listFitsIndex k)=OK:=by rw[abb L J];exact Rg
 have i:¬R8.List.listTooLong (b.toArray.size*k.toNat)=OK:=by rw[Fk c];exact Rg
 have g:Xd (λw p=>w++p) #[] (RH (if b.toArray.isEmpty=OK then 0 else k.toNat) b.toArray)=(RH k.toNat b).flatten.toArray:=by
  have M:=λm=>by have:=rJ b m [];rw[VY]at this;exact this
  rw[M];cases b with
  |nil=>simp
  |cons a O=>rw[ar (by simp)]
 refine abN (by decide) ⟨_,e,rfl⟩ (λA=>Zd A k t) noFill_list_mul F.fills_int_mul F.slot_int_rmul repeat_list F.slot_int_index.lookup
  (Uk F.slot_int_rmul (Zd s k t) F.entry_int_rmul (F.args_int_rmul_2 _ _) (int___rmul___int_list k t l b.toArray n)
   ⟨e,rfl,⟨_,e,rfl⟩,Uk F.slot_list_mul ⟨_,e,rfl⟩ F.entry_list_mul (F.args_list_mul_2 _ _) (AutoListH.list___mul___list_int_3 l b.toArray n k t f d i) ⟨e,?_⟩⟩)
 rw[g];exact⟨.ref _,_,I.aeF (r.rep k.toNat) (by rw[BQ,Nat.mul_comm];exact o),rfl,q _ I.fresh⟩
section
variable{K:td}
def fI(g:Int->Int->Int):D->D->c5 RV
 |.int i,.int j=>ax (.fz (.int (g i j)))
 |_,_=>cL
def fB(g:Int->Int->Bool):D->D->c5 RV
 |.int i,.int j=>ax (.fz (.bool (g i j)))
 |_,_=>cL
def Nm(C:Int->Int->Bool)(g:Int->Int->Int):D->D->c5 RV
 |.int i,.int j=>if C i j=OK then ax (.fz (.int (g i j)))else cL
 |_,_=>cL
theorem Fy(h:fI g dx dy=ax rv):∃i j,dx=.int i/\dy=.int j/\rv=.fz (.int (g i j)):=by
 unfold fI at h;split at h
 .cases h;exact⟨_,_,rfl,rfl,rfl⟩
 .cases h
theorem Nx:qv K (zA λi j=>.int (g i j)) (fI g):=by intro O H x y dx c rv Q n b a e q;obtain⟨i,j,rfl,rfl,rfl⟩:=Fy e;cases b;cases a;exact⟨i,j,rfl,rfl,q.at (.int _)⟩
theorem Cp:qv K (zA λi j=>.bl (g i j)) (fB g):=by
 intro O H x y dx c rv Q n b a e q;unfold fB at e;split at e
 .cases e;cases b;cases a;exact⟨_,_,rfl,rfl,q.at (.bl _)⟩
 .cases e
theorem zM(d:∀i j,C i j=OK->C' i j):qv K (rI C' λi j=>.int (g i j)) (Nm C g):=by
 intro O H x y dx f rv Q n b a e q;unfold Nm at e;split at e
 .split at e
  .rename_i c;cases e;cases b;cases a;exact⟨_,_,rfl,rfl,d _ _ c,q.at (.int _)⟩
  .cases e
 .cases e
theorem DF(h:DX O K H x (.list ds)):∃a xs,x=.ref a/\WH K H a xs/\T8 O K H xs ds:=h
theorem C5(h:DX O K H x (.tuple ds)):∃a xs,x=.ref a/\XG O K H a xs/\T8 O K H xs ds:=FJ h rfl
def IW(K:td):R2:=λx y H Q=>zA (λi j=>.int (i+j)) x y H Q\/JV K x y H Q\/Jr K x y H Q
theorem b7:OpR X (UB .Add) (IW X.K):=OpR.or K6 (OpR.or xE Ir)
def bM:D->D->c5 RV
 |.int i,.int j=>ax (.fz (.int (i+j)))
 |.list xs,.list ys=>if xs.length+ys.length<=1000000 then ax (.ow (xs++ys))else cL
 |.tuple xs,.tuple ys=>if xs≠[]/\xs.length+ys.length<=1000000 then ax (.fz (.tuple (xs++ys)))else cL
 |_,_=>cL
theorem ri(h:n<=1000000):n<=RL:=SH h (by decide)
theorem T8.ne(h:T8 O K H vs ds):vs=[]↔ds=[]:=by cases h<;>simp
theorem b9:qv K (IW K) bM:=by
 intro O H x y dx m rv Q n j i e q;unfold bM at e;split at e
 .cases e;cases j;cases i;exact .inl ⟨_,_,rfl,rfl,q.at (.int _)⟩
 .split at e
  .rename_i f;cases e;obtain⟨a,xs,rfl,g,c⟩:=DF j;obtain⟨b,h,rfl,k,d⟩:=DF i;exact .inr (.inl ⟨a,b,xs,h,rfl,rfl,g,k,ri (by rw[c.length,d.length];exact f),Fin.new (c.append d) q⟩)
  .cases e
 .split at e
  .rename_i f;cases e;obtain⟨a,xs,rfl,g,c⟩:=C5 j;obtain⟨b,h,rfl,k,d⟩:=C5 i;refine .inr (.inr ⟨a,b,xs,h,rfl,rfl,g.1,k.1,λz=>f.1 (c.ne.mp z),ri (by rw[c.length,d.length];exact f.2),λz=>?_,λ_=>Fin.adk (c.append d) n q⟩);have l:=d.ne.mp z;subst l;rw[SW]at q;exact q.at (.tup g c)
  .cases e
 .cases e
def EZ(K:td):R2:=λx y H Q=>rI adI (λi j=>.int (i*j)) x y H Q\/Ja K x y H Q
theorem HI:OpR X (UB .Mult) (EZ X.K):=OpR.or Mc Ix
def j7(i:Int):Bool:=decide (-(2^64)<i/\i<2^64)
theorem uT(h:j7 i=OK): -(2^64)<i/\i<2^64:=a6 h
def Du:D->D->c5 RV
 |.int i,.int j=>if(j7 i||j7 j)=OK then ax (.fz (.int (i*j)))else cL
 |.list xs,.int k=>if xs.length*k.toNat<=1000000/\ -(2^63)<=k/\k<2^63 then ax (.ow (RH k.toNat xs).flatten)else cL
 |_,_=>cL
theorem Hs:qv K (EZ K) Du:=by
 intro O H x y dx h rv Q n d c e q;unfold Du at e;split at e
 .split at e
  .rename_i b
   cases e;cases d;cases c;refine .inl ⟨_,_,rfl,rfl,?_,q.at (.int _)⟩;rcases(ZH _ _).mp b with z|z
   .exact .inl (uT z)
   .exact .inr (uT z)
  .cases e
 .split at e
  .rename_i b;cases e;cases c;obtain⟨a,xs,rfl,g,f⟩:=DF d;exact .inr ⟨a,_,xs,rfl,rfl,g,b.2.1,b.2.2,ri (by rw[f.length];exact b.1),Fin.new (f.flat _) q⟩
  .cases e
 .cases e
def uO:=fI λi j=>i - j
theorem Br:qv K (zA λi j=>.int (i - j)) uO:=Nx
def K3(_ j:Int):Bool:=decide (0<j)
def cq:=Nm K3 λi j=>i % j
theorem eF:qv K (rI (λ_ j=>0<j) λi j=>.int (i % j)) cq:=zM λi j h=>a6 h
def KA(_ j:Int):Bool:=decide (0<j/\j<2^128)
def c9:=Nm KA λi j=>i/j
theorem gy:qv K (rI (λ_ j=>0<j/\j.natAbs.log2<9000) λi j=>.int (i/j)) c9:=zM λi j h=>by
 have a:=a6 h;refine⟨a.1,?_⟩;have b:j.natAbs<2^128:=by have:=a.2;ext
 have c:=(ahW (by ext)).mpr b;ext
def Gu(i j:Int):Bool:=decide (0<=j/\j<=1000000/\i.natAbs<2^64)
theorem Hd(i j:Int)(h:Gu i j=OK):JY i j:=by unfold Gu at h;exact(show 0<=j/\j<=1000000/\i.natAbs<2^64 from a6 h)
def sY:=Nm Gu λi j=>i^j.toNat
theorem Ht:qv K (rI JY λi j=>.int (i^j.toNat)) sY:=zM Hd
def sw:=fB λi j=>decide (i<j)
def vo:=fB λi j=>decide (i<=j)
def ug:=fB λi j=>decide (j<i)
def HB:=fB λi j=>decide (j<=i)
theorem pF:qv K (zA λi j=>.bl (decide (i<j))) sw:=Cp
theorem k9:qv K (zA λi j=>.bl (decide (i<=j))) vo:=Cp
theorem pj:qv K (zA λi j=>.bl (decide (j<i))) ug:=Cp
theorem Gn:qv K (zA λi j=>.bl (decide (j<=i))) HB:=Cp
def mr(d:D):Bool:=d.canLay0&&decide (d.depth<=64)
def dq(d e:D):c5 RV:=if(mr d&&e.canLay0)=OK then ax (.fz (.bool (lD.eqv d e)))else cL
def kM(d e:D):c5 RV:=if(mr d&&e.canLay0)=OK then ax (.fz (.bool (!lD.eqv d e)))else cL
theorem bQ:qv K (G9 K Rh) dq:=by
 intro O H x y dx d rv Q n c b e q;unfold dq at e;split at e
 .rename_i a;cases e;unfold mr at a;simp only[Rz,decide_eq_true_eq]at a;exact⟨dx,d,c.plain,b.plain,a.1.1,a.2,a.1.2,q.at (.bl _)⟩
 .cases e
theorem kx:qv K (G9 K OK) kM:=by
 intro O H x y dx d rv Q n c b e q;unfold kM at e;split at e
 .rename_i a;cases e;unfold mr at a;simp only[Rz,decide_eq_true_eq]at a;exact⟨dx,d,c.plain,b.plain,a.1.1,a.2,a.1.2,q.at (.bl _)⟩
 .cases e
def lw:D->D->c5 RV
 |.none,.none=>ax (.fz (.bool OK))
 |_,.none=>ax (.fz (.bool Rh))
 |_,_=>cL
def wk:D->D->c5 RV
 |.none,.none=>ax (.fz (.bool Rh))
 |_,.none=>ax (.fz (.bool OK))
 |_,_=>cL
theorem FR(h:DX O K H x d)(hd:d≠.none):x≠.Uo:=by
 cases d with
 |none=>exact a7 rfl hd
 |list ds=>obtain⟨a,xs,rfl,_⟩:=DF h;simp
 |tuple ds=>obtain⟨a,xs,rfl,_⟩:=C5 h;simp
 |bool b=>cases h;simp
 |int b=>cases h;simp
 |str b=>cases h;simp
 |dict b=>cases h
theorem qC:qv K (λx y H Q=>y=.Uo/\Q (.bl (decide (x=.Uo))) H) lw:=by
 intro O H x y dx d rv Q n b a e q;unfold lw at e;split at e
 .cases e;cases b;cases a;exact⟨rfl,q.at (.bl _)⟩
 .rename_i c;cases e;cases a;refine⟨rfl,?_⟩;rw[a5 (FR b c)];exact q.at (.bl _)
 .cases e
theorem wX:qv K (λx y H Q=>y=.Uo/\Q (.bl (!decide (x=.Uo))) H) wk:=by
 intro O H x y dx d rv Q n b a e q;unfold wk at e;split at e
 .cases e;cases b;cases a;exact⟨rfl,q.at (.bl _)⟩
 .rename_i c;cases e;cases a;refine⟨rfl,?_⟩;rw[a5 (FR b c)];exact q.at (.bl _)
 .cases e
def HG(K:td)(a:Bool):R2:=λx y H Q=>∃d ds,L2.DV K H x d/\(L2.DV K H y (.list ds)\/L2.DV K H y (.tuple ds))/\d.canLay0=OK/\lD.canLayAll0 ds=OK/\d.depth<=64/\Q (.bl (if a then !(ds.any λe=>lD.eqv e d)else ds.any λe=>lD.eqv e d)) H
theorem tR(n:X.A.units+65<cLine):OpR X (To .In) (HG X.K Rh):=by
 intro f s m H x y v u Q I j c h;obtain⟨d,ds,l,a,i,g,k,q⟩:=h;obtain⟨o,e⟩:=l.reads I j;have hm:min (lD.depthAll ds) d.depth<=64:=SH (Zc _ _) k;rcases a with a|a
 .obtain⟨bs,b⟩:=a.reads I c;exact ajb b e g i (by ext) ⟨.bl _,H,I,rfl,q⟩
 .obtain⟨bs,b⟩:=a.reads I c;exact ajc b e g i (by ext) ⟨.bl _,H,I,rfl,q⟩
theorem p7(n:X.A.units+65<cLine):OpR X (To .NotIn) (HG X.K OK):=by
 intro f s m H x y v u Q I j c h;obtain⟨d,ds,l,a,i,g,k,q⟩:=h;obtain⟨o,e⟩:=l.reads I j;have hm:min (lD.depthAll ds) d.depth<=64:=SH (Zc _ _) k;rcases a with a|a
 .obtain⟨bs,b⟩:=a.reads I c;exact ajd b e g i (by ext) ⟨.bl _,H,I,rfl,q⟩
 .obtain⟨bs,b⟩:=a.reads I c;exact aje b e g i (by ext) ⟨.bl _,H,I,rfl,q⟩
def lu(d e:D):c5 RV:=match g9 e with
 |some ds=>if(mr d&&lD.canLayAll0 ds)=OK then ax (.fz (.bool (ds.any λe=>lD.eqv e d)))else cL
 |none=>cL
def mW(d e:D):c5 RV:=match g9 e with
 |some ds=>if(mr d&&lD.canLayAll0 ds)=OK then ax (.fz (.bool (!ds.any λe=>lD.eqv e d)))else cL
 |none=>cL
theorem EC(a:DX O K H y e)(h:g9 e=ax ds):L2.DV K H y (.list ds)\/L2.DV K H y (.tuple ds):=by
 unfold g9 at h;split at h
 .cases h;exact .inr a.plain
 .cases h;exact .inl a.plain
 .cases h
theorem uf:qv K (HG K Rh) lu:=by
 intro O H x y dx f rv Q n c b e q;unfold lu at e;split at e
 .rename_i ds d
  split at e
  .rename_i a;cases e;unfold mr at a;simp only[Rz,decide_eq_true_eq]at a;exact⟨dx,ds,c.plain,EC b d,a.1.1,a.2,a.1.2,q.at (.bl _)⟩
  .cases e
 .cases e
theorem re:qv K (HG K OK) mW:=by
 intro O H x y dx f rv Q n c b e q;unfold mW at e;split at e
 .rename_i ds d
  split at e
  .rename_i a;cases e;unfold mr at a;simp only[Rz,decide_eq_true_eq]at a;exact⟨dx,ds,c.plain,EC b d,a.1.1,a.2,a.1.2,q.at (.bl _)⟩
  .cases e
 .cases e
def bx(d e:D):c5 RV:=match g9 d,e with
 |some ds,.int i=>(pU ds i).map .fz
 |_,_=>cL
theorem D7(h:T8 O K H xs ds)(e:pU ds i=ax d):∃v,pU xs i=ax v/\DV O K H v d:=by
 unfold pU at e⊢;rw[h.length];cases q:G4 ds.length i with
 |none=>rw[q]at e;cases e
 |some j=>rw[q]at e;exact h.get e
theorem bc:qv K (Pz K) bx:=by
 intro O H x y dx l rv Q n j k e q;unfold bx at e;split at e
 .rename_i ds i b
  cases k;cases qa:pU ds i with
  |none=>rw[qa]at e;cases e
  |some d=>
   rw[qa]at e;cases e;unfold g9 at b;split at b
   .cases b;obtain⟨a,xs,rfl,g,f⟩:=C5 j;obtain⟨v,c,h⟩:=D7 f qa;exact .inr (.inl ⟨a,xs,i,v,rfl,rfl,g.1,c,q.at h⟩)
   .cases b;obtain⟨a,xs,rfl,g,f⟩:=DF j;obtain⟨v,c,h⟩:=D7 f qa;exact .inl ⟨a,xs,i,v,rfl,rfl,g.sq,c,q.at h⟩
   .cases b
 .cases e
def kS(xs:cM D)(lo hi:c5 Int):cM D:=(xs.drop (HT.sIx xs.length 0 lo)).take (HT.sIx xs.length xs.length hi - HT.sIx xs.length 0 lo)
theorem G1{lo hi:c5 Int}(h:T8 O K H xs ds):T8 O K H (De xs lo hi) (kS ds lo hi):=by unfold De kS;rw[h.length];exact(h.drop _).take _
def gK(n:Nat)(lo hi:c5 Int):Bool:=decide (HT.sIx n 0 lo=0/\HT.sIx n n hi=n)
def Kx(K:td):V->c5 Int->c5 Int->Hp->VK->Prop:=λx lo hi H Q=>Na K x lo hi H Q\/Nu K x lo hi H Q
theorem nq:LZ X (Kx X.K):=by
 intro a s b H x v d c lo hi e Q I f i pl g h;rcases h with h|h
 .exact He a s b H x v d c lo hi e Q I f i pl g h
 .exact Kn a s b H x v d c lo hi e Q I f i pl g h
def wm:D->c5 Int->c5 Int->c5 RV
 |.list ds,lo,hi=>ax (.ow (kS ds lo hi))
 |.tuple ds,lo,hi=>if gK ds.length lo hi=OK then cL else ax (.fz (.tuple (kS ds lo hi)))
 |_,_,_=>cL
theorem km:ON K (Kx K) wm:=by
 intro O H x lo hi dx rv Q n d e q;unfold wm at e;split at e
 .cases e;obtain⟨a,xs,rfl,c,b⟩:=DF d;exact .inl ⟨a,xs,rfl,c.sq,Fin.new (G1 b) q⟩
 .split at e
  .cases e
  .rename_i f;cases e;obtain⟨a,xs,rfl,c,b⟩:=C5 d;refine .inr ⟨a,xs,rfl,c.1,λz=>f ?_,Fin.adk (G1 b) n q⟩;unfold gK;rw[<-b.length];exact a4 z
 .cases e
def xG:D->c5 RV
 |.int i=>ax (.fz (.int (-i)))
 |_=>cL
theorem HF:QO K (rU λi=>.int (-i)) xG:=by
 intro O H x dx rv Q n a e q;unfold xG at e;split at e
 .cases e;cases a;exact⟨_,rfl,q.at (.int _)⟩
 .cases e
def dc:cM D->c5 RV
 |[d]=>(match g9 d with
  |some ds=>ax (.fz (.int ds.length))
  |none=>cL)
 |_=>cL
theorem fO:DL K (λxs H Q=>∃x n,xs=[x]/\Mj K x H n/\Q (.int n) H) dc:=by
 intro O H xs ds rv Q n f e q;unfold dc at e;split at e
 .split at e
  .rename_i g c
   cases e;cases f with
   |cons b d=>
    cases d;unfold g9 at c;split at c
    .cases c;obtain⟨a,xs,rfl,b,d⟩:=C5 b;exact⟨_,xs.length,rfl,.inr ⟨xs,b.1,rfl⟩,by rw[d.length];exact q.at (.int _)⟩
    .cases c;obtain⟨a,xs,rfl,b,d⟩:=DF b;exact⟨_,xs.length,rfl,.inl ⟨xs,b.sq,rfl⟩,by rw[d.length];exact q.at (.int _)⟩
    .cases c
  .cases e
 .cases e
def kN:cM D->c5 RV
 |[.tuple ds]=>ax (.fz (.tuple ds))
 |[.list ds]=>ax (.fz (.tuple ds))
 |_=>cL
theorem fM:DL K (λxs H Q=>∃p ys,xs=[.ref p]/\((Wh K H p ys/\∀l,H l=cL->Q (.ref l) (dg H l (.tup ys)))\/(We K H p ys/\Q (.ref p) H))) kN:=by
 intro O H xs ds rv Q n d e q;unfold kN at e;split at e
 .cases e
  cases d with
  |cons b c=>cases c;obtain⟨a,xs,rfl,b,c⟩:=C5 b;exact⟨a,xs,rfl,.inr ⟨b.1,q.at (.tup b c)⟩⟩
 .cases e
  cases d with
  |cons b c=>cases c;obtain⟨a,xs,rfl,b,c⟩:=DF b;exact⟨a,xs,rfl,.inl ⟨b.sq,Fin.adk c n q⟩⟩
 .cases e
def E1:cM D->c5 RV
 |[d]=>(g9 d).map .ow
 |_=>cL
theorem Cd:DL K (λxs H Q=>∃p ys,xs=[.ref p]/\(Wh K H p ys\/We K H p ys)/\∀l,H l=cL->Q (.ref l) (dg H l (.lst ys))) E1:=by
 intro O H xs ds rv Q n f e q;unfold E1 at e;split at e
 .rename_i d
  cases f with
  |cons b c=>
   cases c;cases hs:g9 d with
   |none=>rw[hs]at e;cases e
   |some g=>
    rw[hs]at e;cases e;unfold g9 at hs;split at hs
    .cases hs;obtain⟨a,xs,rfl,b,c⟩:=C5 b;exact⟨a,xs,rfl,.inr b.1,Fin.new c q⟩
    .cases hs;obtain⟨a,xs,rfl,b,c⟩:=DF b;exact⟨a,xs,rfl,.inl b.sq,Fin.new c q⟩
    .cases hs
 .cases e
def mJ:cM D->c5 RV
 |[.int i,.int j]=>ax (.fz (.int (if j>i then j else i)))
 |_=>cL
theorem B7:DL K (λxs H Q=>∃i j,xs=[.int i,.int j]/\Q (.int (if j>i then j else i)) H) mJ:=by
 intro O H xs ds rv Q n b e q;unfold mJ at e;split at e
 .cases e
  cases b with
  |cons d a=>
   cases a with
   |cons a c=>cases c;cases d;cases a;exact⟨_,_,rfl,q.at (.int _)⟩
 .cases e
end
end L3
namespace PySem
open Sem (wp)
open AutoSeq1 (wpAny_loadPart')
open Builtin Builtin.Str
section
variable{prog:RT}{w:SG}{A:Sk}{E:Rf->Ro->Prop}{s:Ro}
theorem k8(a:s.heap.IsTupleIter it t i)(g:s.heap.IsTuple t items)(f:items[i]?=ax x)
  (j:∀h',h'.IsTupleIter it t (i+1)->Heap.SameBut it s.heap h'->Q x {s with heap:=h'}):wpAny (model prog w) A (R8.SmallTypes.nextOf (.ref it)) Q E s:=by
 obtain⟨o,c,h,b⟩:=id a;obtain⟨k,d,_,l,e⟩:=g;unfold R8.SmallTypes.nextOf;refine Ld (Uh a.typeIs F.slot_tuple_iterator_next
  (UL F.slot_tuple_iterator_next a.typeIs F.entry_tuple_iterator_next ?_ (F.args_tuple_iterator_next_1 _)))
 show wpAny _ _ (field (.ref it) 0>>=_) _ _ s;refine Ld (SJ c b rfl ?_);show wpAny _ _ (if(Rf.ref t==Rf.none)=OK then _ else _) _ _ s;rw[ar (show¬((Rf.ref t==Rf.none)=OK)from Rg)];refine Ld (SJ c b rfl ?_);refine Ld (UM d e ?_);simp only[Sy,f];refine Ld (UN c b (by simp) (Ru ⟨x,rfl,Ru (j _ ?_ (Heap.SameBut.update ..))⟩));exact⟨_,ea _ c (en (ek b _)),(Obj.cls_mapFields ..).trans h,by rw[ek b];simp[rawInt]⟩
theorem jq(g:A.handled=cL)(a:s.heap.IsTupleIter it t i)(j:s.heap.IsTuple t items)(h:items[i]?=cL)
  (k:∀h' e,Heap.ExtBut it s.heap h'->(∃o,h'.get? e=ax o/\o.cls=.type "StopIteration")->E (.ref e) {s with heap:=h'}):wpAny (model prog w) A (R8.SmallTypes.nextOf (.ref it)) Q E s:=by
 obtain⟨o,c,n,f⟩:=id a;obtain⟨l,b,_,m,d⟩:=j;unfold R8.SmallTypes.nextOf;refine Ld (Uh a.typeIs F.slot_tuple_iterator_next
  (UL F.slot_tuple_iterator_next a.typeIs F.entry_tuple_iterator_next ?_ (F.args_tuple_iterator_next_1 _)))
 show wpAny _ _ (field (.ref it) 0>>=_) _ _ s;refine Ld (SJ c f rfl ?_);show wpAny _ _ (if(Rf.ref t==Rf.none)=OK then _ else _) _ _ s;rw[ar (show¬((Rf.ref t==Rf.none)=OK)from Rg)];refine Ld (SJ c f rfl ?_);refine Ld (UM b d ?_);simp only[Sy,h];refine Ld (abf (Ld (UN c f (by simp) ?_)));refine Ld ?_;simp only[newExc,newTuple];refine Ld (TV ?_ (by size_fits));refine Ld (wpAny_of_eq (by first|rfl|(simp only[firstArgMember];rfl)) ?_);refine TV ?_ (by size_fits);simp only[raiseNew];refine Ld (wpAny_handled ?_)
 first|rw[show A.in1.handled=cL from g]|rw[g]
 refine Ld (Ru (wpAny_throw ?_));exact k _ _ (((Heap.SameBut.update ..).extBut.push _).push _) ⟨_,dN _ rfl,rfl⟩
end
theorem GR(g:A.handled=cL)(it l:Rq)(n:l≠it)(a:Array Rf):
  Draws prog w A it [it,l] a.size (λi v=>a[i]?=ax v) (λi h=>h.IsTupleIter it l i/\h.IsTuple l a) where
 live:=λ_ _ b=>let⟨o,ho,_⟩:=b.1;⟨o,ho⟩
 frame:=λ_ _ _ b f=>⟨b.1.at λo e=>f it (by simp) o e,let⟨o,h1,h2⟩:=b.2;⟨o,f l (by simp) o h1,h2⟩⟩
 item:=λi s Q E hi b j=>by refine k8 b.1 b.2 (x:=a[i]) (by simp[hi]) λm d c=>?_;exact j _ m s.toks (by simp[hi]) ⟨d,let⟨o,h1,h2⟩:=b.2;⟨o,(c.2 l n).trans h1,h2⟩⟩ c
 done:=λs Q E b k=>jq g b.1 b.2 (by simp) k
set_option maxHeartbeats 4000000 in
theorem nX(l:Rq)(a:Array Rf)(n:Nat)(dct:c5 Rq)(j:Array (c5 Rf)):
  Meets (R8.«enumerate.__new__» ⟨[.type "enumerate",.ref l],[]⟩) (λ_ R s=>s.heap.get? l=ax {cls:=.type "tuple",dict:=dct,data:=.seq a n,slots:=j}/\
   R (.ok (.ret (.ref (s.heap.push {cls:=.type "tuple_iterator",data:=.fields #[.ref l,.int 0 0]}).objs.size)))
    {s with heap:=(s.heap.push {cls:=.type "tuple_iterator",data:=.fields #[.ref l,.int 0 0]}).push {cls:=.type "enumerate",data:=.fields #[.none,.bool Rh,.ref s.heap.objs.size,rawInt 0,.none,.none]}}):=
 .of_wp λf w A R s h=>by
  obtain⟨m,g,d,i,k⟩:=s;obtain⟨b,h⟩:=h;have o:=alw;have e:Heap.IsTuple (Ro.heap ⟨m,g,d,i,k⟩) l a:=⟨_,b,rfl,n,rfl⟩
  wp_walk using Wm b
  refine ahX λp=>Ru ?_;split
  .rename_i c _ _ _ _ _
   cases(c==Rf.type "enumerate")
   .wp_walk using Wm b,UH e
    exact⟨_,rfl,h⟩
   .wp_walk using Wm b,UH e
    exact⟨_,rfl,h⟩
  .wp_walk using Wm b,UH e
   exact⟨_,rfl,h⟩
section
variable{prog:RT}{w:SG}{A:Sk}{E:Rf->Ro->Prop}{s:Ro}
theorem oa(j:s.heap.IsTuple l items)
  (h:∀h',abd h' (s.heap.objs.size+1) s.heap.objs.size 0 .none->h'.IsTupleIter s.heap.objs.size l 0->h'.objs.size=s.heap.objs.size+2->
   (∀b o,s.heap.get? b=ax o->h'.get? b=ax o)->Q (.ref (s.heap.objs.size+1)) {s with heap:=h'}):
  wpAny (model prog w) A (call (.type "enumerate") [.ref l]) Q E s:=by
 obtain⟨⟨c,dct,k,g⟩,i,e,n,d⟩:=j;replace e:c=.type "tuple":=e;replace d:k=.seq items n:=d;subst e d;refine callType_new F.called_enumerate (by decide) (F.typeCall_enumerate_1 _) (F.newCall_enumerate_1 _) (λobj=>F.args_object_init_2 obj _) F.entry_enumerate_new
  (nX l items n dct g) ⟨i,?_⟩
 have a:(s.heap.push {cls:=.type "tuple_iterator",data:=.fields #[.ref l,.int 0 0]}).objs.size=s.heap.objs.size+1:=ec ..;rw[a]
 have f:abd ((s.heap.push {cls:=.type "tuple_iterator",data:=.fields #[.ref l,.int 0 0]}).push
   {cls:=.type "enumerate",data:=.fields #[.none,.bool Rh,.ref s.heap.objs.size,rawInt 0,.none,.none]}) (s.heap.objs.size+1) s.heap.objs.size 0 .none:=by
  have:=dN (s.heap.push {cls:=.type "tuple_iterator",data:=.fields #[.ref l,.int 0 0]})
   (o:={cls:=.type "enumerate",data:=.fields #[.none,.bool Rh,.ref s.heap.objs.size,rawInt 0,.none,.none]}) rfl
  rw[a]at this;exact this
 refine⟨⟨_,f,rfl⟩,h _ f ⟨_,c6 _ (dN _ rfl),rfl,rfl⟩ (by rw[ec,a]) λb o x=>c6 _ (c6 _ x)⟩
end
end PySem
namespace L3
open PySem PySem.Spec PyProof.Rows L2
def Lq(K:td)(a:Rq):It:=
 ⟨λi H=>∃xs x,We K H a xs/\xs[i]?=ax x,
  λi H v b=>∃p x,H p=cL/\v=.ref p/\(∀xs,We K H a xs->xs[i]?=ax x)/\b=dg H p (.tup [.int i,x]),
  λi H=>∃xs,We K H a xs/\xs.length<=i⟩
theorem Cf(I:Inv X pins σ H s)(i:We X.K H a xs)(h:We X.K H a ys):xs=ys:=by
 obtain⟨e,g,⟨o,j,_,n,k⟩,_⟩:=I.tuple i;obtain⟨b,f,⟨l,c,_,m,d⟩,_⟩:=I.tuple h;rw[j]at c;cases c;rw[k]at d;have:e=b:=by
  have q:e.toArray=b.toArray:=by injection d
  simpa using q
 subst this;exact g.inj f
theorem Bc{K:td}{kk}(a e it:Rq)(Xa:e≠it)(Z:a≠it)(hae:a≠e):
  Turn P w K (.Tuple elts kk tp) (Lq K a) [e,it] e (λi h=>(∃old,abd h e it i old)/\h.IsTupleIter it a i) where
 mem:=by simp
 obj:=λi h c b g=>by
  obtain⟨⟨old,l⟩,o,r,_,d⟩:=c;rcases Rn.mp g with z|g
  .subst z;exact⟨_,l,λv z=>by cases(show ZM.fields _=ZM.cell v from z)⟩
  .have z:b=it:=by simpa using g
   subst z;exact⟨o,r,λv z=>by rw[d]at z;cases z⟩
 keep:=λi h h' c k=>by obtain⟨⟨old,l⟩,f⟩:=c;exact⟨⟨old,k e (by simp) _ l⟩,f.at λo q=>k it (by simp) o q⟩
 item:=by
  intro X hP O hK U i m s σ H E I J c S;subst hP O hK;obtain⟨⟨old,l⟩,f⟩:=c;obtain⟨xs,x,F,N⟩:=S;obtain⟨B,rv,p,hz⟩:=I.tuple F;obtain⟨u,hu,ru⟩:=rv.get N;have Y2:i<B.toArray.size:=by
   have:=(Rp.mp hu).1
   simpa using this
  refine acC (GR (A:=X.A.in1) (I.ok.hd U) it a Z B.toArray) l ⟨f,p⟩ Y2 Xa (by simp[Xa,hae.symm]) λy h1 tk C r ac1 hT hsz G=>⟨_,rfl,?_⟩;have M:y=u:=by
   have q:B.toArray[i]?=ax u:=by simpa using hu
   rw[q]at C;exact(R9 C).symm
  subst M;refine WQ r λL T n=>?_;have t:=dt l;have R:it<s.heap.objs.size:=by obtain⟨_,z,_⟩:=f;exact dt z
  have hn:=I.TL.fresh (Rr _);have kk:∀b o,b∉[e,it]->s.heap.get? b=ax o->L.get? b=ax o:=λb o g q=>by have h3:b≠e:=λz=>g (by simp[z]);have h4:b≠it:=λz=>g (by simp[z]);exact(n.2 b h3).trans (G b o h3 h4 q)
  have hT2:=(n.2 _ (Ti t)).trans hT
  have I2:Inv X m σ (dg H s.heap.objs.size (.tup [.int i,x])) {s with heap:=L,toks:=tk+1}:=
   I.WX J kk (Rr _) ⟨by show 2<=RL;decide,[.int i tk,y],.cons ⟨_,rfl⟩ (.cons ru .nil),⟨_,hT2,⟨rfl,_,rfl⟩,rfl⟩⟩
  refine⟨.ref s.heap.objs.size,_,I2,rfl,⟨_,x,hn,rfl,λys C=>by rw[Cf I C F];exact N,rfl⟩,⟨⟨y,T⟩,ac1.1.at λo q=>(n.2 it Xa.symm).trans q⟩,λb g=>?_⟩;have Y:b≠s.heap.objs.size:=by
   rcases Rn.mp g with z|g
   .rw[z];exact RO t
   .rw[show b=it by simpa using g];exact RO R
  rw[aM Y];exact(J b g).1
 done:=by
  intro X hP O hK U i m s σ H E I J c S;subst hP O hK;obtain⟨⟨old,l⟩,f⟩:=c;obtain⟨xs,F,N⟩:=S;obtain⟨B,rv,p,hz⟩:=I.tuple F;obtain⟨f0,f1,f2,f3,f4,f5⟩:=J it (by simp);have hl:=rv.length
  have D':Draws X.prog X.w X.A.in1 it [it,a] i (λ_ _=>True) (λj h=>j=i/\h.IsTupleIter it a i/\h.IsTuple a B.toArray):=
   ⟨λj h c=>let⟨o,r,_⟩:=c.2.1;⟨o,r⟩,λj h h' c G=>⟨c.1,c.2.1.at λo e=>G it (by simp) o e,let⟨o,h1,L⟩:=c.2.2;⟨o,G a (by simp) o h1,L⟩⟩,
    λj s Q E hj c hQ=>a7 c.1 (RO hj),λs Q E c hE=>jq (I.ok.hd U) c.2.1 c.2.2 (by simp;ext) hE⟩
  exact acQ D' l ⟨rfl,f,p⟩ λh1 eb=>⟨rfl,I.turned (λb o g q=>eb b o g q) f0 f1 f3 f4 f5⟩
 self:=λ_ _ _ _ _ c h=>by obtain⟨⟨old,l⟩,_⟩:=c;exact U6 l h
def Fb(K:td)(d:TA):TI:=λc H R=>d c H λvs b=>∃a,vs=[.ref a]/\(((∃xs,Wh K b a xs)/\R (PF K a) b)\/((∃xs,We K b a xs)/\R (Lq K a) b))
theorem zq{kk}(E:Gl X "enumerate")(hm:X.mg "enumerate"=cL)(ha:PA X [l] ta)(hs:R0 [l] X.env=[(Rh,eval l X.env)]:=by rfl):
  PI X (.Tuple elts kk tp) (.Call (.Name "enumerate" p) [l] [] pos) (Fb X.K ta):=by
 intro d s w H R I h;refine Call_ (pQ I E hm boot_enumerate (UG (fR (ha pos d s w H _ I h) λJ c ⟨vs,t,g,A,B⟩=>?_) hs rfl));obtain⟨a,e,q⟩:=B;subst e;obtain⟨u,rfl,y⟩:=kX A;cases y;have v:∀b∈[c.heap.objs.size+1,c.heap.objs.size],oV X d t b:=λb r=>by
  have j:c.heap.objs.size<=b:=by
   rcases Rn.mp r with z|r
   .rw[z];exact VW _
   .rw[show b=c.heap.objs.size by simpa using r];exact Rr _
  exact g.aat j (g.TL.fresh j)
 rcases q with⟨⟨xs,n⟩,q⟩|⟨⟨xs,n⟩,q⟩
 .obtain⟨G,rv,pl,C⟩:=g.list n;refine call_enumerate_list pl.isList λF i f m o=>?_;refine U6 i ?_;exact⟨c.heap.objs.size+1,[c.heap.objs.size+1,c.heap.objs.size],_,_,t,rfl,g.kept o,CW a _ _ (Zg _),⟨⟨_,i⟩,f⟩,v,q⟩
 .obtain⟨G,rv,pl,C⟩:=g.tuple n
  refine oa pl λF i f m o=>?_;refine U6 i ?_;have k:a<c.heap.objs.size:=by obtain⟨_,z,_⟩:=pl;exact dt z
  exact⟨c.heap.objs.size+1,[c.heap.objs.size+1,c.heap.objs.size],_,_,t,rfl,g.kept o,Bc a _ _ (Zg _) (RO k) (RO (U0 k)),⟨⟨_,i⟩,f⟩,v,q⟩
def cB(i:Nat):cM D->cM D
 |[]=>[]
 |d::r=>.tuple [.int (i:Nat),d]::cB (i+1) r
theorem iK:∀(ds:cM D) (i:Nat),(cB i ds).length=ds.length
 |[],_=>rfl
 |d::r,i=>by show(cB (i+1) r).length+1=r.length+1;rw[iK r]
theorem iO:∀(ds:cM D) (i j:Nat),(cB i ds)[j]?=(ds[j]?).map λd=>.tuple [.int ((i+j:Nat):Int),d]
 |[],_,_=>by simp[cB]
 |d::r,i,0=>rfl
 |d::r,i,j+1=>by
  show(cB (i+1) r)[j]?=_;rw[iO r (i+1) j,W5];have:i+1+j=i+(j+1):=by ext
  rw[this]
section
variable{K:td}{E:XK}{B O O':eH}{H0 H H':Hp}{σ:L2.St}{ρ ρ':bA}{v:V}
theorem GI(h:YB O K H a xs)(hd:T8 O K H xs ds):wq K (PF K a) O H (cB 0 ds):=by intro O' H' e n;have d:=h.ev e;have g:=hd.ev e;rw[iK];refine⟨λi hi=>?_,⟨xs,d.1.sq,by rw[hd.length];exact Rr _⟩⟩;obtain⟨x,f,dx⟩:=g.get (Rj hi);refine⟨⟨xs,x,d.1.sq,f⟩,?_⟩;rintro y j ⟨p,z,c,rfl,hz,rfl⟩;have b:=hz xs d.1.sq;rw[f]at b;cases b;refine⟨ce c _,.tuple [.int i,ds[i]],?_,.tup ⟨We.of bz,λq=>a7 q (n p c)⟩ (.cons (.int _) (.cons (dx.ev (Ev.grow (ce c _))) .nil))⟩;rw[iO,Rj hi];simp
theorem Fo(h:XG O K H a xs)(hd:T8 O K H xs ds):wq K (Lq K a) O H (cB 0 ds):=by intro O' H' e n;have d:=h.ev e;have g:=hd.ev e;rw[iK];refine⟨λi hi=>?_,⟨xs,d.1,by rw[hd.length];exact Rr _⟩⟩;obtain⟨x,f,dx⟩:=g.get (Rj hi);refine⟨⟨xs,x,d.1,f⟩,?_⟩;rintro y j ⟨p,z,c,rfl,hz,rfl⟩;have b:=hz xs d.1;rw[f]at b;cases b;refine⟨ce c _,.tuple [.int i,ds[i]],?_,.tup ⟨We.of bz,λq=>a7 q (n p c)⟩ (.cons (.int _) (.cons (dx.ev (Ev.grow (ce c _))) .nil))⟩;rw[iO,Rj hi];simp
def vA(c:FA):FI:=λρ=>(c ρ).bind λa=>(Res.Ta (lN a.2 a.1)).bind λb=>match b.1 with
 |[d]=>(Res.Ta (g9 d)).bind λds=>.ok (cB 0 ds,b.2)
 |_=>.bad
theorem Bq(h:AO K E ta fa):IO K E (Fb K ta) (vA fa):=by
 intro B H0 O σ H ρ r R w;refine h B H0 O σ H ρ _ R (w.bind.imp λa b t vs i f o k=>?_);obtain⟨⟨ds,j⟩,q,b⟩:=b.Ta;obtain⟨g,e,R2,n⟩:=oh o k q;dsimp only at b;cases n with
 |nil=>exact b.elim
 |cons m l=>
  cases l with
  |cons _ _=>exact b.elim
  |nil=>
   obtain⟨p,c,b⟩:=WR.Ta b;cases m with
   |tup h d=>cases c;exact⟨_,rfl,.inr ⟨⟨_,h.1⟩,b g _ i (f.trans e) R2 (Fo h d)⟩⟩
   |lst h d=>cases c;exact⟨_,rfl,.inl ⟨⟨_,h.1.sq⟩,b g _ i (f.trans e) R2 (GI h d)⟩⟩
   |_=>cases c
end
theorem Dg{bs:cM Bool}(r:Vals (bs.map V.bl) SE){i:Nat}(h:SE[i]?=ax v):∃b,bs[i]?=ax b/\v=.bool b:=by
 have c:=r.length;rw[CL]at c;have hi:i<bs.length:=by rw[c];exact(Rp.mp h).1
 obtain⟨u,a,d⟩:=r.get (by rw[Rt,Rj hi];rfl);rw[h]at a;cases a;exact⟨bs[i],Rj hi,d⟩
theorem Ai(bs:cM Bool):((Sb bs.length).all λi=>(bs[i]?).getD OK)=bs.all id:=by
 rw[Uc,U7,U7];constructor
 .intro h b a;obtain⟨i,hi,e⟩:=List.mem_iff_getElem.mp a;have:=h i (Sf.mpr hi);rw[Rj hi,e]at this;exact this
 .intro h i hi;have hi:=Sf.mp hi;rw[Rj hi];exact h _ (T1 hi)
section
variable{X:Cx}
theorem gj(m:X.calm=OK):U4 X (.builtin "all") (λxs H Q=>∃(p:Rq) (bs:cM Bool),xs=[.ref p]/\Wh X.K H p (bs.map V.bl)/\Q (.bl (bs.all id)) H):=by
 intro c s w H xs y Q I r h;obtain⟨l,bs,rfl,j,q⟩:=h;obtain⟨u,rfl,g⟩:=kX r;cases g;obtain⟨f,rv,pl,C⟩:=I.list j;have a:=rv.length;rw[CL]at a;have t:l<s.heap.objs.size:=by obtain⟨_,_,e,_⟩:=pl;exact dt e
 refine call_all_walk (Yu pl.isList ?_);refine⟨s.heap.objs.size,[s.heap.objs.size,l],[s.heap.objs.size],f.toArray.size,_,_,λi=>(bs[i]?).getD OK,rfl,afe.list (A:=X.A.in1) (I.ok.hd m) _ l (RO t) f.toArray,
  ⟨⟨_,dN _ rfl,rfl,rfl⟩,pl.isList.push _⟩,λi v B F G n d=>?_,λE z k=>?_⟩
 .obtain⟨b,e,rfl⟩:=Dg rv (by simpa using n);simp only[e,Option.getD_some]at d;exact TU d
 .rw[RB,<-a,Ai];refine⟨.bl _,H,I.kept λb o e=>k b o (λhm=>?_) (c6 _ e),rfl,q⟩;rw[RA.mp hm]at e;exact T5 _ (dt e)
end
section
variable{K:td}
def sV:cM D->c5 (cM Bool)
 |[]=>ax []
 |.bool b::r=>(sV r).map (b::·)
 |_=>cL
theorem Ci:∀{xs:cM V} {ds:cM D} {bs:cM Bool},T8 O K H xs ds->sV ds=ax bs->xs=bs.map V.bl
 |_,_,_,.nil,e=>by cases e;rfl
 |_,_,bs,.cons (ds:=r) h t,e=>by
  cases h with
  |bl b=>
   have a:(sV r).map (b::·)=ax bs:=e;cases q:sV r with
   |none=>rw[q]at a;cases a
   |some c=>rw[q]at a;cases a;rw[Ci t q];rfl
  |_=>cases e
def sO:cM D->c5 RV
 |[.list ds]=>(sV ds).map λbs=>.fz (.bool (bs.all id))
 |_=>cL
theorem jY:DL K (λxs H Q=>∃(p:Rq) (bs:cM Bool),xs=[.ref p]/\Wh K H p (bs.map V.bl)/\Q (.bl (bs.all id)) H) sO:=by
 intro O H xs ds rv Q n d e q;unfold sO at e;split at e
 .rename_i f
  cases qs:sV f with
  |none=>rw[qs]at e;cases e
  |some bs=>
   rw[qs]at e;cases e;cases d with
   |cons c b=>cases b;obtain⟨a,g,rfl,c,b⟩:=DF c;have:=Ci b qs;subst this;exact⟨a,bs,rfl,c.sq,q.at (.bl _)⟩
 .cases e
def sM:cM D->c5 (cM Int)
 |[]=>ax []
 |.int b::r=>(sM r).map (b::·)
 |_=>cL
theorem ti:∀{xs:cM V} {ds:cM D} {bs:cM Int},T8 O K H xs ds->sM ds=ax bs->xs=bs.map V.int
 |_,_,_,.nil,e=>by cases e;rfl
 |_,_,bs,.cons (ds:=r) h t,e=>by
  cases h with
  |int b=>
   have a:(sM r).map (b::·)=ax bs:=e;cases q:sM r with
   |none=>rw[q]at a;cases a
   |some c=>rw[q]at a;cases a;rw[ti t q];rfl
  |_=>cases e
def Bb(x:Int):cM Int->cM Int
 |[]=>[x]
 |y::r=>if x<=y then x::y::r else y::Bb x r
def lH:cM Int->cM Int
 |[]=>[]
 |x::r=>Bb x (lH r)
theorem sd(x:Int):∀l,(Bb x l).Perm (x::l)
 |[]=>YX _
 |y::r=>by
  unfold Bb;split
  .exact YX _
  .exact((sd x r).cons y).trans (amK x y r)
theorem mi:∀l,(lH l).Perm l
 |[]=>YX _
 |x::r=>(sd x _).trans ((mi r).cons x)
theorem so(x:Int):∀l:cM Int,l.Pairwise (·<=·)->(Bb x l).Pairwise (·<=·)
 |[],_=>by simp[Bb]
 |y::r,h=>by
  unfold Bb;obtain⟨c,d⟩:=Tw.mp h;split
  .rename_i a
   refine Tw.mpr ⟨λz b=>?_,h⟩;rcases Rn.mp b with e|e
   .rw[e];exact a
   .have:=c z e;ext
  .rename_i a
   refine Tw.mpr ⟨λz b=>?_,so x r d⟩;rcases Rn.mp ((sd x r).mem_iff.mp b)with e|e
   .rw[e];ext
   .exact c z e
theorem iX:∀l,(lH l).Pairwise (·<=·)
 |[]=>VU
 |x::r=>so x _ (iX r)
theorem sj{l m:cM Int}(c:l.Perm m)(d:l.Pairwise (·<=·))(hm:m.Pairwise (·<=·)):l=m:=c.eq_of_pairwise (λa b _ _ f e=>Int.le_antisymm f e) d hm
def xK:cM D->c5 RV
 |[.list ds]=>(match sM ds with
  |some a=>if a.length<64 then ax (.ow ((lH a).map .int))else cL
  |none=>cL)
 |_=>cL
theorem uL(ns:cM Int):T8 O K H (ns.map V.int) (ns.map .int):=by
 induction ns with
 |nil=>exact .nil
 |cons n r a=>exact .cons (.int n) a
theorem vB:DL K (λxs H Q=>∃(p:Rq) (ns:cM Int),xs=[.ref p]/\Wh K H p (ns.map V.int)/\ns.length<64/\∀(l:Rq) (b:cM Int),H l=cL->b.Perm ns->b.Pairwise (·<=·)->Q (.ref l) (dg H l (.lst (b.map V.int)))) xK:=by
 intro O H xs ds rv Q n c e q;unfold xK at e;split at e
 .rename_i i
  cases qs:sM i with
  |none=>rw[qs]at e;cases e
  |some ns=>
   rw[qs]at e;dsimp only at e;split at e
   .rename_i d
    cases e;cases c with
    |cons g f=>cases f;obtain⟨a,k,rfl,g,f⟩:=DF g;have:=ti f qs;subst this;refine⟨a,ns,rfl,g.sq,d,λl b d c h=>?_⟩;have j:=sj (c.trans (mi ns).symm) h (iX ns);subst j;exact Fin.new (uL _) q l d
   .cases e
 .cases e
end
def QK(K:td)(H:Hp)(x:V)(t:String):Prop:=match x with
 |.Uo=>t= "NoneType"
 |.bl _=>t= "bool"
 |.int _=>t= "int"
 |.str _=>t= "str"
 |.ref a=>(t= "list"/\∃xs,Wh K H a xs)\/(t= "tuple"/\∃xs,We K H a xs)
 |_=>False
def JM(K:td):cM V->Hp->VK->Prop:=λxs H Q=>∃x n t b,xs=[x,.ty n]/\QK K H x t/\Sq K (.type t) (.type n)=ax b/\Q (.bl b) H
theorem cD{X:Cx}:U4 X (.builtin "isinstance") (JM X.K):=by
 intro f s m H xs A Q I r h;obtain⟨x,n,t,b,rfl,ty,e,q⟩:=h;obtain⟨u,p,rfl,d,v⟩:=uW r;obtain rfl:p=Rf.type n:=v;have c:∀g,EP X f m Q (.bool b) {s with toks:=g}:=λg=>⟨.bl b,H,I.tok g,rfl,q⟩;cases x with
 |Uo=>cases(show t= "NoneType" from ty);cases(show u=Rf.none from d);exact Vg PySem.W.kitx_none I.YE True.intro e (λz=>nomatch z) c
 |bl y=>cases(show t= "bool" from ty);cases(show u=Rf.bool y from d);exact Vg PySem.W.kitx_bool I.YE True.intro e (λz=>nomatch z) c
 |int i=>cases(show t= "int" from ty);obtain⟨t,q⟩:=(show∃t,u=Rf.int i t from d);cases q;exact Vg PySem.W.kitx_int I.YE True.intro e (λz=>nomatch z) c
 |str y=>cases(show t= "str" from ty);obtain⟨t,q⟩:=(show∃t,u=Rf.str y t from d);cases q;exact Vg PySem.W.kitx_str I.YE True.intro e (λz=>nomatch z) c
 |ref a=>
  cases(show u=Rf.ref a from d);rcases ty with⟨rfl,xs,h⟩|⟨rfl,xs,h⟩
  .obtain⟨w,r,⟨o,k,l,j,_⟩,_⟩:=I.list h;exact Vg PySem.W.kitx_list I.YE ⟨_,l,j⟩ e (λz=>nomatch z) c
  .obtain⟨w,r,⟨o,l,j,_⟩,_⟩:=I.tuple h;exact Vg PySem.W.kitx_tuple I.YE ⟨o,l,j⟩ e (λz=>nomatch z) c
 |_=>exact(show False from ty).elim
section
variable{K:td}{E:XK}{B O O':eH}{H0 H H':Hp}{σ:L2.St}{ρ ρ':bA}{v:V}
def Eu:D->c5 String
 |.none=>ax "NoneType"
 |.bool _=>ax "bool"
 |.int _=>ax "int"
 |.str _=>ax "str"
 |.list _=>ax "list"
 |.tuple _=>ax "tuple"
 |.dict _=>cL
def HJ(n t:String):Bool:=n==t||(n== "int"&&t== "bool")
theorem HA{n t:String}(hn:n= "int"\/n= "bool"\/n= "str"\/n= "list"\/n= "tuple"){d:D}(a:Eu d=ax t):Sq K (.type t) (.type n)=ax (HJ n t):=by cases d<;>(cases a;try (rcases hn with rfl|rfl|rfl|rfl|rfl<;>rfl))
theorem OC{x:V}{d:D}{t:String}(h:DX O K H x d)(e:Eu d=ax t):QK K H x t:=by
 cases d with
 |none=>cases e;cases h;rfl
 |bool b=>cases e;cases h;rfl
 |int b=>cases e;cases h;rfl
 |str b=>cases e;cases h;rfl
 |dict b=>cases e
 |list ds=>cases e;obtain⟨a,xs,rfl,c,_⟩:=DF h;exact .inl ⟨rfl,xs,c.sq⟩
 |tuple ds=>cases e;obtain⟨a,xs,rfl,c,_⟩:=C5 h;exact .inr ⟨rfl,xs,c.1⟩
def vh(n:String)(b:FE):FE:=λρ=>(b ρ).bind λa=>(Res.Ta (lc a.2 a.1)).bind λd=>(Res.Ta (Eu d)).bind λt=>.ok (.fz (.bool (HJ n t)),a.2)
theorem fy{n:String}{c:TE}{f:FE}(hn:n= "int"\/n= "bool"\/n= "str"\/n= "list"\/n= "tuple")(ha:EO K E c f):EO K E (Mp (JM K) (mL c (mL (tC (.ty n)) xm))) (vh n f):=by intro B H0 O σ H ρ Q R w;refine ha B H0 O σ H ρ _ R (w.bind.imp λa b j x k i g h=>?_);obtain⟨d,q,b⟩:=b.Ta;obtain⟨t,e,b⟩:=b.Ta;exact⟨x,n,t,HJ n t,rfl,OC (jL g h q) e,HA hn e,b j _ k i g (.bl _)⟩
end
section
variable{K:td}
def Dn:cM D->c5 RV
 |[.int i]=>ax (.fz (.int i))
 |[.bool k]=>ax (.fz (.int (if k then 1 else 0)))
 |_=>cL
theorem A6:DL K (λxs H Q=>(∃i,xs=[.int i]/\Q (.int i) H)\/∃k,xs=[.bl k]/\Q (.int (if k then 1 else 0)) H) Dn:=by
 intro O H xs ds rv Q n c e q;unfold Dn at e;split at e
 .cases e
  cases c with
  |cons b a=>cases a;cases b;exact .inl ⟨_,rfl,q.at (.int _)⟩
 .cases e
  cases c with
  |cons b a=>cases a;cases b;exact .inr ⟨_,rfl,q.at (.int _)⟩
 .cases e
end
theorem CF{P:RT}{w:SG}{K:td}{mg i:Str->c5 Rf}{k:Nat}{m a:Rq}{l:S5}{x:Str}{F:FN}{b:Ro}{vs:cM Rf}{ns:cM Int}
  (p:K.In b.heap) (c:b.heap.Ns RD mg) (B:b.heap.Ns builtinsNs i) (d:∀x:Str,x≠ "__name__"->i x=SS x) (f:b.heap.NoLimit) (A:b.gens= #[])
  (ha:b.heap.get? a=ax {cls:=.type "list",data:=.seq vs.toArray}) (hi:IntsAre vs ns) (j:ns.length<=RL) (y:U5 k callerA)
  (FF:∀base:Heap,K.In base->base.Ns RD mg->FnOk P w K mg base fF k m l [x] (iA K 1 F)) (g:∀(s:Ro) (u:Rf),YO s l ⟨[u],[]⟩ [(x,u)])
  (G:F [.list (ns.map .int)]=.ok (.fz (.bool OK))):
  codeAny (model P w) callerA (.call (.ref m) ⟨[.ref a],[]⟩) (λr s'=>r=.ok (.ret (.bool OK))/\OldK b.heap s'.heap/\s'.os=b.os/\AllBare s'.gens) b:=by
 refine ES (sp:=λvs H Q E=>iA K 1 F vs H Q E\/(vs.length=1/\False)) p c B d f A ha hi j y (λbase t q=>(FF base t q).imp λvs H Q E h=>?_) g (λH J C=>?_) λ_ _ _ h=>h
 .rcases h with h|h
  .exact h
  .exact h.2.elim
 .refine .inl ⟨rfl,Q3,[.list (ns.map .int)],λa z=>z.elim,.cons (.lst ⟨?_,λz=>z.elim⟩ (uL ns)) .nil,?_⟩
  .rcases C with h|⟨o,SE,n,h1,h2,h3,h4,h5,h6⟩
   .exact .inl h
   .have e:=p a o h1;rw[ha]at e;cases e;cases h4;exact .inr ⟨vs,0,h1,by rw[CL];exact j,by simpa using h6⟩
  .rw[G];exact λv L s I=>by cases I;rfl
theorem MH{l:acD}{n k:Nat}{q:RT}{e:cM Str}{N:(Str->c5 Rf)->Heap->Prop}{A:SG->Heap->Prop}{d:DefRec}{K:Params->td}{F:FN}{x:Str}
  (hn:l.most=ax n) (m:n<=RL) (r:d.params.defaults=[]) (C:U5 k callerA)
  (J:∀(w:SG) (h:Heap),A w h->(K w.params).In h)
  (FF:∀(w:SG) (mg:Str->c5 Rf) (j:Rq) (h:Heap),(K w.params).In h->h.Ns RD mg->mg d.name=ax (.ref j)->
   ∃fd:S5,(∀(s:Ro) (u:Rf),YO s fd ⟨[u],[]⟩ [(x,u)])/\∀base:Heap,(K w.params).In base->base.Ns RD mg->FnOk l.prog w (K w.params) mg base fF k j fd [x] (iA (K w.params) 1 F))
  (L:∀ns:cM Int,ns.length<=n->F [.list (ns.map .int)]=.ok (.fz (.bool OK))):
  PySem.W.WalkO q e N A l.row.toRowW d [] (λf vs=>afY f vs):=by
 refine Att.attach_call hn r λw z y mg P j o O cd M a vs ns G Y Q R H p v i c E=>?_;have B:=J w _ Y;obtain⟨fd,I,t⟩:=FF w mg j _ B G.T.g p;exact CF B G.T.g G.T.b G.T.builtins G.T.nolimit E v i (SH c m) C t I (L ns c)
theorem F6{P:RT}{w:SG}{K:td}{mg:Str->c5 Rf}{base:Heap}{x a:Str}{st:Tq}{f:Rq}{b:S5}{N ps:cM Str}{k n m:Nat}{g:FS}{FF:FN}(F:Vf K x a st f b)(S:Tz N ps (aI st))(hn:ps.length=n)(hm:N.length=m)(d:FF=dI m g)
  (e:∀(c:Rf) (A:Sk) (outer:cM Env) (s:Ro) (H:Hp) (E:XK),U5 k (A.deeper (Se a (aI st) s.heap.objs.size f c))->
   ∃t,ZJ (gl fF P w K mg base N a (aI st) f c A outer s H E).Zq (aC st) t/\SO K E t g):FnOk P w K mg base fF (k+1) f b ps (iA K n FF):=by
 subst d hm;exact Q5 F S hn e
abbrev cQ(P:RT)(w:SG)(K:td)(mg:Str->c5 Rf)(base:Heap)(k:Nat)(x:Str)(ps:cM Str)(n:Nat)(F:FN):Prop:=qX P w K mg base k x ps (iA K n F)
end L3
namespace L3
open PySem L2
abbrev nd(n:Nat):D:=.int (n:Int)
def eP(ns:cM Nat):cM D:=ns.map nd
theorem dC(ns:cM Nat):(eP ns).length=ns.length:=by unfold eP;rw[CL]
theorem ij{i:Nat}(h:(eP ns)[i]?=ax d):∃n,ns[i]?=ax n/\d=nd n:=by
 unfold eP at h;rw[Rt]at h;cases e:ns[i]? with
 |none=>rw[e]at h;cases h
 |some n=>rw[e]at h;exact⟨n,rfl,(R9 h).symm⟩
theorem aR(a:α):Res.Ta (ax a)=.ok a:=rfl
theorem yA(a:α):jS (Res.ok a)=.ok a:=rfl
theorem AK(i:Nat)(ρ:bA):ae i ρ=Bh ρ i ρ[i]? :=rfl
theorem EK(ρ:bA)(i:Nat)(d:D):Bh ρ i (ax (ax (.fz d)))=.ok (.fz d,ρ):=rfl
theorem Fj(ρ:bA)(i:Nat)(ds:cM D):Bh ρ i (ax (ax (.ow ds)))=.ok (.pl i,ρ):=rfl
theorem lM(ds:cM D):ve (ax (ax (.ow ds)))=ax ds:=rfl
theorem qA(i:Int):LP (.int i)=ax i:=rfl
theorem yz(b:Bool):Pi (.bool b)=ax b:=rfl
theorem rz(ds:cM D):dc [.tuple ds]=ax (.fz (nd ds.length)):=rfl
theorem kI(i j:Int):sw (.int i) (.int j)=ax (.fz (.bool (decide (i<j)))):=rfl
theorem nb(i j:Int):vo (.int i) (.int j)=ax (.fz (.bool (decide (i<=j)))):=rfl
theorem yt(i j:Int):ug (.int i) (.int j)=ax (.fz (.bool (decide (j<i)))):=rfl
theorem GG(i j:Int):HB (.int i) (.int j)=ax (.fz (.bool (decide (j<=i)))):=rfl
theorem zG(i j:Int):bM (.int i) (.int j)=ax (.fz (.int (i+j))):=rfl
theorem EL(i j:Int):uO (.int i) (.int j)=ax (.fz (.int (i - j))):=rfl
theorem eK(h:0<j):cq (.int i) (.int j)=ax (.fz (.int (i % j))):=by show(if K3 i j=OK then _ else _)=_;rw[ak (show K3 i j=OK from a4 h)]
theorem eX(h:0<j/\j<2^128):c9 (.int i) (.int j)=ax (.fz (.int (i/j))):=by show(if KA i j=OK then _ else _)=_;rw[ak (show KA i j=OK from a4 h)]
theorem Cw(h: -(2^64)<i/\i<2^64):Du (.int i) (.int j)=ax (.fz (.int (i*j))):=by show(if(j7 i||j7 j)=OK then _ else _)=_;rw[ak (by rw[show j7 i=OK from a4 h,Ux])]
theorem Hy(h: -(2^64)<j/\j<2^64):Du (.int i) (.int j)=ax (.fz (.int (i*j))):=by show(if(j7 i||j7 j)=OK then _ else _)=_;rw[ak (by rw[show j7 j=OK from a4 h,Uy])]
theorem BO(h:lW j):gJ [.int j]=ax (jR 0 j.toNat):=by show(if lW j then _ else _)=_;rw[ak h]
theorem x5(n:Nat):jR 0 n=eP (Sb n):=by unfold jR eP;apply V1;intro k _;rw[Int.zero_add]
theorem oz(h:n<=1000000):gJ [nd n]=ax (eP (Sb n)):=by rw[BO (by unfold lW;ext),x5,Sy]
theorem eV(h:f ρ=.ok (.nx ρ1)):aF f g ρ=g ρ1:=by unfold aF;rw[h];rfl
theorem LJ(h:f ρ=.ok (.rt rv)):aF f g ρ=.ok (.rt rv):=by unfold aF;rw[h];rfl
theorem vm(h:c ρ=.ok (OK,ρ1)):dJ c f g ρ=f ρ1:=by unfold dJ;rw[h];rfl
theorem xU(h:c ρ=.ok (Rh,ρ1)):dJ c f g ρ=g ρ1:=by unfold dJ;rw[h];rfl
theorem nJ(h:fi ρ=.ok (ds,ρ1)):jZ fi gt b ρ=sW gt b ds ρ1:=by unfold jZ;rw[h];rfl
theorem A8(h:j<=1000000/\i.natAbs<2^64):sY (.int i) (nd j)=ax (.fz (.int (i^j))):=by show(if Gu i (j:Int)=OK then ax (RV.fz (.int (i^((j:Nat):Int).toNat)))else cL)=_;rw[ak (by unfold Gu;exact a4 ⟨by ext,by ext,h.2⟩),Sy]
theorem EX:sY (.int 10) (.int 18)=ax (.fz (.int (10^18))):=A8 ⟨by decide,by decide⟩
theorem Bv(I:Nat->bA->Prop):∀(ds:cM D) (k:Nat) (ρ:bA),I k ρ->(∀i d ρ,ds[i]?=ax d->I (k+i) ρ->∃ρ1 ρ2,gt (.fz d) ρ=.ok ρ1/\(b ρ1=.ok (.nx ρ2)\/b ρ1=.ok (.ct ρ2))/\I (k+i+1) ρ2)->
  ∃ρ',sW gt b ds ρ=.ok (.nx ρ')/\I (k+ds.length) ρ'
 |[],k,ρ,h0,_=>⟨ρ,rfl,h0⟩
 |d::r,k,ρ,h0,hs=>by
  obtain⟨ρ1,ρ2,j,a,h⟩:=hs 0 d ρ rfl h0;obtain⟨ρ',g,f⟩:=Bv I r (k+1) ρ2 h λi l ρ' hi c=>by
   have e:k+1+i=k+(i+1):=by ext
   rw[e]at c⊢;exact hs (i+1) l ρ' (by simpa using hi) c
  have e:k+(r.length+1)=k+1+r.length:=by ext
  refine⟨ρ',?_,by rw[Rk,e];exact f⟩;show(gt (.fz d) ρ).bind _=_;rw[j,fu];rcases a with a|a<;>(rw[a,fu];exact g)
theorem Gp(I:Nat->bA->Prop)(a:I 0 ρ)(hs:∀i d ρ,ds[i]?=ax d->I i ρ->∃ρ1 ρ2,gt (.fz d) ρ=.ok ρ1/\(b ρ1=.ok (.nx ρ2)\/b ρ1=.ok (.ct ρ2))/\I (i+1) ρ2):
  ∃ρ',sW gt b ds ρ=.ok (.nx ρ')/\I ds.length ρ':=by
 have:=Bv I ds 0 ρ a (by simpa using hs)
 simpa using this
def lQ(gt:FG)(ft:FT)(fe:FE)(d:D)(ρ:bA):Res (c5 D×bA):=(gt (.fz d) ρ).bind λc=>(ft c).bind λb=>if b.1=OK then(fe b.2).bind λa=>(Res.Ta (v5 a.2 a.1)).bind λx=>.ok (ax x.1,dL x.2)else .ok (cL,dL b.2)
theorem uk(h:lQ gt ft fe d ρ=.ok (o,ρ'))(f:acc.length<1000000):d8 gt ft fe (d::r) ρ acc=d8 gt ft fe r ρ' (acc++o.toList):=by
 unfold lQ at h;show(gt (.fz d) ρ).bind _=_;cases q1:gt (.fz d) ρ with
 |er x=>rw[q1]at h;cases h
 |bad=>rw[q1]at h;cases h
 |ok e=>
  rw[q1,fu]at h;rw[fu];cases q2:ft e with
  |er x=>rw[q2]at h;cases h
  |bad=>rw[q2]at h;cases h
  |ok b=>
   obtain⟨b,c⟩:=b;rw[q2,fu]at h;rw[fu];cases b with
   |false=>rw[ar Rg]at h⊢;cases h;rw[abO,SW]
   |true=>
    rw[ak rfl]at h⊢;cases q3:fe c with
    |er x=>rw[q3]at h;cases h
    |bad=>rw[q3]at h;cases h
    |ok a=>
     rw[q3,fu]at h;rw[fu];cases q4:v5 a.2 a.1 with
     |none=>rw[q4]at h;cases h
     |some x=>rw[q4]at h;cases h;show(if acc.length<1000000 then _ else _)=_;rw[ak f];rfl
theorem yE(I:bA->Prop)(f:D->c5 D):∀(ds:cM D) (ρ:bA) (a:cM D),I ρ->a.length+ds.length<=1000000->(∀d∈ds,∀ρ,I ρ->∃ρ',lQ gt ft fe d ρ=.ok (f d,ρ')/\I ρ')->d8 gt ft fe ds ρ a=.ok (a++ds.filterMap f)
 |[],ρ,a,_,_,_=>by show Res.ok a=_;simp
 |d::r,ρ,a,h0,hl,hs=>by
  obtain⟨ρ',c,b⟩:=hs d Ri ρ h0;rw[Rk]at hl;rw[uk c (by ext),yE I f r ρ' _ b (by
   have:(f d).toList.length<=1:=by cases f d<;>simp
   rw[Ry];ext) λe g=>hs e (Rm _ g)]
  cases q:f d with
  |none=>rw[aay q,abO,SW]
  |some y=>rw[aaz q,Ya,T9];rfl
theorem Io(I:bA->Prop)(f:D->c5 D)(b:I ρ)(a:ds.length<=1000000)(hs:∀d∈ds,∀ρ,I ρ->∃ρ',lQ gt ft fe d ρ=.ok (f d,ρ')/\I ρ'):jS (d8 gt ft fe ds ρ [])=.ok (ds.filterMap f):=by rw[yE I f ds ρ [] b (by simpa using a) hs];rfl
theorem Ah(a b:Nat):decide ((a:Int)=(b:Int))=decide (a=b):=by
 by_cases h:a=b
 .rw[a4 h,a4 (by rw[h])]
 .rw[a5 h,a5 (by ext)]
theorem Ko(a b:Nat):lD.eqv (nd a) (nd b)=decide (a=b):=Ah a b
theorem jA(a b:Int):dq (.int a) (.int b)=ax (.fz (.bool (decide (a=b)))):=by rfl
theorem ot(a b:Int):kM (.int a) (.int b)=ax (.fz (.bool (!decide (a=b)))):=by rfl
theorem A2(a b:Nat):dq (nd a) (nd b)=ax (.fz (.bool (decide (a=b)))):=by rw[jA,Ah]
theorem Es(a b:Nat):kM (nd a) (nd b)=ax (.fz (.bool (!decide (a=b)))):=by rw[ot,Ah]
theorem wf:∀ns:cM Nat,lD.canLayAll0 (eP ns)=OK
 |[]=>rfl
 |n::r=>by show(lD.canLay0 (nd n)&&lD.canLayAll0 (eP r))=OK;rw[wf r];rfl
theorem BS:∀ns:cM Nat,lD.depthAll (eP ns)=0
 |[]=>rfl
 |n::r=>by show max (lD.depth (nd n)) (lD.depthAll (eP r))=0;rw[BS r];rfl
theorem Cc:∀xs ys:cM Nat,lD.eqvAll (eP xs) (eP ys)=decide (xs=ys)
 |[],[]=>rfl
 |[],_::_=>rfl
 |_::_,[]=>rfl
 |n::r,m::t=>by show(lD.eqv (nd n) (nd m)&&lD.eqvAll (eP r) (eP t))=_;rw[Cc r t,Ko];rw[Uc];simp
theorem FY(ns:cM Nat):mr (.tuple (eP ns))=OK:=by show(lD.canLayAll0 (eP ns)&&decide (lD.depthAll (eP ns)+1<=64))=OK;rw[wf,BS];rfl
theorem F4{i:Nat}(h:xs[i]?=ax v):pU xs (i:Int)=ax v:=Bp h
theorem CJ(h:ds[i]?=ax d):bx (.tuple ds) (nd i)=ax (.fz d):=by show(pU ds (i:Int)).map RV.fz=_;rw[F4 h];rfl
theorem OY(h:ds[i]?=ax d):bx (.list ds) (nd i)=ax (.fz d):=by show(pU ds (i:Int)).map RV.fz=_;rw[F4 h];rfl
section
variable{ρ ρ1 ρ2 ρ3:bA}{Z fb fc fe:FE}{pa pb pv:PV}{dx dy d:D}{rv:RV}{ps:cM PV}{ds:cM D}
theorem aw(h:ρ[i]?=ax (ax (.fz d))):ae i ρ=.ok (.fz d,ρ):=by rw[AK,h,EK]
theorem dA(h:ρ[i]?=ax (ax (.ow ds))):ae i ρ=.ok (.pl i,ρ):=by rw[AK,h,Fj]
theorem aY:pC d ρ=.ok (.fz d,ρ):=rfl
theorem bK(ha:Z ρ=.ok (pa,ρ1))(e:fb ρ1=.ok (pb,ρ2))(b:lc ρ2 (gI pa)=ax dx)(a:lc ρ2 pb=ax dy)(c:f dx dy=ax rv):aA f Z fb ρ=.ok (rv.pv,ρ2):=by unfold aA;rw[ha,fu,e,fu,b,aR,fu,a,aR,fu,c,aR,fu]
theorem Fd(ha:Z ρ=.ok (pa,ρ1))(a:lc ρ1 pa=ax dx)(b:f dx=ax rv):G3 f Z ρ=.ok (rv.pv,ρ1):=by unfold G3;rw[ha,fu,a,aR,fu,b,aR,fu]
theorem a9(ha:Z ρ=.ok (pa,ρ1))(a:lc ρ1 pa=ax (.bool b)):ay Z ρ=.ok (b,ρ1):=by unfold ay;rw[ha,fu,a,aR,fu,yz,aR,fu]
theorem dG(ha:f ρ=.ok (a,ρ1))(c:a=OK->g ρ1=.ok (b,ρ1)):gw f g ρ=.ok (a&&b,ρ1):=by
 unfold gw;rw[ha,fu];cases a with
 |true=>rw[ak rfl,c rfl,WL]
 |false=>rw[ar Rg,XJ]
theorem cX(ha:f ρ=.ok (a,ρ1))(c:a=Rh->g ρ1=.ok (b,ρ1)):kL f g ρ=.ok (a||b,ρ1):=by
 unfold kL;rw[ha,fu];cases a with
 |true=>rw[ak rfl,Ux]
 |false=>rw[ar Rg,c rfl,Sz]
theorem dU(ha:f ρ=.ok (a,ρ1)):ib f ρ=.ok (!a,ρ1):=by unfold ib;rw[ha,fu]
theorem qK(ha:ay Z ρ=.ok (a,ρ1))(c:a=OK->fb ρ1=.ok (.fz (.bool b),ρ1)):mV Z fb ρ=.ok (.fz (.bool (a&&b)),ρ1):=by
 unfold mV;rw[ha,fu];cases a with
 |true=>rw[ak rfl,c rfl,WL]
 |false=>rw[ar Rg,XJ]
theorem A3(ha:ay Z ρ=.ok (a,ρ1))(c:a=Rh->fb ρ1=.ok (.fz (.bool b),ρ1)):Ng Z fb ρ=.ok (.fz (.bool (a||b)),ρ1):=by
 unfold Ng;rw[ha,fu];cases a with
 |true=>rw[ak rfl,Ux]
 |false=>rw[ar Rg,c rfl,Sz]
theorem Ha(ha:ay Z ρ=.ok (a,ρ1)):GV Z ρ=.ok (.fz (.bool (!a)),ρ1):=by unfold GV;rw[ha,fu]
theorem aD:aj ρ=.ok ([],ρ):=rfl
theorem am(ha:Z ρ=.ok (pa,ρ1))(a:fr ρ1=.ok (ps,ρ2)):ac Z fr ρ=.ok (gI pa::ps,ρ2):=by unfold ac;rw[ha,fu,a,fu]
theorem dk(ha:fr ρ=.ok (ps,ρ1))(hd:mS ρ1 ps=ax ds)(a:f ds=ax rv):dD f fr ρ=.ok (rv.pv,ρ1):=by unfold dD;rw[ha,fu,hd,aR,fu,a,aR,fu]
theorem hV(ha:fr ρ=.ok (ps,ρ1))(hd:lN ρ1 ps=ax (ds,ρ2))(hn:ds.length=n)(a:F ds=.ok rv):bu F n fr ρ=.ok (rv.pv,ρ2):=by unfold bu;rw[ha,fu,hd,aR,fu];dsimp only;rw[ak hn,a,yA,fu]
theorem jd(ha:fr ρ=.ok (ps,ρ1))(hd:lN ρ1 ps=ax (ds,ρ2))(hn:ds.length<=1000):cU fr ρ=.ok (.fz (.tuple ds),ρ2):=by unfold cU;rw[ha,fu,hd,aR,fu];dsimp only;rw[ak hn]
theorem pL(ha:fr ρ=.ok (ps,ρ1))(hd:lN ρ1 ps=ax (ds,ρ2))(hn:ds.length<=1000):cH fr ρ=.ok (.ow ds,ρ2):=by unfold cH;rw[ha,fu,hd,aR,fu];dsimp only;rw[ak hn]
theorem KY(ha:Z ρ=.ok (pa,ρ1))(a:lc ρ1 pa=ax dx)(b:Eu dx=ax t):vh n Z ρ=.ok (.fz (.bool (HJ n t)),ρ1):=by unfold vh;rw[ha,fu,a,aR,fu,b,aR,fu]
theorem rq:dm ρ=.ok (cL,ρ):=rfl
theorem rb(ha:Z ρ=.ok (pa,ρ1))(a:lc ρ1 pa=ax (.int i)):cG Z ρ=.ok (ax i,ρ1):=by unfold cG;rw[ha,fu,a,aR,fu,qA,aR,fu]
theorem BR(ha:Z ρ=.ok (pa,ρ1))(b:fl ρ1=.ok (lo,ρ2))(c:fh ρ2=.ok (hi,ρ3))(a:lc ρ3 (gI pa)=ax dx)(e:f dx lo hi=ax rv):kQ f Z fl fh ρ=.ok (rv.pv,ρ3):=by unfold kQ;rw[ha,fu,b,fu,c,fu,a,aR,fu,e,aR,fu]
theorem kF(f:ρ[i]?=ax (ax (.ow es)))(ha:fe ρ=.ok (pa,ρ1))(b:v5 ρ1 pa=ax (d,ρ2))(e:ρ2[i]?=ax (ax (.ow ds)))(c:ds.length<1000000)(a:ρ2.set i (ax (.ow (ds++[d])))=x):lx i fe ρ=.ok (.fz .none,x):=by unfold lx;rw[f,lM,aR,fu,ha,fu,b,aR,fu];dsimp only;rw[e,lM,aR,fu,ak c,a]
theorem Ga(g:ρ[i]?=ax (ax (.ow es)))(ha:fe ρ=.ok (pa,ρ1))(c:lc ρ1 pa=ax (.int n))(f:ρ1[i]?=ax (ax (.ow ds)))(hn: -(2^63)<=n/\n<2^63)(e:seqIndex? n ds.length=ax k)(a:ds[k]?=ax y)
  (b:ρ1.set i (ax (.ow (ds.eraseIdx k)))=x):Dv i fe ρ=.ok (.fz y,x):=by
 unfold Dv;rw[g,lM,aR,fu,ha,fu,c,aR,fu,qA,aR,fu,f,lM,aR,fu,ak hn,e,aR,fu,a,aR,fu,b]
theorem cP(hi:fi ρ=.ok (ds,ρ1))(b:vI ρ1 fv=ax (cs,ρ2))(a:jS (d8 gt ft fe ds (RH n cL++cs.map λd=>ax (.fz d)) [])=.ok xs):dh n fv fi gt ft fe ρ=.ok (.ow xs,ρ2):=by unfold dh;rw[hi,fu];dsimp only;rw[b,aR,fu];dsimp only;rw[a,fu]
theorem kR:bx (.tuple (a::r)) (.int 0)=ax (.fz a):=CJ rfl
theorem vi:bx (.tuple (a::b::r)) (.int 1)=ax (.fz b):=CJ rfl
theorem Hn:bx (.tuple (a::b::c::r)) (.int 2)=ax (.fz c):=CJ rfl
theorem rR:bx (.list (a::r)) (.int 0)=ax (.fz a):=OY rfl
theorem Ap:bx (.list (a::b::r)) (.int 1)=ax (.fz b):=OY rfl
theorem LB(xs:cM Nat)(h:∀x∈xs,f (nd x)=if p x=OK then ax (nd x)else cL):(eP xs).filterMap f=eP (xs.filter p):=by
 induction xs with
 |nil=>rfl
 |cons x r c=>
  have a:=h x Ri;have b:=c λy e=>h y (Rm _ e);show((nd x)::eP r).filterMap f=_;cases q:p x with
  |true=>rw[q,ak rfl]at a;rw[aaz a,b,List.filter_cons_of_pos q];rfl
  |false=>rw[q,ar Rg]at a;rw[aay a,b,List.filter_cons_of_neg (by rw[q];exact Rg)]
theorem gc(ha:fe ρ=.ok (pa,ρ1))(a:v5 ρ1 pa=ax (d,ρ2))(hs:g9 d=ax es):jU fe ρ=.ok (es,ρ2):=by unfold jU;rw[ha,fu,a,aR,fu];dsimp only;rw[hs,aR,fu]
theorem ka(ha:fr ρ=.ok (ps,ρ1))(hd:mS ρ1 ps=ax ds)(a:f ds=ax es):jK f fr ρ=.ok (es,ρ1):=by unfold jK;rw[ha,fu,hd,aR,fu,a,aR,fu]
theorem xZ(ha:fr ρ=.ok (ps,ρ1))(hd:lN ρ1 ps=ax ([d],ρ2))(hs:g9 d=ax es):L3.vA fr ρ=.ok (cB 0 es,ρ2):=by unfold L3.vA;rw[ha,fu,hd,aR,fu];dsimp only;rw[hs,aR,fu]
theorem ip(b:fe ρ=.ok (pv,ρ1))(a:g pv ρ1=.ok ρ2)(hn:ρ2=ρ3):bp fe g ρ=.ok (.nx ρ3):=by unfold bp;rw[b,fu];dsimp only;rw[a,fu,hn]
theorem jw(a:fe ρ=.ok (pv,ρ1)):d7 fe ρ=.ok (.nx ρ1):=by unfold d7;rw[a,fu]
theorem Ab(b:fe ρ=.ok (pv,ρ1))(a:Dq ρ1 pv=ax rv):bG fe ρ=.ok (.rt rv):=by unfold bG;rw[b,fu];dsimp only;rw[a,aR,fu]
theorem pZ(c:gt (.fz d) ρ=.ok ρ1)(b:ft ρ1=.ok (OK,ρ2))(f:fe ρ2=.ok (pv,ρ3))(a:v5 ρ3 pv=ax (x,ρ4))(e:dL ρ4=ρ5):lQ gt ft fe d ρ=.ok (ax x,ρ5):=by unfold lQ;rw[c,fu,b,fu,ak rfl,f,fu,a,aR,fu,e]
theorem Qf(b:gt (.fz d) ρ=.ok ρ1)(a:ft ρ1=.ok (Rh,ρ2))(c:dL ρ2=ρ5):lQ gt ft fe d ρ=.ok (cL,ρ5):=by unfold lQ;rw[b,fu,a,fu,ar Rg,c]
end
end L3
namespace PySem
open Sem (wp)
open Builtin
open AutoSeq1 (wpAny_loadPart')
theorem rS:fillsNumberSlot (.type "tuple") "mul"=pure Rh:=
 fillsNumberSlot_seq F.slot_tuple_mul.lookup (by left) F.slot_tuple_rmul.lookup (by left)
theorem xO:seqRepeat? (.type "tuple")=pure (ax (.builtin "tuple.__mul__")):=by unfold seqRepeat?;rw[seqSlot_of (name:= "__mul__") F.slot_tuple_mul.lookup (by left),seqSlot_of (name:= "__rmul__") F.slot_tuple_rmul.lookup (by left)];rfl
theorem tQ(a:Int)(t:Tok)(l:Rq)(b:Array Rf)(n:Nat)(dct:c5 Rq)(e:Array (c5 Rf)):
  Meets (R8.«int.__rmul__» ⟨[.int a t,.ref l],[]⟩) (λ_ R s=>s.heap.get? l=ax {cls:=.type "tuple",dict:=dct,data:=.seq b n,slots:=e}/\R (.ok (.ret Rf.notImplemented)) s):=
 .of_wp λc w A R s h=>by obtain⟨j,g,d,f,i⟩:=s;obtain⟨k,h⟩:=h;wp_walk;exact⟨_,rfl,h⟩
theorem zz(l:Rq)(a:Array Rf)(n:Nat)(dct:c5 Rq)(c:Array (c5 Rf))(u:Tok):
  Meets (R8.«tuple.__mul__» ⟨[.ref l,.int 1 u],[]⟩) (λ_ R s=>s.heap.get? l=ax {cls:=.type "tuple",dict:=dct,data:=.seq a n,slots:=c}/\R (.ok (.ret (Rf.ref l))) s):=
 .of_wp λb w A R s h=>by
  obtain⟨i,g,d,e,f⟩:=s;obtain⟨j,h⟩:=h
  wp_walk
  exact⟨_,rfl,h⟩
theorem yg(l:Rq)(a:Array Rf)(n:Nat)(dct:c5 Rq)(i:Array (c5 Rf))(x:Int)(u:Tok)(H:2<=x)(q:x<=1000)(f:a.isEmpty=Rh)(o:a.size<=1000):
  Meets (R8.«tuple.__mul__» ⟨[.ref l,.int x u],[]⟩) (λ_ R s=>s.heap.get? l=ax {cls:=.type "tuple",dict:=dct,data:=.seq a n,slots:=i}/\R (.ok (.ret (Rf.ref s.heap.objs.size))) {s with heap:=s.heap.push {cls:=Rf.type "tuple",data:=ZM.seq (Xd (λx1 x2=>x1++x2) #[] (RH x.toNat a))},toks:=s.toks}):=
 .of_wp λc w A R s h=>by
  obtain⟨F,g,d,C,E⟩:=s;obtain⟨p,h⟩:=h;have B:¬(decide (x< -(2^63))||decide (x≥2^63))=OK:=by simp;ext
  have z:(x==1)=Rh:=by simp;ext
  have y:decide (x<=0)=Rh:=by simp;ext
  have c0:(a.isEmpty||x==1)=Rh:=by rw[f,z];rfl
  have I:(decide (x<=0)||a.isEmpty)=Rh:=by rw[f,y];rfl
  have e:(a.size:Int)*x<=1000000:=by have:(a.size:Int)*x<=1000*1000:=Int.mul_le_mul (by ext) q (by ext) (by ext);ext
  have v:¬(a.size:Int)*x>(2^63 - 1)/8:=by ext
  have t:¬Tuple.tupleTooMany ((a.size:Int)*x)=OK:=by
   unfold Tuple.tupleTooMany;simp;have:(RL:Nat)=16777216:=by decide
   ext
  wp_walk
  rw[ar B]
  wp_walk using Wm p
  rw[ar v];dsimp only;rw[ar t];have k:(Xd (λx1 x2=>x1++x2) #[] (RH x.toNat a)).size<=RL:=by
   have r:∀(m:Nat) (b:Array Rf),(Xd (λx1 x2=>x1++x2) b (RH m a)).size=b.size+m*a.size:=by
    intro m
    induction m with
    |zero=>intro b;simp
    |succ m j=>intro b;rw[SQ,Vl,j,Array.size_append,abc];ext
   rw[r];have G:x.toNat*a.size<=1000*1000:=aez (by ext) o;have:(RL:Nat)=16777216:=by decide
   simp;ext
  wp_walk
  exact⟨_,rfl,h⟩
end PySem
namespace L3
open PySem PySem.Spec PyProof.Rows L2
def Jv(K:td):R2:=λx y H Q=>∃(a:Rq) (k:Nat) (xs:cM V),x=.ref a/\y=.int (k:Int)/\We K H a xs/\xs≠[]/\1<=k/\k<=1000/\xs.length<=1000/\
 (k=1->Q (.ref a) H)/\(2<=k->∀p,H p=cL->Q (.ref p) (dg H p (.tup (RH k xs).flatten)))
theorem HE:OpR X (UB .Mult) (Jv X.K):=by
 intro f s P H x y v u Q I z w h;obtain⟨a,k,xs,rfl,rfl,C,O,U,L,G,B,A⟩:=h;cases z;obtain⟨t,rfl⟩:=w;obtain⟨d,r,E,T⟩:=I.tuple C;obtain⟨⟨N,dd,l,e⟩,c,j,n,i⟩:=id E;simp only at j i;subst j i;have g:=r.length;refine abN (by decide) ⟨_,c,rfl⟩ (λp=>Zd p k t) rS F.fills_int_mul F.slot_int_rmul xO F.slot_int_index.lookup
  (Uk F.slot_int_rmul (Zd s k t) F.entry_int_rmul (F.args_int_rmul_2 _ _) (tQ k t a d.toArray n dd e) ⟨c,rfl,⟨_,c,rfl⟩,?_⟩)
 by_cases J:k=1
 .subst J;exact Uk F.slot_tuple_mul ⟨_,c,rfl⟩ F.entry_tuple_mul (F.args_tuple_mul_2 _ _) (zz a d.toArray n dd e t) ⟨c,⟨.ref a,H,I,rfl,B rfl⟩⟩
 .refine Uk F.slot_tuple_mul ⟨_,c,rfl⟩ F.entry_tuple_mul (F.args_tuple_mul_2 _ _) (yg a d.toArray n dd e k t (by ext) (by ext) ?_ (by rw[RB];ext)) ⟨c,?_⟩
  .cases d with
   |nil=>cases r;exact a7 rfl O
   |cons y R=>rfl
  .have M:Xd (λo m=>o++m) #[] (RH ((k:Nat):Int).toNat d.toArray)=(RH k d).flatten.toArray:=by
    have:=rJ d k [];rw[VY]at this;rw[Sy];exact this
   rw[M];refine⟨.ref s.heap.objs.size,_,I.laid (λb S q=>c6 _ q) (Rr _) ?_,rfl,A (by ext) _ (I.TL.fresh (Rr _))⟩;refine⟨?_,_,r.rep k,Zs.new _ _⟩;rw[BQ];exact SH (aez L G) (by decide)
def Ji(K:td):R2:=λx y H Q=>EZ K x y H Q\/Jv K x y H Q
theorem oq:OpR X (UB .Mult) (Ji X.K):=OpR.or HI HE
def gY:D->D->c5 RV
 |.tuple xs,.int k=>if xs≠[]/\1<=k/\k<=1000/\xs.length<=1000 then ax (.fz (.tuple (RH k.toNat xs).flatten))else cL
 |d,e=>Du d e
theorem lJ{K:td}:qv K (Ji K) gY:=by
 intro O H x y dx i rv Q n d c e q;unfold gY at e;split at e
 .rename_i ds k
  split at e
  .rename_i f
   cases e;cases c;obtain⟨a,xs,rfl,g,b⟩:=C5 d;obtain⟨m,rfl⟩:∃m:Nat,k=(m:Int):=⟨k.toNat,by ext⟩;rw[Sy]at q;refine .inr ⟨a,m,xs,rfl,rfl,g.1,λz=>f.1 (b.ne.mp z),by ext,by ext,by rw[b.length];exact f.2.2.2,λe=>?_,λ_=>Fin.adk (b.flat m) n q⟩;subst e;have h:(RH 1 ds).flatten=ds:=by simp
   rw[h]at q;exact q.at (.tup g b)
  .cases e
 .exact .inl (Hs O H x y dx i rv Q n d c e q)
theorem ue(i j:Int):gY (.int i) (.int j)=Du (.int i) (.int j):=rfl
theorem jG(h: -(2^64)<i/\i<2^64):gY (.int i) (.int j)=ax (.fz (.int (i*j))):=(ue i j).trans (Cw h)
theorem FW(h: -(2^64)<j/\j<2^64):gY (.int i) (.int j)=ax (.fz (.int (i*j))):=(ue i j).trans (Hy h)
end L3
namespace PySem
open Sem (wp)
open Builtin Builtin.Str
def itAt:Bool->Heap->Rq->Rq->Nat->Prop
 |true,h,it,a,i=>h.IsTupleIter it a i
 |false,h,it,a,i=>h.IsListIter it a i
def sqAt:Bool->Heap->Rq->Array Rf->Prop
 |true,h,a,xs=>h.IsTuple a xs
 |false,h,a,xs=>h.IsList a xs
def oX:Bool->String
 |true=> "tuple_iterator"
 |false=> "list_iterator"
theorem itAt.ext(x:itAt b h it a i)(e:Heap.ExtBut c h h')(n:it≠c):itAt b h' it a i:=by
 cases b with
 |true=>exact Heap.IsTupleIter.extBut x e n
 |false=>exact Heap.IsListIter.extBut x e n
theorem itAt.to(x:itAt b h it a i)(e:∀o,h.get? it=ax o->h'.get? it=ax o):itAt b h' it a i:=by
 cases b with
 |true=>exact Heap.IsTupleIter.at x e
 |false=>exact Heap.IsListIter.at x e
theorem itAt.live(x:itAt b h it a i):∃o,h.get? it=ax o/\∀v,o.data≠.cell v:=by
 cases b with
 |true=>obtain⟨o,c,_,d⟩:=(show h.IsTupleIter it a i from x);exact⟨o,c,λv z=>by rw[d]at z;cases z⟩
 |false=>obtain⟨o,c,_,d⟩:=(show h.IsListIter it a i from x);exact⟨o,c,λv z=>by rw[d]at z;cases z⟩
theorem sqAt.ext(x:sqAt b h a xs)(e:Heap.ExtBut c h h')(n:a≠c):sqAt b h' a xs:=by
 cases b with
 |true=>exact Heap.IsTuple.extBut x e n
 |false=>exact Heap.IsList.extBut x e n
theorem sqAt.psh(x:sqAt b h a xs)(o:Obj):sqAt b (h.push o) a xs:=by
 cases b with
 |true=>exact Heap.IsTuple.push x o
 |false=>exact Heap.IsList.push x o
theorem sqAt.lt(x:sqAt b h a xs):a<h.objs.size:=by
 cases b with
 |true=>obtain⟨o,e,_⟩:=(show h.IsTuple a xs from x);exact dt e
 |false=>obtain⟨o,e,_⟩:=(show h.IsList a xs from x);exact dt e
section
variable{prog:RT}{w:SG}{A:Sk}{E:Rf->Ro->Prop}{s:Ro}
theorem tG(hi:itAt b s.heap it l i)(c:sqAt b s.heap l xs)(a:xs[i]?=ax x)
  (q:∀h',itAt b h' it l (i+1)->Heap.SameBut it s.heap h'->Q x {s with heap:=h'}):wpAny (model prog w) A (SmallTypes.nextOf (.ref it)) Q E s:=by
 cases b with
 |true=>exact k8 hi c a q
 |false=>exact wpAny_nextOf_list_item hi c a q
theorem wu(d:A.handled=cL)(hi:itAt b s.heap it l i)(c:sqAt b s.heap l xs)(a:xs[i]?=cL)
  (q:∀h' e,Heap.ExtBut it s.heap h'->(∃o,h'.get? e=ax o/\o.cls=.type "StopIteration")->E (.ref e) {s with heap:=h'}):wpAny (model prog w) A (SmallTypes.nextOf (.ref it)) Q E s:=by
 cases b with
 |true=>exact jq d hi c a q
 |false=>exact wpAny_nextOf_list_end d hi c a q
theorem oQ(a:sqAt b s.heap l xs)
  (q:Q (.ref s.heap.objs.size) {s with heap:=s.heap.push {cls:=.type (oX b),data:=.fields #[.ref l,.int 0 0]}}):wpAny (model prog w) A (pyIter (.ref l)) Q E s:=by
 cases b with
 |true=>exact UH a q
 |false=>exact Yu a q
theorem DK{Q:Rf->Ro->Prop}(D:ZN z TI TO i1 i2 l1 l2)(S:abg s.heap z TI TO .none)
  (hTI:IsPair s.heap TI (.ref i1) (.ref i2)) (hTO:IsPair s.heap TO a b) (h1:itAt b1 s.heap i1 l1 n) (h2:itAt b2 s.heap i2 l2 n) (hl1:sqAt b1 s.heap l1 xs) (hl2:sqAt b2 s.heap l2 ys) (hx:xs[n]?=ax x) (hy:ys[n]?=ax y)
  (q:∀h',abg h' z TI TO (rawInt s.heap.objs.size)->IsPair h' TO x y->itAt b1 h' i1 l1 (n+1)->itAt b2 h' i2 l2 (n+1)->IsPair h' s.heap.objs.size x y->h'.objs.size=s.heap.objs.size+1->
   (∀c o,c≠z->c≠TO->c≠i1->c≠i2->s.heap.get? c=ax o->h'.get? c=ax o)->Q (.ref s.heap.objs.size) {s with heap:=h'}):
  wpAny (model prog w) A (R8.«zip.__next__» ⟨[.ref z],[]⟩) (λfin s'=>∃v,fin=.done (.ret v)/\Q v s') E s:=by
 show wpAny _ _ (field (.ref z) 2>>=_) _ _ _;refine Ld (SJ S rfl rfl ?_);show wpAny _ _ (field (.ref z) 3>>=_) _ _ _;refine Ld (SJ S rfl rfl ?_);refine Ld (UM hTI rfl ?_);show wpAny _ _ (SmallTypes.ownedTupleIsFree (.ref z)>>=_) _ _ _;refine Ld ?_;unfold SmallTypes.ownedTupleIsFree;refine Ld (SJ S rfl rfl (Ru ?_));simp only[if_true];refine Ld (abf ?_);refine Ld (SJ S rfl rfl ?_);refine Ld (UW S (by simp) λk₁ p f=>?_);have ad2:=p;clear p;refine Ld ?_;simp only[adm,adz,Xf,ZW];refine Ld (Ld (Y4 ?_));show wpAny _ _ (SmallTypes.nextOf (.ref i1)>>=_) _ _ _;refine Ld (tG (h1.ext f.extBut D.i1z) (hl1.ext f.extBut D.l1z) hx λk₂ X h=>Ru ?_);have H:=h.extBut _ _ D.TOi1 (f.extBut _ _ D.TOz hTO);refine Ld (UM H rfl ?_);refine Ld (Yv H λk₃ G g=>?_);have K:=G;clear G;refine Ld (aaA (Ru ?_));refine Ld (Ld (Y4 ?_));show wpAny _ _ (SmallTypes.nextOf (.ref i2)>>=_) _ _ _;refine Ld (tG (((h2.ext f.extBut D.i2z).ext h.extBut D.i12.symm).ext g.extBut D.TOi2.symm) (((hl2.ext f.extBut D.l2z).ext h.extBut D.l2i1).ext g.extBut D.l2TO) hy λk₄ U j=>Ru ?_);have F:=j.extBut _ _ D.TOi2 K;refine Ld (UM F rfl ?_);refine Ld (Yv F λd C i=>?_);have l:IsPair d TO x y:=C;clear C;refine Ld (aaA (Ru (Ru ?_)));refine Ld (UM l rfl ?_);refine Ld (wpAny_newTuple ?_);have T:d.objs.size=s.heap.objs.size:=by rw[i.1,j.1,g.1,h.1,f.1]
 have u:=i.extBut _ _ D.TOz.symm (j.extBut _ _ D.i2z.symm (g.extBut _ _ D.TOz.symm (h.extBut _ _ D.i1z.symm ad2)));have kp:∀c o,c≠z->c≠TO->c≠i1->c≠i2->s.heap.get? c=ax o->d.get? c=ax o:=λc o L Z c3 c4 e=>
  i.extBut _ _ Z (j.extBut _ _ c4 (g.extBut _ _ Z (h.extBut _ _ c3 (f.extBut _ _ L e))))
 have R:=((X.ext g.extBut D.TOi1.symm).ext j.extBut D.i12).ext i.extBut D.TOi1.symm;have P:=U.ext i.extBut D.TOi2.symm;have Y2:=dt u;show wpAny _ _ (SmallTypes.ownedTupleHandOut (.ref z) (.ref d.objs.size)>>=_) _ _ _;refine Ld ?_;unfold SmallTypes.ownedTupleHandOut;have O:abg (d.push {cls:=.type "tuple",data:=.seq #[x,y]}) z TI TO .ellipsis:=c6 _ u;refine Ld (UW O (by simp) λk₇ N t=>?_);have J:=N;refine UW J (by simp) λm M r=>?_;have k:=M;have Y:∀c o,c≠z->d.get? c=ax o->m.get? c=ax o:=λc o L e=>r.extBut _ _ L (t.extBut _ _ L (c6 _ e));have B:=r.extBut _ _ (Ti Y2) (t.extBut _ _ (Ti Y2) (dN _ rfl));have I:m.objs.size=d.objs.size+1:=by rw[r.1,t.1,ec]
 rw[T]at k B I;refine Ru ⟨_,rfl,?_⟩;rw[T];exact q m k (Y _ _ D.TOz l) (R.to λo e=>Y _ o D.i1z e) (P.to λo e=>Y _ o D.i2z e) B I λc o L Z c3 c4 e=>Y c o L (kp c o L Z c3 c4 e)
theorem F7(S:A.handled=cL)(D:ZN z TI TO i1 i2 l1 l2)(B:abg s.heap z TI TO .none)
  (L:IsPair s.heap TI (.ref i1) (.ref i2)) (K:IsPair s.heap TO a b) (T:itAt b1 s.heap i1 l1 n) (Y:itAt b2 s.heap i2 l2 n) (C:sqAt b1 s.heap l1 xs) (I:sqAt b2 s.heap l2 ys) (N:xs[n]?=cL\/ys[n]?=cL)
  (q:∀h' e,(∀c o,c≠z->c≠TO->c≠i1->c≠i2->s.heap.get? c=ax o->h'.get? c=ax o)->(∃o,h'.get? e=ax o/\o.cls=.type "StopIteration")->E (.ref e) {s with heap:=h'}):
  wpAny (model prog w) A (R8.«zip.__next__» ⟨[.ref z],[]⟩) Q E s:=by
 show wpAny _ _ (field (.ref z) 2>>=_) _ _ _;refine Ld (SJ B rfl rfl ?_);show wpAny _ _ (field (.ref z) 3>>=_) _ _ _;refine Ld (SJ B rfl rfl ?_);refine Ld (UM L rfl ?_);show wpAny _ _ (SmallTypes.ownedTupleIsFree (.ref z)>>=_) _ _ _;refine Ld ?_;unfold SmallTypes.ownedTupleIsFree;refine Ld (SJ B rfl rfl (Ru ?_));simp only[if_true];refine Ld (abf ?_);refine Ld (SJ B rfl rfl ?_);refine Ld (UW B (by simp) λR u d=>?_);have G:=u;refine Ld ?_;simp only[adm,adz,Xf,ZW];refine Ld (Ld (Y4 ?_));show wpAny _ _ (SmallTypes.nextOf (.ref i1)>>=_) _ _ _;cases hx:xs[n]? with
 |none=>
  refine Ld (wu S (T.ext d.extBut D.i1z) (C.ext d.extBut D.l1z) hx λy e f J=>?_);obtain⟨H,h,i⟩:=J;have k:=f _ _ D.i1z.symm G;have ne:e≠z:=λt=>by subst t;rw[k]at h;cases h;simp at i
  exact UW k (by simp) λm _ g=>q m e (λc o F _ M _ t=>g.extBut _ _ F (f _ _ M (d.extBut _ _ F t))) ⟨H,g.extBut _ _ ne h,i⟩
 |some x=>
  have X:ys[n]?=cL:=by
   rcases N with t|t
   .rw[hx]at t;cases t
   .exact t
  refine Ld (tG (T.ext d.extBut D.i1z) (C.ext d.extBut D.l1z) hx λy U f=>Ru ?_);have l:=f.extBut _ _ D.TOi1 (d.extBut _ _ D.TOz K);refine Ld (UM l rfl ?_);refine Ld (Yv l λm O g=>?_);refine Ld (aaA (Ru ?_));refine Ld (Ld (Y4 ?_));show wpAny _ _ (SmallTypes.nextOf (.ref i2)>>=_) _ _ _;refine Ld (wu S (((Y.ext d.extBut D.i2z).ext f.extBut D.i12.symm).ext g.extBut D.TOi2.symm) (((I.ext d.extBut D.l2z).ext f.extBut D.l2i1).ext g.extBut D.l2TO) X λP e r J=>?_);obtain⟨H,h,i⟩:=J;have j:=r _ _ D.i2z.symm (g.extBut _ _ D.TOz.symm (f.extBut _ _ D.i1z.symm G));have ne:e≠z:=λt=>by subst t;rw[j]at h;cases h;simp at i
  exact UW j (by simp) λv _ p=>q v e (λc o F c2 M Z t=>p.extBut _ _ F (r _ _ Z (g.extBut _ _ c2 (f.extBut _ _ M (d.extBut _ _ F t))))) ⟨H,p.extBut _ _ ne h,i⟩
end
section
variable{prog:RT}{w:SG}{A:Sk}{E:Rf->Ro->Prop}{s:Ro}
theorem zu(D:ZN z TI TO i1 i2 l1 l2)(h:abg s.heap z TI TO .none)
  (g:IsPair s.heap TI (.ref i1) (.ref i2)) (f:IsPair s.heap TO a b) (m:itAt b1 s.heap i1 l1 n) (l:itAt b2 s.heap i2 l2 n) (e:sqAt b1 s.heap l1 xs) (d:sqAt b2 s.heap l2 ys) (k:xs[n]?=ax x) (j:ys[n]?=ax y)
  (q:∀h',abg h' z TI TO (rawInt s.heap.objs.size)->IsPair h' TO x y->itAt b1 h' i1 l1 (n+1)->itAt b2 h' i2 l2 (n+1)->IsPair h' s.heap.objs.size x y->h'.objs.size=s.heap.objs.size+1->
   (∀c o,c≠z->c≠TO->c≠i1->c≠i2->s.heap.get? c=ax o->h'.get? c=ax o)->Q (ax (.ref s.heap.objs.size)) {s with heap:=h'}):
  wpAny (model prog w) A (pyNext (.ref z)) Q E s:=by
 have i:s.TypeIs (.ref z) "zip":=⟨_,h,rfl⟩;unfold pyNext;refine Ld (alx (Uh i F.slot_zip_next ?_));exact UL F.slot_zip_next i F.entry_zip_next (DK D h g f m l e d k j λh' C B v u t r p=>Ru (q h' C B v u t r p)) (F.args_zip_next_1 _)
theorem yw(p:A.handled=cL)(D:ZN z TI TO i1 i2 l1 l2)(j:abg s.heap z TI TO .none)
  (h:IsPair s.heap TI (.ref i1) (.ref i2)) (g:IsPair s.heap TO a b) (v:itAt b1 s.heap i1 l1 n) (u:itAt b2 s.heap i2 l2 n) (f:sqAt b1 s.heap l1 xs) (d:sqAt b2 s.heap l2 ys) (i:xs[n]?=cL\/ys[n]?=cL)
  (q:∀h',(∀c o,c≠z->c≠TO->c≠i1->c≠i2->s.heap.get? c=ax o->h'.get? c=ax o)->Q cL {s with heap:=h'}):wpAny (model prog w) A (pyNext (.ref z)) Q E s:=by
 have k:s.TypeIs (.ref z) "zip":=⟨_,j,rfl⟩;unfold pyNext;refine Ld (alx (Uh k F.slot_zip_next ?_));refine UL F.slot_zip_next k F.entry_zip_next (F7 p D j h g v u f d i λh' e m r=>?_) (F.args_zip_next_1 _);obtain⟨o,l,t⟩:=r;exact Ld (wpAny_isInstance ⟨o,l,t⟩ isSubtype_stop (Ru (q _ m)))
end
abbrev Nt(h:Heap)(b:Bool)(a:Rq):Heap:=h.push {cls:=.type (oX b),data:=.fields #[.ref a,.int 0 0]}
abbrev M9(h:Heap)(c b2:Bool)(b a:Rq):Heap:=(Nt h c b).push {cls:=.type (oX b2),data:=.fields #[.ref a,.int 0 0]}
abbrev NN(h:Heap)(b b2:Bool)(a c:Rq):Heap:=(M9 h b b2 a c).push {cls:=.type "tuple",data:=.seq #[.ref h.objs.size,.ref (Nt h b a).objs.size]}
abbrev Mw(h:Heap)(c b2:Bool)(b a:Rq):Heap:=(NN h c b2 b a).push {cls:=.type "tuple",data:=.seq #[.none,.none]}
abbrev PP(h:Heap)(c b2:Bool)(b a:Rq):Heap:=(Mw h c b2 b a).push {cls:=.type "zip",data:=.fields #[.none,.bool Rh,.bool Rh,.ref (M9 h c b2 b a).objs.size,.ref (NN h c b2 b a).objs.size]}
theorem tY(c b2:Bool)(a b:Rq)(xs k:Array Rf):
  Meets (R8.«zip.__new__» ⟨[.type "zip",.ref a,.ref b],[]⟩) (λ_ R s=>sqAt c s.heap a xs/\sqAt b2 s.heap b k/\R (.ok (.ret (.ref (Mw s.heap c b2 a b).objs.size))) {s with heap:=PP s.heap c b2 a b}):=
 .of_wp λm w A R s h=>by
  obtain⟨o,g,d,l,n⟩:=s;obtain⟨f,e,h⟩:=h;have p:=sub_zip;have j:sqAt c (Ro.heap ⟨o,g,d,l,n⟩) a xs:=f;have i:sqAt b2 (Ro.heap ⟨o.push {cls:=.type (oX c),data:=.fields #[.ref a,.int 0 0]},g,d,l,n⟩) b k:=sqAt.psh e _
  wp_walk using oQ j,oQ i
  exact⟨_,rfl,h⟩
section
variable{prog:RT}{w:SG}{A:Sk}{E:Rf->Ro->Prop}{s:Ro}
theorem Am(e:h.get? it=ax {cls:=.type (oX b),data:=.fields #[.ref l,.int 0 0]}):itAt b h it l 0:=by
 cases b with
 |true=>exact⟨_,e,rfl,rfl⟩
 |false=>exact⟨_,e,rfl,rfl⟩
theorem Da(j:sqAt b1 s.heap l1 xs)(i:sqAt b2 s.heap l2 ys)
  (q:∀h',abg h' (s.heap.objs.size+4) (s.heap.objs.size+2) (s.heap.objs.size+3) .none->IsPair h' (s.heap.objs.size+2) (.ref s.heap.objs.size) (.ref (s.heap.objs.size+1))->
   IsPair h' (s.heap.objs.size+3) .none .none->itAt b1 h' s.heap.objs.size l1 0->itAt b2 h' (s.heap.objs.size+1) l2 0->(∀c o,s.heap.get? c=ax o->h'.get? c=ax o)->Q (.ref (s.heap.objs.size+4)) {s with heap:=h'}):
  wpAny (model prog w) A (call (.type "zip") [.ref l1,.ref l2]) Q E s:=by
 refine callType_new F.called_zip (by decide) (F.typeCall_zip_2 _ _) (F.newCall_zip_2 _ _) (λobj=>F.args_object_init_3 obj _ _) F.entry_zip_new (tY b1 b2 l1 l2 xs ys) ⟨j,i,?_⟩;have h:(Nt s.heap b1 l1).objs.size=s.heap.objs.size+1:=ec ..;have g:(M9 s.heap b1 b2 l1 l2).objs.size=s.heap.objs.size+2:=by rw[ec,h]
 have f:(NN s.heap b1 b2 l1 l2).objs.size=s.heap.objs.size+3:=by rw[ec,g]
 have m:(Mw s.heap b1 b2 l1 l2).objs.size=s.heap.objs.size+4:=by rw[ec,f]
 have t:∀c o,s.heap.get? c=ax o->(Nt s.heap b1 l1).get? c=ax o:=λc o e=>c6 _ e;have l:∀c o,(Nt s.heap b1 l1).get? c=ax o->(M9 s.heap b1 b2 l1 l2).get? c=ax o:=λc o e=>c6 _ e;have d:∀c o,(M9 s.heap b1 b2 l1 l2).get? c=ax o->(NN s.heap b1 b2 l1 l2).get? c=ax o:=λc o e=>c6 _ e;have b:∀c o,(NN s.heap b1 b2 l1 l2).get? c=ax o->(Mw s.heap b1 b2 l1 l2).get? c=ax o:=λc o e=>c6 _ e;have a:∀c o,(Mw s.heap b1 b2 l1 l2).get? c=ax o->(PP s.heap b1 b2 l1 l2).get? c=ax o:=λc o e=>c6 _ e;have k:(PP s.heap b1 b2 l1 l2).get? (Mw s.heap b1 b2 l1 l2).objs.size=ax _:=dN _ rfl;have n:=a _ _ (dN _ rfl);have p:=a _ _ (b _ _ (dN _ rfl));have r:=a _ _ (b _ _ (d _ _ (dN _ rfl)));have u:=a _ _ (b _ _ (d _ _ (l _ _ (dN _ rfl))));rw[g,f,m]at k;rw[h,g]at p;rw[f]at n;rw[h]at r;rw[m];exact⟨⟨_,k,rfl⟩,q _ k p n (Am u) (Am r) λc o e=>a _ _ (b _ _ (d _ _ (l _ _ (t _ _ e))))⟩
end
end PySem
namespace L3
open PySem PySem.Spec PyProof.Rows L2
def zD(b:Bool)(K:td)(H:Hp)(a:Rq)(xs:cM V):Prop:=match b with
 |true=>We K H a xs
 |false=>Wh K H a xs
def Py(K:td)(b b2:Bool)(a c:Rq):It:=
 ⟨λi H=>∃xs ys x y,zD b K H a xs/\zD b2 K H c ys/\xs[i]?=ax x/\ys[i]?=ax y,
  λi H v d=>∃p x y,H p=cL/\v=.ref p/\(∀xs,zD b K H a xs->xs[i]?=ax x)/\(∀ys,zD b2 K H c ys->ys[i]?=ax y)/\d=dg H p (.tup [x,y]),
  λi H=>∃xs ys,zD b K H a xs/\zD b2 K H c ys/\(xs.length<=i\/ys.length<=i)⟩
theorem Ik(I:Inv X pins σ H s)(h:Wh X.K H a xs)(g:Wh X.K H a ys):xs=ys:=by
 obtain⟨d,f,⟨o,k,i,_,n,l⟩,_⟩:=I.list h;obtain⟨b,e,⟨m,r,c,_,p,j⟩,_⟩:=I.list g;rw[i]at c;cases c;have:d=b:=by
  have q:d.toArray=b.toArray:=by injection l.symm.trans j
  simpa using q
 subst this;exact f.inj e
theorem mf(I:Inv X pins σ H s)(h:zD b X.K H a xs):∃SE,Vals xs SE/\sqAt b s.heap a SE.toArray:=by
 cases b with
 |true=>obtain⟨SE,rv,p,c⟩:=I.tuple h;exact⟨SE,rv,p⟩
 |false=>obtain⟨SE,rv,p,c⟩:=I.list h;exact⟨SE,rv,p.isList⟩
theorem wB(I:Inv X pins σ H s)(d:zD b X.K H a xs)(c:zD b X.K H a ys):xs=ys:=by
 cases b with
 |true=>exact Cf I d c
 |false=>exact Ik I d c
theorem CP{ch:cM Rq}(I:Inv X pins σ H s)(f:∀b∈ch,oV X pins H b)
  (k:∀b u,b∉ch->s.heap.get? b=ax u->h'.get? b=ax u):Inv X pins σ H {s with heap:=h',toks:=t'}:=by
 have d:∀b u,H b=ax u->b∉ch:=λb u e z=>by rw[(f b z).1]at e;cases e
 refine I.step (λb i=>?_) (λb u _ _ a e _=>k b u a e) (λb u _ _ a e _=>⟨u.slots,k b u a e⟩) (λ_ _ _ _ n=>n)
  (λb u a e=>⟨u,k b u a e⟩) (λ_ _ e=>e) (λ_ _ _ e=>e) (λb ps e=>⟨#[],by rw[e];simp⟩) (λm hm=>?_) (λb u e=>?_) I.bare
 .obtain⟨_,p,_,o,l,j⟩:=f b i;exact⟨o,p,l,j⟩
 .obtain⟨g,t,w,h,r⟩:=hm;exact⟨g,t,w,k _ g (λz=>(f _ z).2.1 rfl) h,r⟩
 .refine(I.TL b u e).WV (λc v a q=>k c v ?_ q) (λ_ q=>q) λ_ _ q=>q
  rcases a with z|z
  .rw[z];exact d b u e
  .exact d c _ z
theorem GN{K:td}{kk}(b1 b2:Bool)(z TI TO A r T S:Rq)(D:ZN z TI TO A r T S):
  Turn P w K (.Tuple elts kk tp) (Py K b1 b2 T S) [z,TI,TO,A,r] z (λi h=>abg h z TI TO .none/\IsPair h TI (.ref A) (.ref r)/\(∃a b,IsPair h TO a b)/\itAt b1 h A T i/\itAt b2 h r S i) where
 mem:=by simp
 obj:=λi h e b d=>by
  obtain⟨j,f,⟨a,c,l⟩,p,m⟩:=e;simp only[Rn,Rv,or_false]at d;rcases d with rfl|rfl|rfl|rfl|rfl
  .exact⟨_,j,λv q=>by cases(show ZM.fields _=ZM.cell v from q)⟩
  .exact⟨_,f,λv q=>by cases(show ZM.seq _ _=ZM.cell v from q)⟩
  .exact⟨_,l,λv q=>by cases(show ZM.seq _ _=ZM.cell v from q)⟩
  .exact p.live
  .exact m.live
 keep:=λi h h' e k=>by obtain⟨j,f,⟨a,c,l⟩,p,m⟩:=e;exact⟨k z (by simp) _ j,k TI (by simp) _ f,⟨a,c,k TO (by simp) _ l⟩,p.to λo q=>k A (by simp) o q,m.to λo q=>k r (by simp) o q⟩
 item:=by
  intro X hP Z hK hc i g s σ H E I L e hg;subst hP Z hK;obtain⟨j,f,⟨a,c,l⟩,p,m⟩:=e;obtain⟨xs,ys,x,y,G,F,hx,hy⟩:=hg;obtain⟨SE,O,R⟩:=mf I G;obtain⟨C,N,Q⟩:=mf I F;obtain⟨u,hu,ru⟩:=O.get hx;obtain⟨t,ht,rt⟩:=N.get hy;refine zu D j f l p m R Q (by simpa using hu) (by simpa using ht) λk z1 o1 g1 g2 pr sz J=>⟨_,rfl,?_⟩;refine wpAny_letOwnedTupleGo_zip z1 λB z2 e2=>?_;have U:=dt j;have hIl:=dt f;have hOl:=dt l;have h1l:A<s.heap.objs.size:=by obtain⟨_,q,_⟩:=p.live;exact dt q
  have h2l:r<s.heap.objs.size:=by obtain⟨_,q,_⟩:=m.live;exact dt q
  have hn:=I.TL.fresh (Rr _);have kk:∀b o,b∉[z,TI,TO,A,r]->s.heap.get? b=ax o->B.get? b=ax o:=λb o d q=>by simp only[Rn,Rv,or_false,not_or]at d;exact(e2.2 b d.1).trans (J b o d.1 d.2.2.1 d.2.2.2.1 d.2.2.2.2 q)
  have hT2:=(e2.2 _ (Ti U)).trans pr
  have I2:Inv X g σ (dg H s.heap.objs.size (.tup [x,y])) {s with heap:=B}:=
   I.WX L kk (Rr _) ⟨by show 2<=RL;decide,[u,t],.cons ru (.cons rt .nil),⟨_,hT2,⟨rfl,_,rfl⟩,rfl⟩⟩
  have M:∀b o,b≠z->k.get? b=ax o->B.get? b=ax o:=λb o n q=>(e2.2 b n).trans q;refine⟨.ref s.heap.objs.size,_,I2,rfl,⟨_,x,y,hn,rfl,λzs hs=>by rw[wB I hs G];exact hx,λzs hs=>by rw[wB I hs F];exact hy,rfl⟩,
   ⟨z2,M _ _ D.TIz (J _ _ D.TIz D.TITO D.TIi1 D.TIi2 f),⟨_,_,M _ _ D.TOz o1⟩,g1.to λo q=>M _ _ D.i1z q,g2.to λo q=>M _ _ D.i2z q⟩,λb d=>?_⟩
  have hb2:b<s.heap.objs.size:=by simp only[Rn,Rv,or_false]at d;rcases d with rfl|rfl|rfl|rfl|rfl<;>assumption
  rw[aM (RO hb2)];exact(L b d).1
 done:=by
  intro X hP Z hK hc i g s σ H E I L e hg;subst hP Z hK;obtain⟨j,f,⟨a,c,l⟩,p,m⟩:=e;obtain⟨xs,ys,G,F,Y⟩:=hg;obtain⟨SE,O,R⟩:=mf I G;obtain⟨C,N,Q⟩:=mf I F;have hl1:=O.length;have hl2:=N.length;have hd:SE.toArray[i]?=cL\/C.toArray[i]?=cL:=by
   rcases Y with q|q
   .exact .inl (by simp;ext)
   .exact .inr (by simp;ext)
  refine yw (I.ok.hd hc) D j f l p m R Q hd λk J=>⟨rfl,?_⟩;exact CP I L λb o d q=>by simp only[Rn,Rv,or_false,not_or]at d;exact J b o d.1 d.2.2.1 d.2.2.2.1 d.2.2.2.2 q
 self:=λ_ _ _ _ _ e h=>afZ e.1 h
theorem CO(n b a:Nat)(d:b<n)(c:a<n):ZN (n+4) (n+2) (n+3) n (n+1) b a:=by constructor<;>(show(_:Nat)≠_;ext)
def JW(K:td)(e:TA):TI:=λd H R=>e d H λvs b=>∃a c b1 b2,vs=[.ref a,.ref c]/\(∃xs,zD b1 K b a xs)/\(∃ys,zD b2 K b c ys)/\R (Py K b1 b2 a c) b
theorem Et:SS "zip"=ax (.type "zip"):=by left
theorem nc{kk}(N:Gl X "zip")(hm:X.mg "zip"=cL)(ha:PA X [l,m] ta)(hs:R0 [l,m] X.env=(Rh,eval l X.env)::R0 [m] X.env:=by rfl)(L:(backTo pos (R0 [m] X.env)).any (·.1)=Rh:=by rfl):
  PI X (.Tuple elts kk tp) (.Call (.Name "zip" p) [l,m] [] pos) (JW X.K ta):=by
 intro d s v H R I h;refine Call_ (pQ I N hm Et (UG (fR (ha pos d s v H _ I h) λT f ⟨vs,r,i,C,E⟩=>?_) hs L));obtain⟨a,c,Q,b2,e,⟨xs,A⟩,⟨S,z⟩,q⟩:=E;subst e;obtain⟨u,t,rfl,B,rt⟩:=uW C;cases B;cases rt;obtain⟨SE,Y,n⟩:=mf i A;obtain⟨J,U,k⟩:=mf i z;have P:∀b∈[f.heap.objs.size+4,f.heap.objs.size+2,f.heap.objs.size+3,f.heap.objs.size,f.heap.objs.size+1],oV X d r b:=λb o=>by
  have g:f.heap.objs.size<=b:=by simp only[Rn,Rv,or_false]at o;have O:=o;ext
  exact i.aat g (i.TL.fresh g)
 refine Da n k λZ j G F y w M=>?_;refine afZ j ?_;exact⟨f.heap.objs.size+4,_,_,_,r,rfl,i.kept M,GN Q b2 _ _ _ _ _ a c (CO _ _ _ n.lt k.lt),⟨j,G,⟨_,_,F⟩,y,w⟩,P,q⟩
def Az:SI->Bool
 |.Starred _ _=>OK
 |_=>Rh
theorem vV(e:SI)(es:cM SI)(env:Env)(h:Az e=Rh):R0 (e::es) env=(Rh,eval e env)::R0 es env:=by cases e<;>first|rfl|cases h
theorem OZ(ha:PE X e te)(a:PA X es t)(hs:Az e=Rh:=by rfl):PA X (e::es) (mL te t):=aa ha a (vV e es X.env hs)
def mQ:cM D->cM D->cM D
 |x::r,y::q=>.tuple [x,y]::mQ r q
 |_,_=>[]
theorem pY:∀(xs a:cM D),(mQ xs a).length=min xs.length a.length
 |[],_=>by simp[mQ]
 |_::_,[]=>by simp[mQ]
 |_::r,_::q=>by simp only[mQ,Rk,pY r q];ext
theorem qW:∀(xs a:cM D) (i:Nat),(mQ xs a)[i]?=(xs[i]?).bind λx=>(a[i]?).map λy=>.tuple [x,y]
 |[],_,_=>by simp[mQ]
 |x::r,[],i=>by cases i<;>simp[mQ]
 |x::r,y::q,0=>by simp[mQ]
 |x::r,y::q,i+1=>by simp only[mQ,W5];exact qW r q i
section
variable{K:td}{E:XK}{B O Y:eH}{H0 H H':Hp}{Z:L2.St}{ρ ρ':bA}{v:V}
def aas(b:Bool)(O:eH)(K:td)(H:Hp)(a:Rq)(xs:cM V):Prop:=match b with
 |true=>XG O K H a xs
 |false=>YB O K H a xs
theorem aas.ev(h:aas b O K H a xs)(e:Ev O H Y H'):aas b Y K H' a xs:=by
 cases b with
 |true=>exact XG.ev h e
 |false=>exact YB.ev h e
theorem aas.at(h:aas b O K H a xs):zD b K H a xs:=by
 cases b with
 |true=>exact(show XG O K H a xs from h).1
 |false=>exact(show YB O K H a xs from h).1.sq
theorem Lc(h:aas b1 O K H a xs)(hd:T8 O K H xs ds)(g:aas b2 O K H c ys)(w:T8 O K H ys es):wq K (Py K b1 b2 a c) O H (mQ ds es):=by
 intro Y H' e n;have d:=h.ev e;have A:=hd.ev e;have j:=g.ev e;have f:=w.ev e;rw[pY];refine⟨λi hi=>?_,⟨xs,ys,d.at,j.at,?_⟩⟩
 .have o:i<ds.length:=by ext
  have m:i<es.length:=by ext
  obtain⟨x,u,dx⟩:=A.get (Rj o);obtain⟨y,r,z⟩:=f.get (Rj m);refine⟨⟨xs,ys,x,y,d.at,j.at,u,r⟩,?_⟩;rintro t C ⟨p,G,F,b,rfl,hx',hy',rfl⟩;have l:=hx' xs d.at;have k:=hy' ys j.at;rw[u]at l;rw[r]at k;cases l;cases k;refine⟨ce b _,.tuple [ds[i],es[i]],?_,.tup ⟨We.of bz,λq=>a7 q (n p b)⟩ (.cons (dx.ev (Ev.grow (ce b _))) (.cons (z.ev (Ev.grow (ce b _))) .nil))⟩;rw[qW,Rj o,Rj m];rfl
 .rw[hd.length,w.length];ext
theorem Gc(h:DV O K H v d)(q:g9 d=ax ds):∃b a xs,v=.ref a/\aas b O K H a xs/\T8 O K H xs ds:=by
 cases h with
 |tup h c=>cases q;exact⟨OK,_,_,rfl,h,c⟩
 |lst h c=>cases q;exact⟨Rh,_,_,rfl,h,c⟩
 |_=>cases q
def F5(c:FA):FI:=λρ=>(c ρ).bind λa=>(Res.Ta (lN a.2 a.1)).bind λb=>match b.1 with
 |[d,e]=>(Res.Ta (g9 d)).bind λds=>(Res.Ta (g9 e)).bind λf=>.ok (mQ ds f,b.2)
 |_=>.bad
theorem nZ(h:AO K E ta fa):IO K E (JW K ta) (F5 fa):=by
 intro B H0 O Z H ρ I R w;refine h B H0 O Z H ρ _ R (w.bind.imp λa b J vs C n z j=>?_);obtain⟨⟨ds,f⟩,q,b⟩:=b.Ta;obtain⟨A,m,R2,o⟩:=oh z j q;dsimp only at b;cases o with
 |nil=>exact b.elim
 |cons l c=>
  cases c with
  |nil=>exact b.elim
  |cons c k=>
   cases k with
   |cons _ _=>exact b.elim
   |nil=>obtain⟨G,i,b⟩:=WR.Ta b;obtain⟨fs,g,b⟩:=WR.Ta b;obtain⟨t,y,xs,rfl,e,r⟩:=Gc l i;obtain⟨b2,u,F,rfl,d,p⟩:=Gc c g;exact⟨y,u,t,b2,rfl,⟨_,e.at⟩,⟨_,d.at⟩,b A _ C (n.trans m) R2 (Lc e r d p)⟩
def DN(d e:D):c5 RV:=match d,e with
 |.str z,.int i=>if z.length<=1000000 then(pU z.cps.toList i).map λc=>.fz (.str ⟨#[c]⟩)else cL
 |_,_=>cL
theorem l6:qv K (Pz K) DN:=by
 intro O H x y dx f rv Q n b a e q;unfold DN at e;split at e
 .split at e
  .rename_i z i d
   cases qa:pU z.cps.toList i with
   |none=>rw[qa]at e;cases e
   |some c=>rw[qa]at e;cases e;cases b;cases a;exact .inr (.inr ⟨z,i,c,rfl,rfl,ri d,qa,q.at (.str _)⟩)
  .cases e
 .cases e
def rZ:cM D->c5 RV
 |[.str z]=>if z.length<=1000000 then ax (.fz (.int z.length))else cL
 |_=>cL
theorem kT:DL K (λxs H Q=>∃x n,xs=[x]/\Mj K x H n/\Q (.int n) H) rZ:=by
 intro O H xs ds rv Q n a e q;unfold rZ at e;split at e
 .split at e
  .rename_i z b
   cases e;cases a with
   |cons d c=>cases c;cases d;exact⟨_,z.length,rfl,⟨ri b,rfl⟩,q.at (.int _)⟩
  .cases e
 .cases e
def Fc(g:Str->Str->Bool):R2:=λx y H Q=>∃i j,x=.str i/\y=.str j/\Q (.bl (g i j)) H
def fS(g:Str->Str->Bool):D->D->c5 RV
 |.str i,.str j=>ax (.fz (.bool (g i j)))
 |_,_=>cL
theorem JK:qv K (Fc g) (fS g):=by
 intro O H x y dx c rv Q n b a e q;unfold fS at e;split at e
 .cases e;cases b;cases a;exact⟨_,_,rfl,rfl,q.at (.bl _)⟩
 .cases e
def EU(i j:Str):Bool:= !decide (j.cps.toList<i.cps.toList)
theorem rM:OpR X (To .LtE) (Fc EU):=by intro a s Z H x y v u Q I c b h;obtain⟨i,j,rfl,rfl,q⟩:=h;obtain⟨t,rfl⟩:=c;obtain⟨d,rfl⟩:=b;exact PySem.P.le_str (cV I q rfl)
def xq:=fS EU
theorem me:qv K (Fc EU) xq:=JK
def J9:FN:=λ_=>.bad
theorem Ls(hn:ps.length=n):FnOk P w K mg base fF k f fd ps (iA K n J9):=
 ⟨λvs H Q E h=>h.1.trans hn.symm,λA a s H b c vs Q E _ _ _ _ h=>by obtain⟨_,B,ds,_,_,w⟩:=h;exact w.elim⟩
end
end L3
namespace L3
open PySem L2
def Qs(N C:bA->Prop)(T:RV->Prop):Res Fl->Prop
 |.ok (.nx ρ)=>N ρ
 |.ok (.ct ρ)=>C ρ
 |.ok (.rt v)=>T v
 |_=>False
structure Go(r:Res Fl)(N C:bA->Prop)(T:RV->Prop):Prop where
 out:Qs N C T r
section
variable{ρ ρ1 ρ2 ρ3:bA}{f g:FS}{fe:FE}{pv:PV}{d:D}{rv:RV}{ds:cM D}{N C:bA->Prop}{T:RV->Prop}
theorem Go.eq(e:r=r')(h:Go r' N C T):Go r N C T:=by rw[e];exact h
theorem Go.imp(h:Go r N C T)(b:∀ρ,N ρ->N' ρ)(c:∀ρ,C ρ->C' ρ)(a:∀v,T v->T' v):Go r N' C' T':=by
 refine⟨?_⟩;have h:=h.out;cases r with
 |bad=>exact h
 |er x=>exact h
 |ok e=>
  cases e with
  |nx r=>exact b _ h
  |ct r=>exact c _ h
  |rt v=>exact a _ h
  |bk r=>exact h
theorem gR(h:Go (f ρ) (λr=>Go (g r) N C T) C T):Go (aF f g ρ) N C T:=by
 refine⟨?_⟩;have h:=h.out;unfold aF;cases q:f ρ with
 |bad=>rw[q]at h;exact h.elim
 |er x=>rw[q]at h;exact h.elim
 |ok a=>
  rw[q]at h;cases a with
  |nx r=>exact(show Go (g r) N C T from h).out
  |ct r=>exact h
  |rt v=>exact h
  |bk r=>exact h.elim
theorem g8(h:c ρ=.ok (b,ρ1))(a:b=OK->Go (f ρ1) N C T)(e:b=Rh->Go (g ρ1) N C T):Go (dJ c f g ρ) N C T:=by
 unfold dJ;rw[h,fu];cases b with
 |true=>exact a rfl
 |false=>exact e rfl
theorem im(b:fe ρ=.ok (pv,ρ1))(a:gt pv ρ1=.ok ρ2)(h:N ρ2):Go (bp fe gt ρ) N C T:=.eq (ip b a rfl) ⟨h⟩
theorem ju(a:fe ρ=.ok (pv,ρ1))(h:N ρ1):Go (d7 fe ρ) N C T:=.eq (jw a) ⟨h⟩
theorem bX(b:fe ρ=.ok (pv,ρ1))(a:Dq ρ1 pv=ax rv)(h:T rv):Go (bG fe ρ) N C T:=.eq (Ab b a) ⟨h⟩
theorem fH(h:N ρ):Go (bq ρ) N C T:=⟨h⟩
theorem Cj(I:Nat->bA->Prop):∀(ds:cM D) (k:Nat) (ρ:bA),I k ρ->(∀i d ρ,ds[i]?=ax d->I (k+i) ρ->∃ρ1,gt (.fz d) ρ=.ok ρ1/\Go (b ρ1) (I (k+i+1)) (I (k+i+1)) T)->Go (sW gt b ds ρ) (I (k+ds.length)) C T
 |[],k,ρ,h0,_=>⟨h0⟩
 |d::r,k,ρ,h0,hs=>by
  obtain⟨ρ1,n,a⟩:=hs 0 d ρ rfl h0;have a:=a.out;have j:∀c,I (k+1) c->Go (sW gt b r c) (I (k+(r.length+1))) C T:=λc h=>by
   have e:k+(r.length+1)=k+1+r.length:=by ext
   rw[e];refine Cj I r (k+1) c h λi p l hi m=>?_;have e:k+1+i=k+(i+1):=by ext
   rw[e]at m⊢;exact hs (i+1) p l (by simpa using hi) m
  refine⟨?_⟩;show Qs _ _ _ ((gt (.fz d) ρ).bind _);rw[n,fu];cases q:b ρ1 with
  |bad=>rw[q]at a;exact a.elim
  |er x=>rw[q]at a;exact a.elim
  |ok o=>
   rw[q]at a;cases o with
   |nx r=>exact(j _ a).out
   |ct r=>exact(j _ a).out
   |rt v=>exact a
   |bk r=>exact a.elim
theorem zW(I:Nat->bA->Prop)(hi:fi ρ=.ok (ds,ρ1))(c:I 0 ρ1)(hs:∀i d ρ,ds[i]?=ax d->I i ρ->∃ρ1,gt (.fz d) ρ=.ok ρ1/\Go (b ρ1) (I (i+1)) (I (i+1)) T)(a:∀ρ',I ds.length ρ'->N ρ'):Go (jZ fi gt b ρ) N C T:=by have:=Cj (C:=C) I ds 0 ρ1 c (by simpa using hs);rw[Wf]at this;exact .eq (nJ hi) (this.imp a (λ_ h=>h) λ_ h=>h)
theorem nj(a:ds.map (λd=>ax (.fz d))++RH (n - ds.length) cL=ρ)(h:Go (g ρ) (λ_=>T (.fz .none)) (λ_=>False) T):∃rv,dI n g ds=.ok rv/\T rv:=by
 have h:=h.out;unfold dI;rw[a];cases q:g ρ with
 |bad=>rw[q]at h;exact h.elim
 |er x=>rw[q]at h;exact h.elim
 |ok b=>
  rw[q]at h;cases b with
  |nx r=>exact⟨_,rfl,h⟩
  |ct r=>exact h.elim
  |rt v=>exact⟨_,rfl,h⟩
  |bk r=>exact h.elim
theorem cA(a:ds.map (λd=>ax (.fz d))++RH (n - ds.length) cL=ρ)(h:Go (g ρ) (λ_=>RV.fz .none=v) (λ_=>False) (λr=>r=v)):dI n g ds=.ok v:=by obtain⟨rv,c,b⟩:=nj (T:=λr=>r=v) a h;rw[c,b]
theorem bJ(b:fe ρ=.ok (pv,ρ1))(a:gt pv ρ1=.ok ρ2)(hn:ρ2=ρ3)(h:Go (g ρ3) N C T):Go (aF (bp fe gt) g ρ) N C T:=.eq (eV (ip b a hn)) h
theorem Fi(b:fe ρ=.ok (pv,ρ1))(a:gt pv ρ1=.ok ρ2)(hn:ρ2=ρ3)(h:N ρ3):Go (bp fe gt ρ) N C T:=.eq (ip b a hn) ⟨h⟩
theorem qh(a:fe ρ=.ok (pv,ρ1))(h:Go (g ρ1) N C T):Go (aF (d7 fe) g ρ) N C T:=.eq (eV (jw a)) h
theorem cx(b:fe ρ=.ok (pv,ρ1))(a:Dq ρ1 pv=ax rv)(h:T rv):Go (aF (bG fe) g ρ) N C T:=.eq (LJ (Ab b a)) ⟨h⟩
theorem bb(h:Go (g ρ) N C T):Go (aF bq g ρ) N C T:=.eq rfl h
theorem CV:aF (aF f1 f2) g ρ=aF f1 (aF f2 g) ρ:=by
 unfold aF;cases f1 ρ with
 |bad=>rfl
 |er x=>rfl
 |ok a=>cases a<;>rfl
theorem ia(h:Go (aF f1 (aF f2 g) ρ) N C T):Go (aF (aF f1 f2) g ρ) N C T:=.eq CV h
theorem bN(i:c ρ=.ok (b,ρ1))(a:b=OK->Go (aF f1 g ρ1) N C T)(h:b=Rh->Go (aF f2 g ρ1) N C T):Go (aF (dJ c f1 f2) g ρ) N C T:=by
 have e:aF (dJ c f1 f2) g ρ=if b=OK then aF f1 g ρ1 else aF f2 g ρ1:=by unfold aF dJ;rw[i,fu];cases b<;>rfl
 refine .eq e ?_;cases b with
 |true=>exact a rfl
 |false=>exact h rfl
theorem iM(I:Nat->bA->Prop)(hi:fi ρ=.ok (ds,ρ1))(c:I 0 ρ1)(hs:∀i d ρ,ds[i]?=ax d->I i ρ->∃ρ1,gt (.fz d) ρ=.ok ρ1/\Go (b ρ1) (I (i+1)) (I (i+1)) T)(a:∀ρ',I ds.length ρ'->Go (g ρ') N C T):Go (aF (jZ fi gt b) g ρ) N C T:=
 gR (zW I hi c hs a)
theorem vC(I:bA->Prop)(P:Nat->D->Prop):∀(ds:cM D) (k:Nat) (ρ:bA) (a:cM D),I ρ->a.length+ds.length<=1000000->(∀i d,ds[i]?=ax d->∀ρ,I ρ->∃x ρ',lQ gt ft fe d ρ=.ok (ax x,ρ')/\I ρ'/\P (k+i) x)->
  ∃xs,d8 gt ft fe ds ρ a=.ok (a++xs)/\xs.length=ds.length/\∀i x,xs[i]?=ax x->P (k+i) x
 |[],k,ρ,a,_,_,_=>⟨[],by show Res.ok a=_;simp,rfl,λi x h=>by simp at h⟩
 |d::r,k,ρ,a,h0,hl,hs=>by
  obtain⟨x,ρ',n,m,l⟩:=hs 0 d rfl ρ h0;rw[Rk]at hl;obtain⟨xs,q,p,o⟩:=vC I P r (k+1) ρ' (a++[x]) m (by rw[Ry];simp;ext) λi t hi b j=>by
   have e:k+1+i=k+(i+1):=by ext
   rw[e];exact hs (i+1) t (by simpa using hi) b j
  refine⟨x::xs,?_,by rw[Rk,p,Rk],λi y c=>?_⟩
  .rw[uk n (by ext)];show d8 gt ft fe r ρ' (a++[x])=_;rw[q,T9];rfl
  .cases i with
   |zero=>cases(show ax x=ax y from c);exact l
   |succ i=>
    have e:k+(i+1)=k+1+i:=by ext
    rw[e];exact o i y (by simpa using c)
theorem gW(I:bA->Prop)(P:Nat->D->Prop)(b:I ρ)(a:ds.length<=1000000)(hs:∀i d,ds[i]?=ax d->∀ρ,I ρ->∃x ρ',lQ gt ft fe d ρ=.ok (ax x,ρ')/\I ρ'/\P i x):
  ∃xs,jS (d8 gt ft fe ds ρ [])=.ok xs/\xs.length=ds.length/\∀i x,xs[i]?=ax x->P i x:=by
 obtain⟨xs,h,e,c⟩:=vC I P ds 0 ρ [] b (by simpa using a) (by simpa using hs);exact⟨xs,by rw[h];rfl,e,by simpa using c⟩
theorem qu{α:Type}{f:α->D}{Q:Nat->α->Prop}:∀(xs:cM D) (k:Nat),(∀i x,xs[i]?=ax x->∃a,x=f a/\Q (k+i) a)->∃as:cM α,xs=as.map f/\∀i a,as[i]?=ax a->Q (k+i) a
 |[],_,_=>⟨[],rfl,λi a h=>by simp at h⟩
 |x::r,k,h=>by
  obtain⟨a,e,q⟩:=h 0 x rfl;obtain⟨as,m,j⟩:=qu (f:=f) (Q:=Q) r (k+1) λi y l=>by
   have e:k+1+i=k+(i+1):=by ext
   rw[e];exact h (i+1) y (by simpa using l)
  refine⟨a::as,by rw[e,m];rfl,λi b c=>?_⟩;cases i with
  |zero=>cases(show ax a=ax b from c);exact q
  |succ i=>
   have e:k+(i+1)=k+1+i:=by ext
   rw[e];exact j i b (by simpa using c)
theorem QC(ha:lD.strOk a=OK)(c:lD.strOk b=OK):dq (.str a) (.str b)=ax (.fz (.bool (a==b))):=by unfold dq;rw[show mr (.str a)=OK by unfold mr;rw[show lD.canLay0 (.str a)=OK from ha];rfl,show lD.canLay0 (.str b)=OK from c,Te,ak rfl];rfl
theorem ub(ha:lD.strOk a=OK):dq (.str a) (.str a)=ax (.fz (.bool OK)):=by rw[QC ha ha,fo]
theorem ig(ha:lD.strOk a=OK)(c:lD.strOk b=OK)(h:(a==b)=Rh):dq (.str a) (.str b)=ax (.fz (.bool Rh)):=by rw[QC ha c,h]
theorem Pl(ha:lD.strOk a=OK)(h:lD.strOk b=OK)(e:lD.strOk c=OK):lu (.str a) (.tuple [.str b,.str c])=ax (.fz (.bool (b==a||c==a))):=by show(if(mr (.str a)&&(lD.strOk b&&(lD.strOk c&&OK)))=OK then ax (RV.fz (.bool (lD.eqv (.str b) (.str a)||(lD.eqv (.str c) (.str a)||false))))else cL)=_;rw[show mr (.str a)=OK by unfold mr;rw[show lD.canLay0 (.str a)=OK from ha];rfl,h,e,Ye];rfl
theorem Qn(ha:lD.strOk a=OK)(j:lD.strOk b=OK)(i:lD.strOk c=OK)(h:lD.strOk e=OK):lu (.str a) (.tuple [.str b,.str c,.str e])=ax (.fz (.bool (b==a||(c==a||e==a)))):=by show(if(mr (.str a)&&(lD.strOk b&&(lD.strOk c&&(lD.strOk e&&OK))))=OK then ax (RV.fz (.bool (lD.eqv (.str b) (.str a)||(lD.eqv (.str c) (.str a)||(lD.eqv (.str e) (.str a)||false)))))else cL)=_;rw[show mr (.str a)=OK by unfold mr;rw[show lD.canLay0 (.str a)=OK from ha];rfl,j,i,h,Ye];rfl
theorem tw{α:Type}{xs:cM α}{i:Int}{v:α}(a:0<=i)(h:xs[i.toNat]?=ax v):pU xs i=ax v:=J0 a h
theorem Kw(a:0<=i)(h:ds[i.toNat]?=ax d):bx (.tuple ds) (.int i)=ax (.fz d):=by show(pU ds i).map RV.fz=_;rw[tw a h];rfl
theorem nw(a:0<=i)(h:ds[i.toNat]?=ax d):bx (.list ds) (.int i)=ax (.fz d):=by show(pU ds i).map RV.fz=_;rw[tw a h];rfl
theorem nW(a:0<=n)(h:n<=1000000):gJ [.int n]=ax (eP (Sb n.toNat)):=by rw[BO (by unfold lW;ext),x5]
theorem P6:sY (.int 10) (.int 8)=ax (.fz (.int (10^8))):=A8 ⟨by decide,by decide⟩
theorem Oo:sY (.int 10) (.int 24)=ax (.fz (.int (10^24))):=A8 ⟨by decide,by decide⟩
theorem bW{f:D->D->c5 RV}(ha:fa ρ=.ok (pa,ρ1))(h:fb ρ1=.ok (pb,ρ2))(c:lc ρ2 (gI pa)=ax dx)(a:lc ρ2 pb=ax dy)(e:f dx dy=ax (.fz (.bool b))):aA f fa fb ρ=.ok (.fz (.bool b),ρ2):=bK ha h c a e
theorem wn{f:cM D->c5 RV}(ha:fr ρ=.ok (ps,ρ1))(hd:mS ρ1 ps=ax ds)(a:f ds=ax (.fz (.bool b))):dD f fr ρ=.ok (.fz (.bool b),ρ1):=dk ha hd a
theorem iE(ha:fr ρ=.ok (ps,ρ1))(hd:lN ρ1 ps=ax (ds,ρ2))(hn:ds.length=n)(a:F ds=.ok (.fz (.bool b))):bu F n fr ρ=.ok (.fz (.bool b),ρ2):=hV ha hd hn a
theorem xb{s:cM Nat}(c:s.Pairwise (·<·))(h:∀k∈s,k<n):s.length<=n:=by
 have:∀(s:cM Nat) (a:Nat),s.Pairwise (·<·)->(∀k∈s,a<=k/\k<n)->s.length<=n - a:=by
  intro s
  induction s with
  |nil=>intro a _ _;exact Tp _
  |cons x r e=>intro a c h;obtain⟨j,i⟩:=Tw.mp c;have l:=h x Ri;have:=e (x+1) i λk b=>⟨j k b,(h k (Rm _ b)).2⟩;rw[Rk];ext
 exact this s 0 c λk b=>⟨Tp _,h k b⟩
theorem BE(ha:fr ρ=.ok (ps,ρ1))(hd:lN ρ1 ps=ax ([d,e],ρ2))(hs:g9 d=ax es)(a:g9 e=ax fs):F5 fr ρ=.ok (mQ es fs,ρ2):=by unfold F5;rw[ha,fu,hd,aR,fu];dsimp only;rw[hs,aR,fu,a,aR,fu]
theorem jT{f g:D->D->c5 RV}(ha:fa ρ=.ok (pa,ρ))(j:fb ρ=.ok (pb,ρ))(i:fc ρ=.ok (pc,ρ))(c:lc ρ (gI pa)=ax dx)(a:lc ρ (gI pb)=ax dy)(b:lc ρ pc=ax dz)(h:f dx dy=ax (.fz (.bool b1)))(e:b1=OK->g dy dz=ax (.fz (.bool b2))):fL f g fa fb fc ρ=.ok (.fz (.bool (b1&&b2)),ρ):=by
 unfold fL;rw[ha,fu,j,fu];dsimp only;rw[c,aR,fu,a,aR,fu,h,aR,fu];cases b1 with
 |false=>rfl
 |true=>dsimp only;rw[i,fu];dsimp only;rw[a,aR,fu,b,aR,fu,e rfl,aR,fu];rfl
end
end L3
namespace L3
open PySem PySem.Spec PyProof.Rows L2 PySem.Builtin PySem.Builtin.Str
section
variable{X:Cx}
theorem mM{z:Str}{u:Rf}(h:RelV (.str z) u):∃t,u=.str z t:=h
theorem vQ:Kb X "str.startswith" (λx xs H Q=>∃a b,x=.str a/\xs=[.str b]/\Q (.bl (Txt.startswith a b)) H):=by rintro d s g H x xs v h Q I e c ⟨a,b,rfl,rfl,q⟩;obtain⟨t,rfl⟩:=mM e;obtain⟨u,rfl,f⟩:=c.one;obtain⟨i,rfl⟩:=mM f;exact PySem.SC.startswith ⟨.bl _,H,I,rfl,q⟩
theorem vy:∀l:cM (Str×Tok),Vals ((l.map (·.1)).map V.str) (strValues l)
 |[]=>.nil
 |p::r=>.cons ⟨p.2,rfl⟩ (vy r)
theorem vR:∀{a:cM Str} {b:cM Rf},Vals (a.map V.str) b->∃l,b=strValues l/\l.map (·.1)=a
 |[],_,.nil=>⟨[],rfl,rfl⟩
 |z::r,_,.cons h t=>by obtain⟨k,rfl⟩:=mM h;obtain⟨l,rfl,e⟩:=vR t;exact⟨(z,k)::l,rfl,by rw[RJ,e]⟩
def Fw:V->cM V->Hp->VK->Prop:=λx xs H Q=>∃a b,x=.str a/\xs=[.str b]/\(b.length==0)=Rh/\a.length<=RL/\(Txt.split a b).length<=RL/\∀p,H p=cL->Q (.ref p) (dg H p (.lst ((Txt.split a b).map V.str)))
theorem jN:Kb X "str.split" Fw:=by
 rintro d s i H x xs v m Q I j g ⟨a,b,rfl,rfl,hy,hx,hn,q⟩;obtain⟨t,rfl⟩:=mM j;obtain⟨u,rfl,k⟩:=g.one;obtain⟨t',rfl⟩:=mM k;have c:∀(l:cM (Str×Tok)) (f:Nat),l.map (·.1)=Txt.split a b->EP X d i Q (.ref s.heap.objs.size) {s with heap:=s.heap.push {cls:=.type "list",data:=.seq (strValues l).toArray},toks:=f}:=λl f e=>by have h:=vy l;rw[e]at h;exact⟨.ref _,_,I.aeF (t':=f) h (by rw[CL];exact hn),rfl,q _ I.fresh⟩
 cases h1:(decide (a.length<b.length)||decide (strKind a<strKind b))with
 |true=>exact Uk F.slot_str_split (WO _ _ _) F.entry_str_split (F.args_str_split_2 _ _) (meets_str_split_cannot_occur a b t t' h1) (c [(a,t)] s.toks (ak h1).symm)
 |false=>
  cases hf:(occurrences a b 0 a.length (a.length+1)).isEmpty with
  |true=>exact Uk F.slot_str_split (WO _ _ _) F.entry_str_split (F.args_str_split_2 _ _) (meets_str_split_not_found a b t t' h1 hy hf) (c [(a,t)] s.toks ((ar (ne_true_of_eq_false h1)).trans (ak hf)).symm)
  |false=>have e:Txt.split a b=partsBetween a (occurrences a b 0 a.length (a.length+1)) b.length:=(ar (ne_true_of_eq_false h1)).trans (ar (ne_true_of_eq_false hf));refine Uk F.slot_str_split (WO _ _ _) F.entry_str_split (F.args_str_split_2 _ _) (meets_str_split_sep a b t t' h1 hy hf hx (by rw[<-e];exact hn)) ?_;rw[strsFrom_eq];exact c (numbered s.toks _) _ ((numbered_texts _ _).trans e.symm)
def JE(K:td):V->cM V->Hp->VK->Prop:=λx xs H Q=>∃a l ts,x=.str a/\xs=[.ref l]/\Wh K H l (ts.map V.str)/\Zh a ts=OK/\Q (.str (Txt.join a ts)) H
theorem rh:Kb X "str.join" (JE X.K):=by
 rintro d s h H x xs v i Q I f b ⟨a,l,j,rfl,rfl,hq,TL,q⟩;obtain⟨t,rfl⟩:=mM f;obtain⟨u,rfl,g⟩:=b.one;cases g;obtain⟨o,rv,pl,n⟩:=I.list hq;obtain⟨c,rfl,rfl⟩:=vR rv;have e:tooLong ((c.map (·.1)).toArray.foldl (·+·.length+a.length) 0)=Rh:=by unfold Zh at TL;rwa [UX]at TL
 exact Uk F.slot_str_join (WO _ _ _) F.entry_str_join (F.args_str_join_2 _ _) (meets_str_join_list a t l c e) ⟨pl.isList,post_join c ⟨joinFit_length e,λm k=>⟨.str _,H,I.tok k,⟨_,rfl⟩,q⟩⟩⟩
def MN:V->c5 Int->c5 Int->Hp->VK->Prop:=λx lo hi H Q=>∃z,x=.str z/\z.length<=RL/\Q (.str (Txt.slice z lo hi)) H
theorem gb:LZ X MN:=by
 rintro b s f H x v n m lo hi o Q I h c pl e ⟨z,rfl,hz,q⟩;obtain⟨t,rfl⟩:=mM h;refine⟨"str",_,F.slot_str_getitem.lookup,WO _ _ _,?_⟩;have a:(Txt.slice z lo hi).length<=RL/\∀d k,EP X b f Q (.str (Txt.slice z lo hi) d) {s with toks:=k}:=⟨SH (Txt.slice_le z _ _) hz,λd k=>⟨.str _,H,I.tok k,⟨_,rfl⟩,q⟩⟩;cases pl with
 |none=>cases e with
  |none=>exact Vz (l:=cL) (u:=cL) (st:=cL) c rfl (Yb a)
  |int j u=>exact Vz (l:=cL) (u:=ax (j,u)) (st:=cL) c rfl (Yb a)
 |int i u=>cases e with
  |none=>exact Vz (l:=ax (i,u)) (u:=cL) (st:=cL) c rfl (Yb a)
  |int j g=>exact Vz (l:=ax (i,u)) (u:=ax (j,g)) (st:=cL) c rfl (Yb a)
theorem v4:U4 X (.type "int") (λxs H Q=>∃z n,xs=[.str z]/\UC z=ax n/\z.length<=640/\Q (.int n) H):=by rintro a s c H xs d Q I r ⟨z,n,rfl,hn,hl,q⟩;obtain⟨u,rfl,b⟩:=kX r;obtain⟨t,rfl⟩:=mM b;exact ajf hn hl ⟨.int n,H,I.tok _,⟨_,rfl⟩,q⟩
end
section
variable{X:Cx}
def f2(a b:Str)(i j:Int):Str:=WM++a++Ue (toString i)++b++Ue (toString j)
def P8(x:Str):It:=⟨λi _=>i<x.cps.size,λi H v a=>∃c,x.cps[i]?=ax c/\v=.str ⟨#[c]⟩/\a=H,λi _=>i=x.cps.size⟩
theorem wa{P:RT}{w:SG}{K:td}{S:SI}(x:Str)(t:Tok)(it:Rq)(ty:String)
  (hn:["enumerate","zip","dict_itemiterator","dict_reverseitemiterator","odict_iterator","itertools.zip_longest","itertools.pairwise"].contains ty=Rh)
  (W:∀A:Sk,A.handled=cL->afe P w A it [it] [it] x.cps.size (SignAt x) (λi h=>h.IsStrIter it ty x t i)) (self:∀(A:Sk) (i:Nat) (s:Ro) (Q:Rf->Ro->Prop) (E:Rf->Ro->Prop),s.heap.IsStrIter it ty x t i->Q (.ref it) s->wpAny (model P w) A (pyIter (.ref it)) Q E s):
  Turn P w K S (P8 x) [it] it (λi h=>h.IsStrIter it ty x t i) where
 mem:=by simp
 obj:=λi h a b g=>by
  have e:b=it:=by simpa using g
  subst e;obtain⟨o,e,c,d⟩:=a;exact⟨o,e,λv z=>by rw[d]at z;cases z⟩
 keep:=λi h n a k=>by obtain⟨o,e,r⟩:=a;exact⟨o,k it (by simp) o e,r⟩
 item:=by intro X C q F B i f s O H E I m a l;subst C q F;obtain⟨N,M,f2,L,J,G⟩:=m it (by simp);refine(W X.A (I.ok.hd B)).item i s _ _ l a λv n j T R p=>?_;obtain⟨c,u,y,rfl⟩:=T;have U:L2.Inv X f O H {s with heap:=n,toks:=j}:=I.turned (t':=j) (λb o g e=>p b o (by simpa using g) e) N M L J G;obtain⟨o,e,cl,d⟩:=id R;exact⟨_,rfl,BU (s:={s with heap:=n,toks:=j}) e cl d hn ⟨.str ⟨#[c]⟩,H,U,⟨u,rfl⟩,⟨c,y,rfl,rfl⟩,R,λb g=>(m b g).1⟩⟩
 done:=by intro X C q F B i f s O H E I m a l;subst C q F;have l:i=x.cps.size:=l;subst l;obtain⟨N,M,f2,L,J,G⟩:=m it (by simp);exact(W X.A (I.ok.hd B)).done s _ _ a λn j p=>⟨rfl,I.turned (t':=j) (λb o g e=>p b o (by simpa using g) e) N M L J G⟩
 self:=λA i s Q E a h=>self A i s Q E a h
def JD(b:TE):TI:=λa H R=>b a H λx c=>∃z,x=.str z/\R (P8 z) c
theorem AQ{n l:SI}{j:TE}(r:PE X l j):PI X n l (JD j):=by
 intro c s m H R I h;refine fR (r c s m H _ I h) λv a ⟨y,i,d,p,z,e,q⟩=>?_;subst e;obtain⟨t,rfl⟩:=mM p;have k:∀b∈[a.heap.objs.size],oV X c i b:=λb u=>by
  have e:b=a.heap.objs.size:=by simpa using u
  subst e;exact d.aat (Rr _) (d.TL.fresh (Rr _))
 cases ha:z.cps.all (·<128)with
 |false=>refine wpAny_pyIter_wide ha ?_;exact⟨a.heap.objs.size,[a.heap.objs.size],_,_,i,rfl,d.kept (t':=a.toks) λb o e=>c6 _ e,wa z t _ "str_iterator" (by decide) (λA g=>afe.strWide g _ z t) (λ_ _ _ _ _ f h=>wpAny_pyIter_striter_wide f h),⟨_,dN _ rfl,rfl,rfl⟩,k,q⟩
 |true=>refine wpAny_pyIter_ascii ha ?_;exact⟨a.heap.objs.size,[a.heap.objs.size],_,_,i,rfl,d.kept (t':=a.toks) λb o e=>c6 _ e,wa z t _ "str_ascii_iterator" (by decide) (λA g=>afe.strAscii g _ z t) (λ_ _ _ _ _ f h=>wpAny_pyIter_striter_ascii f h),⟨_,dN _ rfl,rfl,rfl⟩,k,q⟩
end
section
variable{X:Cx}
def QM(D:cM (lD×lD))(b:TE):TE:=λa H Q=>b a H λy c=>∃k z,y=.str k/\lookup (lD.str k) D=ax (.str z)/\Q (.str z) c
theorem IE{c:cM (c5 SI)}{f:cM SI}{G B:Pos}{b:SI}{L:TE}{D:cM (lD×lD)}(Y:PE X b L)(Z:litPairs c f=ax D)(hs:strKeyed D=OK)(hn:(strKeysOf D).Nodup)
  (J:c.all (·.isSome)=OK) (U:c.length=f.length) (h0:c≠[]) (l:c.length<=15) (j:tu b):PE X (.Subscript (.Dict c f G) b B) (QM D L):=by
 intro g s r H Q I h;refine Subscript_ (Dict_lits_str Z hs hn J U h0 l λa o h1 i ha S T P=>?_);have M:=I.kept (t':=i) P;obtain⟨W9,m,E⟩:=T;have I2:L2.Inv X (g++[(a,o)]) r H {s with heap:=h1,toks:=i}:=M.Yl λp j=>by
  rcases Sv.mp j with z|z
  .exact M.pin p (RN _ z)
  .rw[RA.mp z];exact⟨S,I.TL.fresh ha,Ti (RM I.lt ha),I.ag5 ha,λv q=>by obtain⟨_,_,_,d,_⟩:=m;rw[d]at q;cases q⟩
 refine fR (Y (g++[(a,o)]) _ r H _ I2 h) λu A ⟨y,H2,K,N,k,z,e,O,q⟩=>?_;subst e;obtain⟨t,rfl⟩:=mM N;have C:=(K.pin (a,o) (RN _ (RN _ (RA.mpr rfl)))).1;obtain⟨v,R,fl⟩:=E.of_lookup amL O;have n:A.heap.DictOf (PySem.strKind X.prog X.w) a W9:=Heap.dictOf_iff.mpr ⟨o,C,m⟩;have F:∀i,EP X g r Q v {A with toks:=i}:=λi=>⟨.str z,H2,(K.Yl λp j=>K.pin p (RN _ (T6 _ j))).tok i,(by cases fl A.heap;exact⟨_,rfl⟩),q⟩;exact subscriptTail_builtinR (x:=v) (T:= "dict") n.typeIs PySem.slot_dict_getitem.lookup (wpAny_getItem_of (PySem.strKind_is _ _ k t) n.mapOf R ⟨rfl,F _⟩) (j _ _)
end
section
variable{K:td}{E:XK}{B O O':eH}{Y H H':Hp}{Z:L2.St}{ρ ρ':bA}{v:V}
def vN:PV->c5 Str
 |.fz (.str z)=>ax z
 |_=>cL
theorem zj{pv:PV}{z:Str}(p:W8 K Y O Z H ρ v pv)(e:vN pv=ax z):v=.str z:=by
 unfold vN at e;split at e
 .cases e;cases(show DV O K H v (.str z)from p);rfl
 .cases e
def M7(K:td)(r:V->cM V->Hp->VK->Prop)(f:Str->cM D->c5 RV):Prop:=∀(O:eH) (H:Hp) (z:Str) (xs:cM V) (ds:cM D) (rv:RV) (Q:VK),sk O H->Paired (DX O K H) xs ds->f z ds=ax rv->Fin O K H Q rv->r (.str z) xs H Q
def pT(f:Str->cM D->c5 RV)(c:FE)(d:FA):FE:=λρ=>(c ρ).bind λa=>(Res.Ta (vN a.1)).bind λz=>(d a.2).bind λb=>(Res.Ta (mS b.2 b.1)).bind λds=>(Res.Ta (f z ds)).bind λrv=>.ok (rv.pv,b.2)
theorem j4{r:V->cM V->Hp->VK->Prop}{f:Str->cM D->c5 RV}{to:TE}{e:TA}{g:FE}{h:FA}(o:M7 K r f)(p:EO K E to g)(ha:AO K E e h):EO K E (Mx K "str" r to e) (pT f g h):=by intro B Y O Z H ρ Q R w;refine p B Y O Z H ρ _ R (w.bind.imp λa d G x L u A n=>?_);obtain⟨z,i,d⟩:=d.Ta;obtain rfl:=zj n i;refine⟨rfl,?_⟩;refine ha B Y G Z L a.2 _ A (d.bind.imp λb c F xs J t R2 m=>?_);obtain⟨ds,k,c⟩:=c.Ta;obtain⟨rv,j,c⟩:=c.Ta;exact o F J z xs ds rv Q R2.od (rG R2 m k) j (lh R2 λC v I q y l=>c C v I (u.trans (t.trans q)) y l)
def qp(z:Str):cM D->c5 RV
 |[.str b]=>ax (.fz (.bool (Txt.startswith z b)))
 |_=>cL
theorem rT:M7 K (λx xs H Q=>∃a b,x=.str a/\xs=[.str b]/\Q (.bl (Txt.startswith a b)) H) qp:=by
 intro O H z xs ds rv Q n c e q;unfold qp at e;split at e
 .cases e
  cases c with
  |cons f d=>cases d;cases f;exact⟨_,_,rfl,rfl,q.at (.bl _)⟩
 .cases e
theorem zm{O:eH}{H:Hp}:∀ts:cM Str,T8 O K H (ts.map V.str) (ts.map .str)
 |[]=>.nil
 |z::r=>.cons (.str z) (zm r)
def fX(z:Str):cM D->c5 RV
 |[.str b]=>if(b.length==0)=Rh/\z.length<=1000000/\(Txt.split z b).length<=1000000 then ax (.ow ((Txt.split z b).map .str))else cL
 |_=>cL
theorem iU:M7 K Fw fX:=by
 intro O H z xs ds rv Q n b e q;unfold fX at e;split at e
 .split at e
  .rename_i a
   cases e;cases b with
   |cons d c=>cases c;cases d;exact⟨_,_,rfl,rfl,a.1,ri a.2.1,ri a.2.2,Fin.new (zm _) q⟩
  .cases e
 .cases e
def vn:cM D->c5 (cM Str)
 |[]=>ax []
 |.str b::r=>(vn r).map (b::·)
 |_=>cL
theorem Cq{O:eH}{H:Hp}:∀{xs:cM V} {ds:cM D} {bs:cM Str},T8 O K H xs ds->vn ds=ax bs->xs=bs.map V.str
 |_,_,_,.nil,e=>by cases e;rfl
 |_,_,bs,.cons (vs:=vs) (ds:=r) h t,e=>by
  cases h with
  |str b=>
   have a:(vn r).map (b::·)=ax bs:=e;cases q:vn r with
   |none=>rw[q]at a;cases a
   |some c=>rw[q]at a;cases a;rw[Cq t q];rfl
  |_=>cases e
theorem ym(a:cM Str):vn (a.map .str)=ax a:=by
 induction a with
 |nil=>rfl
 |cons n r b=>show(vn (r.map .str)).map (n::·)=_;rw[b];rfl
def i9(z:Str):cM D->c5 RV
 |[.list ds]=>(match vn ds with
  |some a=>if Zh z a=OK then ax (.fz (.str (Txt.join z a)))else cL
  |none=>cL)
 |_=>cL
theorem oy:M7 K (JE K) i9:=by
 intro O H z xs ds rv Q n f e q;unfold i9 at e;split at e
 .rename_i h
  cases qs:vn h with
  |none=>rw[qs]at e;cases e
  |some d=>
   rw[qs]at e;dsimp only at e;split at e
   .rename_i g
    cases e;cases f with
    |cons c b=>cases b;obtain⟨a,i,rfl,c,b⟩:=DF c;have:=Cq b qs;subst this;exact⟨z,a,d,rfl,rfl,c.sq,g,q.at (.str _)⟩
   .cases e
 .cases e
def bT:D->c5 Int->c5 Int->c5 RV
 |.str z,lo,hi=>if z.length<=1000000 then ax (.fz (.str (Txt.slice z lo hi)))else cL
 |_,_,_=>cL
theorem ej:ON K MN bT:=by
 intro O H x lo hi dx rv Q n a e q;unfold bT at e;split at e
 .split at e
  .rename_i b;cases e;cases a;exact⟨_,rfl,ri b,q.at (.str _)⟩
  .cases e
 .cases e
def fQ:D->D->c5 RV
 |.str i,.str j=>if i.length+j.length<=1000000 then ax (.fz (.str (i++j)))else cL
 |_,_=>cL
theorem dH:qv K (λx y H Q=>∃i j,x=.str i/\y=.str j/\i.length+j.length<=RL/\Q (.str (i++j)) H) fQ:=by
 intro O H x y dx d rv Q n b a e q;unfold fQ at e;split at e
 .split at e
  .rename_i c;cases e;cases b;cases a;exact⟨_,_,rfl,rfl,ri c,q.at (.str _)⟩
  .cases e
 .cases e
def KN(i j:Str):Bool:= !(R8.Str.occurrences j i 0 j.length 1).isEmpty
def MA:=fS KN
theorem J4{X:Cx}:OpR X (To .In) (Fc KN):=CZ
theorem Bx:qv K (Fc KN) MA:=JK
def pW:cM D->c5 RV
 |[.int i]=>if i.natAbs<10^30 then ax (.fz (.str (Ue (toString i))))else cL
 |_=>cL
theorem Dj{n:Nat}(h:n<10^30):n.log2<1920:=by
 by_cases a:n=0
 .subst a;decide
 .have:=(ahW (k:=128) a).mpr (RM h (by decide));ext
theorem si:DL K (λxs H Q=>∃i,xs=[.int i]/\i.natAbs.log2<1920/\Q (.str (toString i)) H) pW:=by
 intro O H xs ds rv Q n a e q;unfold pW at e;split at e
 .split at e
  .rename_i b
   cases e;cases a with
   |cons d c=>cases c;cases d;exact⟨_,rfl,Dj b,q.at (.str _)⟩
  .cases e
 .cases e
def AZ:cM D->c5 RV
 |[.str z]=>(match UC z with
  |some n=>if z.length<=640 then ax (.fz (.int n))else cL
  |none=>cL)
 |_=>cL
theorem xj:DL K (λxs H Q=>∃z n,xs=[.str z]/\UC z=ax n/\z.length<=640/\Q (.int n) H) AZ:=by
 intro O H xs ds rv Q n a e q;unfold AZ at e;split at e
 .rename_i z
  cases qz:UC z with
  |none=>rw[qz]at e;cases e
  |some m=>
   rw[qz]at e;dsimp only at e;split at e
   .rename_i b
    cases e;cases a with
    |cons d c=>cases c;cases d;exact⟨_,_,rfl,qz,b,q.at (.int _)⟩
   .cases e
 .cases e
def ph(z:Str):cM D:=z.cps.toList.map λc=>.str ⟨#[c]⟩
def pp(fe:FE):FI:=λρ=>(fe ρ).bind λa=>(Res.Ta (vN a.1)).bind λz=>.ok (ph z,a.2)
theorem GM{z:Str}:wq K (P8 z) O H (ph z):=by
 intro O' H' e n;have a:(ph z).length=z.cps.size:=by unfold ph;rw[CL,VX]
 rw[a];refine⟨λi hi=>⟨hi,?_⟩,rfl⟩;rintro x d ⟨c,b,rfl,rfl⟩;refine⟨TC.refl _,.str ⟨#[c]⟩,?_,.str _⟩;unfold ph;rw[Rt,Xe,b];rfl
theorem xX{c:TE}{fe:FE}(h:EO K E c fe):IO K E (JD c) (pp fe):=by intro B Y O Z H ρ k R w;refine h B Y O Z H ρ _ R (w.bind.imp λa b i x j f g e=>?_);obtain⟨z,d,b⟩:=b.Ta;obtain rfl:=zj e d;exact⟨z,rfl,b i _ j f g GM⟩
def OW(T:cM (lD×lD)):D->c5 RV
 |.str k=>(match lookup (lD.str k) T with
  |some (.str z)=>ax (.fz (.str z))
  |_=>cL)
 |_=>cL
def Ma(T:cM (lD×lD))(fb:FE):FE:=λρ=>(fb ρ).bind λa=>(Res.Ta (lc a.2 a.1)).bind λd=>(Res.Ta (OW T d)).bind λrv=>.ok (rv.pv,a.2)
theorem Nk{T:cM (lD×lD)}{e:TE}{fb:FE}(j:EO K E e fb):EO K E (QM T e) (Ma T fb):=by
 intro B Y O Z H ρ Q R w;refine j B Y O Z H ρ _ R (w.bind.imp λa c m x n l f h=>?_);obtain⟨d,g,c⟩:=c.Ta;obtain⟨rv,b,c⟩:=c.Ta;have dx:=jL f h g;unfold OW at b;split at b
 .rename_i k
  split at b
  .rename_i z i;cases b;cases dx;exact⟨k,z,rfl,i,c m _ n l f (.str _)⟩
  .cases b
 .cases b
end
end L3
namespace PySem
open Sem (wp)
open AutoSeq1 (wpAny_loadPart')
open Builtin Builtin.Str
section
variable{prog:RT}{w:SG}{A:Sk}{E:Rf->Ro->Prop}{s:Ro}
theorem zx{T newId o:String}{p q:R8}{args:cM Rf}{b:cM (Str×Rf)}{S:Spec}{Q Q₁:Rf->Ro->Prop}(ft:TypeCalled T newId o)
  (u:checkTypeCall T ⟨args,b⟩=pure ()) (k:checkBuiltinCall newId ⟨.type T::args,b⟩=pure ()) (n:entryFor table newId=ax p) (m:entryFor table o=ax q) (g:Meets (p ⟨.type T::args,b⟩) S) (h:S A.in1 (wants Q₁ E) s)
  (l:∀obj s₁,Q₁ obj s₁->s₁.TypeIs obj T/\argsOk o ⟨obj::args,b⟩/\∃Si,Meets (q ⟨obj::args,b⟩) Si/\Si A.in1 (wants (λr s₂=>r=.none/\Q obj s₂) E) s₁):wpAny (model prog w) A (call (.type T) args b) Q E s:=by
 obtain⟨c,I,C⟩:=ft.mro;have G:=ft.made;have H:=ft.sub;refine XW (aaH ?_);show wpAny _ _ (callAny (.type T) _) _ _ _;refine Ru ⟨aah.quiet_builtin _ (by left),ahY F.entry_type_call ?_⟩;rw[Sk.under_plain (adn T args b) (units_type_call_type T args b)];have K:=ft.notType;have J:=ft.canCreate
 repeat (any_goals (first|assumption|wp_step))
 refine Vk (TK ft.plain n (wpAny_of_eq k (g prog w A.in1 _ s h))) λr s₁ j=>?_;cases r with
 |error e=>exact j
 |ok B=>
  cases B with
  |ret obj=>
   obtain⟨y,TL,Si,z,i⟩:=l _ _ j;have t:=ft.init.lookup;have v:=ft.init.bind obj
   repeat (any_goals (first|assumption|wp_step))
   refine Vk (TK ft.init.plain m (ft.init.check _ _ _ _ _ _ _ _ y TL (z prog w A.in1 _ s₁ i))) λf s₂ a=>?_;cases f with
   |error e=>exact a
   |ok d=>
    cases d with
    |ret r=>obtain⟨rfl,L⟩:=a;repeat (any_goals (first|assumption|wp_step))
    |_=>exact a.elim
  |_=>exact j.elim
end
theorem rE(a b:Rf):checkTypeCall "enumerate" ⟨[a],[("start",b)]⟩=pure ():=by kernel_rfl
theorem sF(a b:Rf):checkBuiltinCall "enumerate.__new__" ⟨[.type "enumerate",a],[("start",b)]⟩=pure ():=by kernel_rfl
theorem xF(a b c:Rf):argsOk "object.__init__" ⟨[a,b],[("start",c)]⟩:=by unfold argsOk;rw[signature?_of (id:= "object.__init__") (n:=['_','_','t','i','n','i','_','_']) (o:=['t','c','e','j','b','o']) (by kernel_rfl) F.owner_object];kernel_rfl
theorem t9{T newId:String}{self a b:Rf}(f:typeLookup (.type T) "__init__"=pure (ax (.builtin "object.__init__")))(hm:Bind.madeBy (.type T)=pure (ax newId))(h:(ax newId !=ax "object.__new__")=OK):
  Meets (R8.«object.__init__» ⟨[self,a],[("start",b)]⟩) (λ_ R s=>s.TypeIs self T/\R (.ok (.ret .none)) s):=by
 refine Meets.of_wp λc w A R s d=>?_;obtain⟨g,e⟩:=d
 repeat (any_goals (first|assumption|wp_step))
 exact⟨_,rfl,e⟩
theorem vj(b:Bool)(l:Rq)(a:Array Rf)(t:Tok):
  Meets (R8.«enumerate.__new__» ⟨[.type "enumerate",.ref l],[("start",.int 1 t)]⟩) (λ_ R s=>sqAt b s.heap l a/\R (.ok (.ret (.ref (s.heap.objs.size+1))))
   {s with heap:=(s.heap.push {cls:=.type (oX b),data:=.fields #[.ref l,.int 0 0]}).push {cls:=.type "enumerate",data:=.fields #[.none,.bool Rh,.ref s.heap.objs.size,rawInt 1,.none,.none]}}):=
 .of_wp λj w A R s h=>by
  obtain⟨i,g,d,k,m⟩:=s;obtain⟨n,h⟩:=h;have o:=alw;have e:sqAt b (Ro.heap ⟨i,g,d,k,m⟩) l a:=n;have f:(i.push {cls:=.type (oX b),data:=.fields #[.ref l,.int 0 0]}).objs.size=i.objs.size+1:=ec ..
  wp_walk using oQ e
  refine ahX λp=>Ru ?_;split
  .rename_i c _ _ _ _ _
   cases(c==Rf.type "enumerate")
   .wp_walk using oQ e
    rw[f];exact⟨_,rfl,h⟩
   .wp_walk using oQ e
    rw[f];exact⟨_,rfl,h⟩
  .wp_walk using oQ e
   rw[f];exact⟨_,rfl,h⟩
section
variable{prog:RT}{w:SG}{A:Sk}{E:Rf->Ro->Prop}{s:Ro}
theorem wT{b:Bool}{l:Rq}{a:Array Rf}{t:Tok}{Q:Rf->Ro->Prop}(i:sqAt b s.heap l a)
  (h:∀h',abd h' (s.heap.objs.size+1) s.heap.objs.size 1 .none->itAt b h' s.heap.objs.size l 0->(∀c o,s.heap.get? c=ax o->h'.get? c=ax o)->Q (.ref (s.heap.objs.size+1)) {s with heap:=h'}):
  wpAny (model prog w) A (call (.type "enumerate") [.ref l] [("start",.int 1 t)]) Q E s:=by
 refine zx (Q₁:=λobj d=>d.TypeIs obj "enumerate"/\Q obj d) F.called_enumerate (rE _ _) (sF _ _) F.entry_enumerate_new F.entry_object_init (vj b l a t) ⟨i,?_⟩ λobj _ e=>
  ⟨e.1,xF _ _ _,_,t9 F.called_enumerate.init.lookup F.called_enumerate.made (by decide),e.1,rfl,e.2⟩
 have g:(s.heap.push {cls:=.type (oX b),data:=.fields #[.ref l,.int 0 0]}).objs.size=s.heap.objs.size+1:=ec ..;have f:abd ((s.heap.push {cls:=.type (oX b),data:=.fields #[.ref l,.int 0 0]}).push {cls:=.type "enumerate",data:=.fields #[.none,.bool Rh,.ref s.heap.objs.size,rawInt 1,.none,.none]}) (s.heap.objs.size+1) s.heap.objs.size 1 .none:=by have:=dN (s.heap.push {cls:=.type (oX b),data:=.fields #[.ref l,.int 0 0]}) (o:={cls:=.type "enumerate",data:=.fields #[.none,.bool Rh,.ref s.heap.objs.size,rawInt 1,.none,.none]}) rfl;rw[g]at this;exact this
 exact⟨⟨_,f,rfl⟩,h _ f (Am (c6 _ (dN _ rfl))) λc o x=>c6 _ (c6 _ x)⟩
end
end PySem
namespace PySem
open Sem (wp)
open Builtin Builtin.Str
theorem sqAt.to{b:Bool}{h h':Heap}{a:Rq}{xs:Array Rf}(x:sqAt b h a xs)(e:∀o,h.get? a=ax o->h'.get? a=ax o):sqAt b h' a xs:=by
 cases b with
 |true=>obtain⟨o,d,c⟩:=(show h.IsTuple a xs from x);exact⟨o,e o d,c⟩
 |false=>obtain⟨o,d,c⟩:=(show h.IsList a xs from x);exact⟨o,e o d,c⟩
theorem Gf{prog:RT}{w:SG}{A:Sk}(b:Bool)(p:A.handled=cL)(it l:Rq)(u:l≠it)(a:Array Rf):
  Draws prog w A it [it,l] (a.size+1) (λj v=>1<=j/\a[j - 1]?=ax v) (λj h=>1<=j/\itAt b h it l (j - 1)/\sqAt b h l a) where
 live:=λ_ _ c=>let⟨o,ho,_⟩:=c.2.1.live;⟨o,ho⟩
 frame:=λ_ _ _ c k=>⟨c.1,c.2.1.to λo e=>k it (by simp) o e,c.2.2.to λo e=>k l (by simp) o e⟩
 item:=λj s Q E y c q=>by
  obtain⟨m,i,g⟩:=c;have n:j - 1<a.size:=by ext
  refine tG i g (x:=a[j - 1]) (by simp[n]) λt f d=>?_;have e:j - 1+1=j+1 - 1:=by ext
  rw[e]at f;exact q _ t s.toks ⟨m,by simp[n]⟩ ⟨by ext,f,g.ext d.extBut u⟩ d
 done:=λs Q E c r=>by obtain⟨m,i,g⟩:=c;rw[Wn]at i;exact wu p i g (by simp) r
section
variable{M:aaw}{A:Sk}{E:Rf->Ro->Prop}{s:Ro}{env:Env}
theorem uE{b:Pos}{T:String}{e:SI}{c:cM YQ}{Q:Rf->Ro->Prop}
  (h:wpAny M A (spliced (backTo b (R0 [e] env))) (λvs s₁=>wpAny M A (evalAll ((backToKw b (keywordEach c env)).map (·.2))) (λW9 s₂=>wpAny M A (call (.type T) vs (((backToKw b (keywordEach c env)).filterMap (·.1)).zip W9)) Q E s₂) E s₁) E s)
  (j:backTo b (R0 [e] env)=[(Rh,eval e env)]) (g:(backToKw b (keywordEach c env)).all (·.1.isSome)=OK) (f:(backToKw b (keywordEach c env)).any (·.1.isNone)=Rh):
  wpAny M A (callWith b (.type T) [] (backTo b (R0 [e] env)) (backToKw b (keywordEach c env))) Q E s:=by
 rw[j]at h⊢;unfold callWith;refine Ld (U1 (wpAny_mono (ahZ (Q:=λa s₁=>wpAny M A (call (.type T) a.pos a.kw) Q E s₁) g h) (λa s₁ d=>Ld (Uq ?_)) λ_ _ x=>x));simp only[f,VN,List.any_nil,Ye];refine Ld (Ru ?_);exact Ld (wpAny_mono d (λr s₂ i=>Ld (U1 (wpAny_point (Ru i)))) λ_ _ x=>x)
end
end PySem
namespace L3
open PySem PySem.Spec PyProof.Rows L2 PySem.Builtin
def J7(K:td)(b:Bool)(a:Rq):It:=
 ⟨λi H=>∃xs x,zD b K H a xs/\xs[i]?=ax x,
  λi H v c=>∃p x,H p=cL/\v=.ref p/\(∀xs,zD b K H a xs->xs[i]?=ax x)/\c=dg H p (.tup [.int ((i+1:Nat):Int),x]),
  λi H=>∃xs,zD b K H a xs/\xs.length=i⟩
theorem AA{P:RT}{w:SG}{K:td}{F:cM SI}{kk}{tp:Pos}(b:Bool)(a e it:Rq)(Xa:e≠it)(C:a≠it)(Z:a≠e):
  Turn P w K (.Tuple F kk tp) (J7 K b a) [e,it] e (λi h=>(∃old,abd h e it ((i+1:Nat):Int) old)/\itAt b h it a i) where
 mem:=by simp
 obj:=λi h g c n=>by
  obtain⟨⟨old,f⟩,hi⟩:=g;rcases Rn.mp n with z|n
  .subst z;exact⟨_,f,λv z=>by cases(show ZM.fields _=ZM.cell v from z)⟩
  .have z:c=it:=by simpa using n
   subst z;exact hi.live
 keep:=λi h h' g k=>by obtain⟨⟨old,f⟩,d⟩:=g;exact⟨⟨old,k e (by simp) _ f⟩,d.to λo q=>k it (by simp) o q⟩
 item:=by
  intro X hP R hK n i l s σ H E I M g T;subst hP R hK;obtain⟨⟨old,f⟩,d⟩:=g;obtain⟨xs,x,L,Q⟩:=T;obtain⟨r,rv,p⟩:=mf I L;obtain⟨u,hu,ru⟩:=rv.get Q;have Y2:i<r.toArray.size:=by
   have:=(Rp.mp hu).1
   simpa using this
  refine acC (Gf (A:=X.A.in1) b (I.ok.hd n) it a C r.toArray) f ⟨by ext,by rw[Wn];exact d,p⟩ (by ext) Xa (by simp[Xa,Z.symm]) λy h1 J O ho ac1 hT hsz hk=>⟨_,rfl,?_⟩;have N:y=u:=by
   have q:r.toArray[i]?=ax u:=by simpa using hu
   have t:=O.2;rw[Wn,q]at t;exact(R9 t).symm
  subst N;refine WQ (s:={s with heap:=h1,toks:=J+1}) ho λh2 U m=>?_;have B:e<s.heap.objs.size:=dt f;have S:it<s.heap.objs.size:=by obtain⟨_,z,_⟩:=d.live;exact dt z
  have hn:H s.heap.objs.size=cL:=I.TL.fresh (Rr _);have kk:∀c o,c∉[e,it]->s.heap.get? c=ax o->h2.get? c=ax o:=λc o j q=>by have h3:c≠e:=λz=>j (by simp[z]);have h4:c≠it:=λz=>j (by simp[z]);exact(m.2 c h3).trans (hk c o h3 h4 q)
  have hT2:h2.get? s.heap.objs.size=ax {cls:=.type "tuple",data:=.seq #[.int ((i+1:Nat):Int) J,y]}:=(m.2 _ (Ti B)).trans hT
  have I2:L2.Inv X l σ (dg H s.heap.objs.size (.tup [.int ((i+1:Nat):Int),x])) {s with heap:=h2,toks:=J+1}:=
   I.WX (ch:=[e,it]) M kk (Rr _) ⟨by show 2<=RL;decide,[.int ((i+1:Nat):Int) J,y],.cons ⟨_,rfl⟩ (.cons ru .nil),⟨_,hT2,⟨rfl,_,rfl⟩,rfl⟩⟩
  have G:=ac1.2.1;rw[show i+1+1 - 1=i+1 by ext]at G;refine⟨.ref s.heap.objs.size,_,I2,rfl,⟨_,x,hn,rfl,λys O=>by rw[wB I O L];exact Q,rfl⟩,⟨⟨y,U⟩,G.to λo q=>(m.2 it Xa.symm).trans q⟩,λc j=>?_⟩;have Y:c≠s.heap.objs.size:=by
   rcases Rn.mp j with z|j
   .rw[z];exact RO B
   .rw[show c=it by simpa using j];exact RO S
  rw[aM Y];exact(M c j).1
 done:=by
  intro X hP R hK n i l s σ H E I M g T;subst hP R hK;obtain⟨⟨old,f⟩,d⟩:=g;obtain⟨xs,L,Q⟩:=T;obtain⟨r,rv,p⟩:=mf I L;obtain⟨f0,f1,f2,f3,f4,f5⟩:=M it (by simp);have hl:=rv.length;have ei:i=r.toArray.size:=by rw[RB];ext
  subst ei;exact acQ (Gf (A:=X.A.in1) b (I.ok.hd n) it a C r.toArray) f ⟨by ext,by rw[Wn];exact d,p⟩ λh1 eb=>⟨rfl,I.turned (t':=s.toks) (λc o j q=>eb c o j q) f0 f1 f3 f4 f5⟩
 self:=λ_ _ _ _ _ g h=>by obtain⟨⟨old,f⟩,_⟩:=g;exact U6 f h
def Cz(K:td)(e:TA):TI:=λd H R=>e d H λvs c=>∃a b,vs=[.ref a]/\(∃xs,zD b K c a xs)/\R (J7 K b a) c
theorem zr{X:Cx}{l:SI}{y:TA}{p f tp t r:Pos}{n:cM SI}{kk}{j:Nat}(M:Gl X "enumerate")(hm:X.mg "enumerate"=cL)(ha:PA X [l] y)(hs:Az l=Rh:=by rfl):
  PI X (.Tuple n kk tp) (.Call (.Name "enumerate" p) [l] [⟨ax "start",.Constant (.int 1) j t,r⟩] f) (Cz X.K y):=by
 intro g s C H R I h;have N:eval (.Call (.Name "enumerate" p) [l] [⟨ax "start",.Constant (.int 1) j t,r⟩] f) X.env=(do callWith f (<-eval (.Name "enumerate" p) X.env) [] (backTo f (R0 [l] X.env)) (backToKw f (keywordEach [⟨ax "start",.Constant (.int 1) j t,r⟩] X.env))):=rfl;rw[N];refine Ld (pQ I M hm boot_enumerate (uE (fR (ha f g s C H _ I h) λQ d ⟨vs,B,o,F,G⟩=>?_) (by rw[vV _ _ _ hs];rfl) rfl rfl));obtain⟨a,b,e,⟨xs,J⟩,q⟩:=G;subst e;obtain⟨u,rfl,E⟩:=kX F;cases E;obtain⟨S,rv,A⟩:=mf o J;refine ah0 (aew (ah1 ?_));have T:=o.tok (d.toks+1);have m:a<d.heap.objs.size:=A.lt;have P:∀c∈[d.heap.objs.size+1,d.heap.objs.size],oV X g B c:=λc w=>by
  have k:d.heap.objs.size<=c:=by
   rcases Rn.mp w with z|w
   .rw[z];exact VW _
   .rw[show c=d.heap.objs.size by simpa using w];exact Rr _
  exact o.aat k (o.TL.fresh k)
 refine wT (s:={d with toks:=d.toks+1}) A λO i v L=>?_;refine U6 (s:={d with heap:=O,toks:=d.toks+1}) i ?_;exact⟨d.heap.objs.size+1,[d.heap.objs.size+1,d.heap.objs.size],_,_,B,rfl,o.kept (t':=d.toks+1) L,AA b a _ _ (Zg _) (RO m) (RO (U0 m)),⟨⟨_,i⟩,v⟩,P,q⟩
section
variable{K:td}{E:XK}{B O O':eH}{H0 H H':Hp}{σ:L2.St}{ρ ρ':bA}{v:V}
theorem Gg{b:Bool}{a:Rq}{xs:cM V}{ds:cM D}(h:aas b O K H a xs)(hd:T8 O K H xs ds):wq K (J7 K b a) O H (cB 1 ds):=by intro O' H' e n;have f:=h.ev e;have j:=hd.ev e;rw[iK];refine⟨λi hi=>?_,⟨xs,f.at,hd.length⟩⟩;obtain⟨x,g,dx⟩:=j.get (Rj hi);refine⟨⟨xs,x,f.at,g⟩,?_⟩;rintro y k ⟨p,z,d,rfl,hz,rfl⟩;have c:=hz xs f.at;rw[g]at c;cases c;refine⟨ce d _,.tuple [.int ((i+1:Nat):Int),ds[i]],?_,.tup ⟨We.of bz,λq=>a7 q (n p d)⟩ (.cons (.int _) (.cons (dx.ev (Ev.grow (ce d _))) .nil))⟩;rw[iO,Rj hi,YW 1 i];rfl
def uF(c:FA):FI:=λρ=>(c ρ).bind λa=>(Res.Ta (lN a.2 a.1)).bind λb=>match b.1 with
 |[d]=>(Res.Ta (g9 d)).bind λds=>.ok (cB 1 ds,b.2)
 |_=>.bad
theorem ye{d:TA}{f:FA}(h:AO K E d f):IO K E (Cz K d) (uF f):=by
 intro B H0 O σ H ρ A R w;refine h B H0 O σ H ρ _ R (w.bind.imp λa c C vs y n t j=>?_);obtain⟨⟨ds,g⟩,q,c⟩:=c.Ta;obtain⟨u,m,R2,o⟩:=oh t j q;dsimp only at c;cases o with
 |nil=>exact c.elim
 |cons l k=>
  cases k with
  |cons _ _=>exact c.elim
  |nil=>obtain⟨z,i,c⟩:=WR.Ta c;obtain⟨b,r,xs,rfl,e,p⟩:=Gc l i;exact⟨r,b,rfl,⟨_,e.at⟩,c u _ y (n.trans m) R2 (Gg e p)⟩
end
end L3
namespace L3
open PySem L2
def jn(c:Nat):cM (cM Nat)->cM Nat
 |[]=>[]
 |[x]=>x
 |x::y::r=>x++c::jn c (y::r)
theorem oA(c:Nat):∀ps:cM Str,(Rx ⟨#[c]⟩ ps).cps.toList=jn c (ps.map λp=>p.cps.toList)
 |[]=>rfl
 |[x]=>rfl
 |x::y::r=>by show(x++⟨#[c]⟩++Rx ⟨#[c]⟩ (y::r)).cps.toList=x.cps.toList++c::jn c ((y::r).map λp=>p.cps.toList);rw[aaj,aaj,abP,abP,oA c (y::r),T9];rfl
theorem BX{c:Nat}:∀{p w x y:cM Nat},c∉p->c∉w->p++c::x=w++c::y->p=w/\x=y
 |[],[],_,_,_,_,e=>⟨rfl,(Vw e).2⟩
 |[],b::w,_,_,_,h,e=>a7 (Vw e).1 λz=>h (by rw[z];exact Ri)
 |a::p,[],_,_,h,_,e=>a7 (Vw e).1 λz=>h (by rw[<-z];exact Ri)
 |a::p,b::w,_,_,h,g,e=>by obtain⟨j,i⟩:=Vw e;obtain⟨f,d⟩:=BX (λz=>h (Rm _ z)) (λz=>g (Rm _ z)) i;exact⟨by rw[j,f],d⟩
theorem Fp{c:Nat}:∀{ps ws:cM (cM Nat)},ps≠[]->ws≠[]->(∀p∈ps,c∉p)->(∀w∈ws,c∉w)->jn c ps=jn c ws->ps=ws
 |[],_,h,_,_,_,_=>a7 rfl h
 |_,[],_,h,_,_,_=>a7 rfl h
 |[p],[w],_,_,_,_,e=>by rw[show p=w from e]
 |[p],w::a::r,_,_,h,_,e=>a7 (show p=w++c::jn c (a::r)from e) λz=>h p Ri (by rw[z];exact RN _ Ri)
 |p::b::r,[w],_,_,_,h,e=>a7 (show p++c::jn c (b::r)=w from e) λz=>h w Ri (by rw[<-z];exact RN _ Ri)
 |p::b::r,w::a::t,_,_,h,g,e=>by obtain⟨i,f⟩:=BX (h p Ri) (g w Ri) (show p++c::jn c (b::r)=w++c::jn c (a::t)from e);have:=Fp (ps:=b::r) (ws:=a::t) (by simp) (by simp) (λq d=>h q (Rm _ d)) (λq d=>g q (Rm _ d)) f;rw[i,this]
theorem IS{a b:Str}(h:a.cps.toList=b.cps.toList):a=b:=amM (YY.mp h)
def Fr(c:Nat)(s:Str):Prop:=c∉s.cps.toList
theorem zX{c:Nat}{ws:cM Str}(j:ws≠[])(h:∀w∈ws,Fr c w):Txt.split (Rx ⟨#[c]⟩ ws) ⟨#[c]⟩=ws:=by
 have e:=af0 (Rx ⟨#[c]⟩ ws) ⟨#[c]⟩;have f:=af1 (Rx ⟨#[c]⟩ ws) c;have n:Txt.split (Rx ⟨#[c]⟩ ws) ⟨#[c]⟩≠[]:=λz=>by have:=ah2 (Rx ⟨#[c]⟩ ws) ⟨#[c]⟩;rw[z]at this;cases this
 generalize Txt.split (Rx ⟨#[c]⟩ ws) ⟨#[c]⟩=ps at e f n;have i:=e9 (λs:Str=>s.cps.toList) e;rw[oA,oA]at i;have:=Fp (c:=c) (ps:=ps.map λp=>p.cps.toList) (ws:=ws.map λp=>p.cps.toList) (by simpa using n) (by simpa using j) (λp g=>by obtain⟨q,d,rfl⟩:=RF.mp g;exact f q d) (λp g=>by obtain⟨q,d,rfl⟩:=RF.mp g;exact h q d) i;exact(acE λa b h=>IS h).mp this
theorem jB{c d:Nat}(f:c≠d):∀{ws:cM Str},(∀w∈ws,Fr c w)->Fr c (Rx ⟨#[d]⟩ ws):=by
 intro ws h;unfold Fr;rw[oA];have:∀l:cM (cM Nat),(∀w∈l,c∉w)->c∉jn d l:=by
  intro l
  induction l with
  |nil=>intro _ z;cases z
  |cons x r b=>
   intro h;cases r with
   |nil=>exact h x Ri
   |cons y r=>
    show c∉x++d::jn d (y::r);intro z;rcases Sv.mp z with z|z
    .exact h x Ri z
    .rcases Rn.mp z with z|z
     .exact f z
     .exact b (λw a=>h w (Rm _ a)) z
 exact this _ λw a=>by obtain⟨q,e,rfl⟩:=RF.mp a;exact h q e
theorem jM{d:Nat}{B:Nat}:∀{ws:cM Str},(∀w∈ws,w.length<=B)->(Rx ⟨#[d]⟩ ws).length<=ws.length*(B+1)
 |[],_=>Tp _
 |[x],h=>by have:=h x Ri;show x.length<=1*(B+1);ext
 |x::y::r,h=>by have f:=h x Ri;have e:=jM (ws:=y::r) (d:=d) λw a=>h w (Rm _ a);show(x++⟨#[d]⟩++Rx ⟨#[d]⟩ (y::r)).length<=(r.length+1+1)*(B+1);rw[S9,S9];have c:(⟨#[d]⟩:Str).length=1:=rfl;have b:(y::r).length=r.length+1:=rfl;rw[b]at e;rw[c,abc (r.length+1)];ext
theorem DZ{d:Nat}{ws:cM Str}{B:Nat}(h:∀w∈ws,w.length<=B)(a:ws.length*B+ws.length<=1000000):Zh ⟨#[d]⟩ ws=OK:=by unfold Zh;have:=YZ (sep:=⟨#[d]⟩) (texts:=ws) (B:=B) h (by have:(⟨#[d]⟩:Str).length=1:=rfl;rw[this];ext);rw[this];rfl
theorem rp{d:Nat}{ws:cM Str}{B:Nat}(h:∀w∈ws,w.length<=B)(b:ws.length*B+ws.length<=1000000):i9 ⟨#[d]⟩ [.list (ws.map .str)]=ax (.fz (.str (Rx ⟨#[d]⟩ ws))):=by
 show(match vn (ws.map .str)with
  |some a=>if Zh ⟨#[d]⟩ a=OK then ax (RV.fz (.str (Txt.join ⟨#[d]⟩ a)))else cL
  |none=>cL)=_
 rw[ym];dsimp only;rw[ak (DZ h b),show Txt.join ⟨#[d]⟩ ws=Rx ⟨#[d]⟩ ws from Yc _ _]
theorem vP{c:Nat}{ws:cM Str}(d:ws≠[])(h:∀w∈ws,Fr c w)(b:(Rx ⟨#[c]⟩ ws).length<=1000000)(a:ws.length<=1000000):fX (Rx ⟨#[c]⟩ ws) [.str ⟨#[c]⟩]=ax (.ow (ws.map .str)):=by show(if((⟨#[c]⟩:Str).length==0)=Rh/\(Rx ⟨#[c]⟩ ws).length<=1000000/\(Txt.split (Rx ⟨#[c]⟩ ws) ⟨#[c]⟩).length<=1000000 then _ else _)=_;rw[zX d h,ak ⟨rfl,b,a⟩]
end L3
namespace L2
open PySem PySem.Spec PyProof.Rows
section
variable{X:Cx}
def BK:V->cM V->Hp->VK->Prop:=λx vs H Q=>∃(l:Rq) (xs:cM V) (i:Int) (y:V),x=.ref l/\vs=[.int i,y]/\H l=ax (.lst xs)/\0<=i/\i.toNat<=xs.length/\xs.length<1000000/\Q .Uo (dg H l (.lst (xs.take i.toNat++y::xs.drop i.toNat)))
theorem rK:Po X "list.insert" BK:=by
 intro d s E H x vs v G Q I m rv h;obtain⟨l,xs,i,y,rfl,rfl,g,b,hi,f,q⟩:=h;cases m;obtain⟨J,c,rfl,p,o⟩:=uW rv;obtain⟨t,rfl⟩:=p;obtain⟨z,a,n,r,A,e⟩:=I.adF g;have lt:a.length<1000000:=by rw[<-A];exact f
 have j:a.length<RL:=L3.BI lt;have C: -(2^63)<=i:=af2 (by decide) b;have f2:i<2^63:=Int.lt_of_lt_of_le (show i<1000000 by ext) (by decide);have B:¬(!R8.List.listFitsIndex i)=OK:=by rw[abb C f2];simp
 have sz:a.toArray.size<=RL:=Eq.subst (motive:=λk=>k<=RL) (RB (as:=a)).symm (Vx j);have M:=afh l a.toArray n i t c B sz;refine Uk U9 ⟨_,e,rfl⟩ PySem.F.entry_list_insert (PySem.F.args_list_insert_3 _ _ _) M ⟨e,?_⟩;refine⟨.Uo,_,I.aeX (its':=a.take i.toNat++c::a.drop i.toNat) g e ?_ ((r.take i.toNat).append (.cons o (r.drop i.toNat))) ?_,rfl,q⟩
 .have w:¬(i<0):=by ext
  have u:min i.toNat a.toArray.size=i.toNat:=by rw[RB];ext
  simp only[w,if_false,u];apply YY.mp;simp;exact Th (by rw[Sl];exact Rr _)
 .have:=L3.BI f;rw[Ry,Rk,Sd,Sl];ext
end
end L2
namespace L3
open PySem PySem.Spec L2
section
variable{K:td}{E:XK}
def zK(i:Nat)(e f2:FE):FE:=λρ=>(Res.Ta (ve ρ[i]?)).bind λ_=>(e ρ).bind λa=>(Res.Ta (lc a.2 a.1)).bind λd=>(Res.Ta (LP d)).bind λn=>(f2 a.2).bind λb=>(Res.Ta (v5 b.2 b.1)).bind λc=>(Res.Ta (ve c.2[i]?)).bind λds=>
 if 0<=n/\n.toNat<=ds.length/\ds.length<1000000 then .ok (.fz .none,c.2.set i (ax (.ow (ds.take n.toNat++c.1::ds.drop n.toNat))))else .bad
theorem Ax{i:Nat}{o m:TE}{r f2:FE}(Y:EO K E o r)(X:EO K E m f2):EO K E (Mx K "list" BK (sE i) (mL o (mL m xm))) (zK i r f2):=by
 intro B z O l H ρ Q R w;obtain⟨ds0,J,w⟩:=w.Ta;obtain⟨v,k,a,vs,rfl,g2,g3,Z,g5⟩:=R.slot i _ (oE J);refine⟨_,k,.inl ⟨rfl,_,Wh.of Z⟩,?_⟩;refine Y B z O l H ρ _ R (w.bind.imp λb f O1 y H1 e1 u M=>?_);obtain⟨d,G,f⟩:=f.Ta;obtain⟨n,F,f⟩:=f.Ta;have ey:=Av (jL u M G) F;subst ey;refine X B z O1 l H1 b.2 _ u (f.bind.imp λc e O2 C H2 e2 R2 L=>?_);obtain⟨⟨d2,A⟩,I,e⟩:=e.Ta;obtain⟨O3,e3,t,dv⟩:=tX R2 L I;obtain⟨ds,g,e⟩:=e.Ta;have g:=oE g;obtain⟨v',q,a',j,e',p,U,T,h⟩:=t.slot i _ g;subst e';rw[k]at q;cases q;dsimp only at e;by_cases hn:0<=n/\n.toNat<=ds.length/\ds.length<1000000
 .rw[ak hn]at e;obtain⟨S,P,N⟩:=hn;refine⟨a,j,n,C,rfl,rfl,T,S,by rw[h.length];exact P,by rw[h.length];exact N,?_⟩;exact e O3 .Uo _ (e1.trans (e2.trans (e3.trans (Ev.mut p _)))) (t.mut g k p U ((h.take n.toNat).append (.cons dv (h.drop n.toNat)))) .Uo
 .rw[ar hn]at e;exact e.elim
theorem GQ{i:Nat}{a f2:FE}{ρ ρ1 ρ2 ρ3:bA}{pv1 pv2:PV}{n:Nat}{d2:D}{ds0 ds:cM D}(h:ρ[i]?=ax (ax (.ow ds0)))(g:a ρ=.ok (pv1,ρ1))(f:lc ρ1 pv1=ax (.int (n:Int)))(e:f2 ρ1=.ok (pv2,ρ2))(d:v5 ρ2 pv2=ax (d2,ρ3))(c:ρ3[i]?=ax (ax (.ow ds)))(hn:n<=ds.length)(b:ds.length<1000000):
  zK i a f2 ρ=.ok (.fz .none,ρ3.set i (ax (.ow (ds.take n++d2::ds.drop n)))):=by
 unfold zK;rw[h,g];show(Res.Ta (lc ρ1 pv1)).bind _=_;rw[f];show(f2 ρ1).bind _=_;rw[e];show(Res.Ta (v5 ρ2 pv2)).bind _=_;rw[d];show(Res.Ta (ve ρ3[i]?)).bind _=_;rw[c];show(if 0<=(n:Int)/\(n:Int).toNat<=ds.length/\ds.length<1000000 then _ else _)=_;rw[ak ⟨by ext,by rw[Sy];exact hn,b⟩,Sy]
end
end L3
namespace L2
open PySem PySem.Spec PyProof.Rows
structure M1(X:Cx)(o:SI)(m:Str)(apos:Pos)(e:SI)(Wc:Pos):Prop where
 base:attributeBase o m X.env (eval o X.env)=eval o X.env
 few:((backTo Wc (R0 [e] X.env)).all (λx=> !x.1)&&(backToKw Wc (keywordEach [] X.env)).all (λx=>x.1.isSome)
  &&decide (([e]:cM SI).length+([]:cM YQ).length+(if([]:cM YQ).isEmpty then 0 else 1)<30))=OK
 line:(apos.endLine==Wc.line)=OK
 trees:backTo Wc (R0 [e] X.env)=[(Rh,eval e X.env)]
structure M2(X:Cx)(o:SI)(m:Str)(apos:Pos)(e f:SI)(Wc:Pos):Prop where
 base:attributeBase o m X.env (eval o X.env)=eval o X.env
 few:((backTo Wc (R0 [e,f] X.env)).all (λx=> !x.1)&&(backToKw Wc (keywordEach [] X.env)).all (λx=>x.1.isSome)
  &&decide (([e,f]:cM SI).length+([]:cM YQ).length+(if([]:cM YQ).isEmpty then 0 else 1)<30))=OK
 line:(apos.endLine==Wc.line)=OK
 trees:backTo Wc (R0 [e,f] X.env)=[(Rh,eval e X.env),(Rh,eval f X.env)]
end L2
namespace L4
open PySem PySem.Spec PyProof.Rows L2 L3
def G2(h:Heap)(e:Rq)(c:Rf)(dx:c5 Rq)(a:Rf)(hd:c5 Rq):Prop:=
 ∃ob fs,h.get? e=ax ob/\ob.cls=c/\ob.dict=dx/\ob.data=.fields fs/\fs[0]?=ax a/\
  match hd with
  |none=>fs[1]?=ax .none
  |some T=>fs[1]?=ax (.ref T)/\T≠e/\∃oT ts,h.get? T=ax oT/\oT.data=.fields ts/\ts[3]?=ax .none
structure Lft(l:cM Env)(e:Rq)(hd:c5 Rq)(h h':Heap):Prop where
 keep:∀b o,h.get? b=ax o->b≠e->hd≠ax b->b∉yP l->h'.get? b=ax o
 slot:∀b o,h.get? b=ax o->b≠e->hd≠ax b->∃sl,h'.get? b=ax {o with slots:=sl}
 here:∀b o,h.get? b=ax o->∃o',h'.get? b=ax o'
section
variable{M:aaw}{A:Sk}{E:Rf->Ro->Prop}{s:Ro}
theorem mn
  (I:A.frames=ax (env::outer)) (B:s.heap.FunFrames base (env::outer)) (H:env.frame=ax L) (C:s.heap.get? e=ax ob) (p:ob.data=.fields fs) (m:1<fs.size) (J:fs[0]?=ax a0)
  (k:∀h' T,s.heap.objs.size<=T->G2 h' e ob.cls ob.dict a0 (ax T)->Lft (env::outer) e cL s.heap h'->Q () {s with heap:=h'}):
  wpAny M A (frameOf env>>=λfr=>entryPlaceOf L nx>>=λpl=>EntryCells.newEntry hv fr .none (rawInt L) .none pl>>=λb=>setField (.ref e) 1 b) (λ_ s'=>wpAny M A (setFlight (.ref e) cL) Q E s') E s:=by
 have j:e∉(env::outer).filterMap (·.frame):=λz=>by obtain⟨_,o,q,n⟩:=B.mem z;rw[C]at q;cases q;exact n fs p
 refine Ld (wpAny_frameOf_fun I B H λa S=>?_);refine Ld (wpAny_entryPlaceOf λpl P=>?_);unfold EntryCells.newEntry newFields;refine Ld (TV ?_ (P.sizeOk5 _ _ _ _ _));have y:=(S.2.1 e j).trans C;generalize hN:({cls:=.type "traceback",dict:=cL,data:=.fields ([hv,.ref L,.none,rawInt L,.none]++(if pl.isEmpty then RH 6 Rf.none else pl)).toArray}:Obj)=N;have g:N.data=.fields ([hv,.ref L,.none,rawInt L,.none]++(if pl.isEmpty then RH 6 Rf.none else pl)).toArray:=by rw[<-hN]
 have K:=en g;have w:=c6 N y;refine UN w p m ?_;have l:=Ti (dt y);have r:=ek p (·.setIfInBounds 1 (Rf.ref a.objs.size));have i:=ea (Obj.mapFields (·.setIfInBounds 1 (Rf.ref a.objs.size))) w (en r)
 have u:=
  (d4 (a.push N) (Obj.mapFields (·.setIfInBounds 1 (Rf.ref a.objs.size))) l.symm).trans (dN a K)
 unfold setFlight;refine Ld (SJ i r (x:=.ref a.objs.size) (by simp[m]) ?_);rw[ak (show(Rf.ref a.objs.size !=Rf.none)=OK from by simp)];have t:3<([hv,.ref L,.none,rawInt L,.none]++(if pl.isEmpty then RH 6 Rf.none else pl)).toArray.size:=by simp only[RB,Ry,Rk,TR];ext
 refine UN u g t ?_;have v:=d4 ((a.push N).update e (Obj.mapFields (·.setIfInBounds 1 (Rf.ref a.objs.size)))) (Obj.mapFields (·.setIfInBounds 3 ((cL:c5 Rq).elim Rf.none λf=>rawInt f))) l;have F:=ea (Obj.mapFields (·.setIfInBounds 3 ((cL:c5 Rq).elim Rf.none λf=>rawInt f))) u (en (ek g _));have WV:∀b o,b≠e->a.get? b=ax o->(((a.push N).update e (Obj.mapFields (·.setIfInBounds 1 (Rf.ref a.objs.size)))).update a.objs.size (Obj.mapFields (·.setIfInBounds 3 ((cL:c5 Rq).elim Rf.none λf=>rawInt f)))).get? b=ax o:=λb o ne q=>by rw[d4 _ _ (Ti (dt q)),d4 _ _ ne.symm];exact c6 N q
 refine k _ a.objs.size (by rw[S.1];exact Rr _) ⟨_,_,v.trans i,Obj.cls_mapFields _ _,?_,r,?_,?_,l,_,_,F,ek g _,?_⟩ ⟨λb o q ne _ G=>WV b o ne ((S.2.1 b G).trans q),λb o q ne _=>?_,λb o q=>?_⟩
 .cases ob with
  |mk c d O h=>cases O<;>rfl
 .rw[YU (by decide)];exact J
 .simp[m]
 .rw[Xy t];rfl
 .obtain⟨h,z⟩:=S.2.2 b o q;exact⟨h,WV b _ ne z⟩
 .by_cases ne:b=e
  .subst ne;exact⟨_,v.trans i⟩
  .obtain⟨h,z⟩:=S.2.2 b o q;exact⟨_,WV b _ ne z⟩
theorem Df
  (v:A.frames=ax (env::outer)) (u:s.heap.FunFrames base (env::outer)) (h:env.frame=ax L) (F:G2 s.heap e c dx a0 hd)
  (k:∀h' T,s.heap.objs.size<=T->G2 h' e c dx a0 (ax T)->Lft (env::outer) e hd s.heap h'->Q () {s with heap:=h'}):wpAny M A (leaving env (.ref e)) Q E s:=by
 obtain⟨N,fs,q,I,H,d,w,r⟩:=F;subst I H;cases hd with
 |none=>have r:=r;unfold leaving noteFrame;simp only[h];refine Ld (Ld (SJ q d r ?_));rw[ar (by decide)];exact mn v u h q d (S2.mp r).1 w k
 |some T=>
  obtain⟨r,C,O,B,g,dT,p⟩:=r;unfold leaving noteFrame;simp only[h];refine Ld (Ld (SJ q d r ?_));rw[ak (show(Rf.ref T !=Rf.none)=OK from by simp)];refine Ld (SJ g dT p ?_);rw[ar (show¬((Rf.none==rawInt L)=OK)from by simp[rawInt])];refine Ld (UN g dT (S2.mp p).1 ?_);have f:∀b,b≠T->(s.heap.update T (Obj.mapFields (·.setIfInBounds 3 Rf.none))).get? b=s.heap.get? b:=λb ne=>d4 _ _ ne.symm;have a:=ea (Obj.mapFields (·.setIfInBounds 3 Rf.none)) g (en (ek dT _));have m:∀b o,s.heap.get? b=ax o->(∀vs,o.data≠.fields vs)->b≠T:=λb o z n y=>by rw[y,g]at z;cases z;exact n B dT
  refine mn v (u.of_keeps λb o z n=>⟨o,(f b (m b o z n)).trans z,rfl⟩) h ((f e C.symm).trans q) d (S2.mp r).1 w λh' J t K i=>k h' J (by rw[Heap.size_after_update]at t;exact t) K ⟨λb o z l j G=>?_,λb o z l j=>?_,λb o z=>?_⟩
  .exact i.keep b o ((f b λy=>j (by rw[y])).trans z) l (by simp) G
  .exact i.slot b o ((f b λy=>j (by rw[y])).trans z) l (by simp)
  .by_cases y:b=T
   .subst y;exact i.here b _ a
   .exact i.here b o ((f b y).trans z)
end
theorem Lft.TL{P:RT}{w:SG}{l:cM Env}{e:Rq}{hd:c5 Rq}{H:Hp}{h h':Heap}(L:Lft l e hd h h')(j:YF P w H h)(ne:H e=cL)(g:∀T,hd=ax T->H T=cL)(i:∀b∈yP l,H b=cL):YF P w H h':=λb u q=>by
 have free:∀c v,H c=ax v->c≠e/\hd≠ax c/\c∉yP l:=λc v z=>⟨(λy=>by rw[y,ne]at z;cases z),(λy=>by rw[g c y]at z;cases z),(λy=>by rw[i c y]at z;cases z)⟩;refine(j b u q).WV (λc v k z=>?_) (λ_ z=>z) λ_ _ z=>z;rcases k with y|y
 .rw[y]at z⊢;obtain⟨f,d,a⟩:=free b u q;exact L.keep b v z f d a
 .obtain⟨f,d,a⟩:=free c _ y;exact L.keep c v z f d a
def sH(P:RT)(w:SG):C6:=λa H s E x b=>
 ∃e c dx a0 T H',x=.ref e/\s.heap.get? e=cL/\s.heap.get? T=cL/\G2 b.heap e c dx a0 (ax T)/\H' e=cL/\H' T=cL/\
  b.os=s.os/\AllBare b.gens/\Un (yP a) [] H H' s.heap b.heap/\YF P w H' b.heap/\E c dx H'
theorem Jq{P:RT}{w:SG}{K:td}{mg:Str->c5 Rf}{base:Heap}{N:cM Str}{h:Str}{a:VI}{f:Rq}{cd:Rf}{A:Sk}{outer:cM Env}{d:Ro}{u:Hp}{E:XK}
  {j:cM (Rq×Obj)} {v:L2.St} {H:Hp} {s:Ro} {e:Rq} {c t:Rf} {dx hd:c5 Rq} (I:L2.Inv (gl (sH P w) P w K mg base N h a f cd A outer d u E) j v H s)
  (F:G2 s.heap e c dx t hd) (r:d.heap.get? e=cL) (O:∀T,hd=ax T->d.heap.get? T=cL) (ne:H e=cL) (J:∀T,hd=ax T->H T=cL) (q:E c dx H):
  (gl (sH P w) P w K mg base N h a f cd A outer d u E).xe (.ref e) s:=by
 have U:=I.ok.frames;have S:=I.stack;refine Df (L:=d.heap.objs.size) U S rfl F λZ T p X L=>?_;have M:=L.TL I.TL ne J I.Y7;have R:H T=cL:=I.TL.fresh p;have l:∀b o,d.heap.get? b=ax o->b<d.heap.objs.size:=λb o z=>dt z;have g:∀b o,d.heap.get? b=ax o->b≠e/\hd≠ax b:=λb o z=>⟨(λy=>by rw[y,r]at z;cases z),(λy=>by rw[O b y]at z;cases z)⟩;have sz:=I.sz;refine⟨e,c,dx,t,T,H,rfl,r,ee (SH sz p),X,ne,R,I.os,I.bare,?_,M,q⟩;have B:=I.base;refine⟨λb o z n m _=>?_,λb o z n Q _=>?_,λb o z n _=>?_,λb o z _=>?_,B.Y1,B.YN,B.Y3⟩
 .have i:=B.keep b o z n m (λy=>nomatch y)
  refine L.keep b o i (g b o z).1 (g b o z).2 λy=>?_;rcases Rn.mp (I.YH b y)with y|y
  .have y:b=d.heap.objs.size:=y;exact a7 (l b o z) (by rw[y];exact T5 _)
  .exact m y
 .obtain⟨Y,i⟩:=B.slot b o z n Q (λy=>nomatch y);obtain⟨k,C⟩:=L.slot b _ i (g b o z).1 (g b o z).2;exact⟨k,C⟩
 .exact B.free b o z n (λy=>nomatch y)
 .obtain⟨G,i⟩:=B.there b o z (λy=>nomatch y);exact L.here b G i
theorem qE{P:RT}{w:SG}{K:td}{mg:Str->c5 Rf}{base:Heap}{N:cM Str}{d:Str}{a:VI}{f:Rq}{cd:Rf}{A:Sk}{outer:cM Env}{h:Ro}{m:Hp}{E:XK}:
  pI (sH P w) (gl (sH P w) P w K mg base N d a f cd A outer h m E) E:=by
 rintro j n H s x p I ⟨e,c,dx,t,T,u,rfl,le,lT,F,ne,nT,os,bare,un,TL,q⟩;have l:=I.adg (ch:=[]) os un TL bare (λb z=>nomatch z);have g:∀b,s.heap.get? b=cL->h.heap.get? b=cL:=λb z=>by
  cases y:h.heap.get? b with
  |none=>rfl
  |some o=>obtain⟨r,i⟩:=I.base.there b o y (λy=>nomatch y);rw[z]at i;cases i
 exact Jq l F (g e le) (λk z=>by cases z;exact g T lT) ne (λk z=>by cases z;exact nT) q
theorem Eg(x:UE P w H h a o):∃ob,h.get? a=ax ob:=by
 cases o with
 |lst xs=>obtain⟨_,_,_,_,e⟩:=x;exact⟨_,e⟩
 |tup xs=>obtain⟨_,_,_,ob,e,_⟩:=x;exact⟨ob,e⟩
 |dK W9=>obtain⟨_,_,_,_,o,_,_,e,_⟩:=x;exact⟨o,e⟩
 |dT W9=>obtain⟨_,_,_,_,o,_,_,e,_⟩:=x;exact⟨o,e⟩
 |set S n=>obtain⟨o,_,_,_,e,_⟩:=x;exact⟨o,e⟩
 |ins C dx fs=>obtain⟨_,_,_,e,_⟩:=x;exact⟨_,e⟩
 |own y=>exact x
 |xd fs=>obtain⟨_,⟨o,_,_,e,_⟩,_⟩:=x;exact⟨o,e⟩
 |rng lo hi=>obtain⟨_,_,_,e⟩:=x;exact⟨_,e⟩
 |frz ob u=>exact⟨ob,x.1⟩
 |tbl ps=>exact⟨_,x⟩
 |met f y=>exact⟨_,x⟩
 |ext φ=>exact x.2.1
 |exw φ=>exact x.2.1
theorem yd(k:YF P w H h)(n:h.get? a=cL):H a=cL:=by
 cases q:H a with
 |none=>rfl
 |some o=>obtain⟨b,z⟩:=Eg (k a o q);rw[n]at z;cases z
section
variable{M:aaw}{A:Sk}{E:Rf->Ro->Prop}{s:Ro}
theorem HL{base:Heap}{env:Env}{outer:cM Env}{L e:Rq}{c B:Rf}{dx hd:c5 Rq}{Q:Unit->Ro->Prop}
  (v:A.frames=ax (env::outer)) (u:s.heap.FunFrames base (env::outer)) (h:env.frame=ax L) (F:G2 s.heap e c dx B hd)
  (k:∀h' T,s.heap.objs.size<=T->G2 h' e c dx B (ax T)->Lft (env::outer) e hd s.heap h'->Q () {s with heap:=h'}):
  wpAny M A (noteFrame (.ref e) env) (λ_ s2=>wpAny M A (setFlight (.ref e) cL) Q E s2) E s:=by
 obtain⟨O,fs,q,J,I,d,w,r⟩:=F;subst J I;cases hd with
 |none=>have r:fs[1]?=ax .none:=r;unfold noteFrame;simp only[h];refine Ld (SJ q d r ?_);rw[ar (by decide)];exact mn v u h q d (S2.mp r).1 w k
 |some T=>
  obtain⟨r,G,P,C,g,dT,p⟩:=r;unfold noteFrame;simp only[h];refine Ld (SJ q d r ?_);rw[ak (show(Rf.ref T !=Rf.none)=OK from by simp)];refine Ld (SJ g dT p ?_);rw[ar (show¬((Rf.none==rawInt L)=OK)from by simp[rawInt])];refine Ld (UN g dT (S2.mp p).1 ?_);have f:∀b,b≠T->(s.heap.update T (Obj.mapFields (·.setIfInBounds 3 Rf.none))).get? b=s.heap.get? b:=λb ne=>d4 _ _ ne.symm;have a:=ea (Obj.mapFields (·.setIfInBounds 3 Rf.none)) g (en (ek dT _));have m:∀b o,s.heap.get? b=ax o->(∀vs,o.data≠.fields vs)->b≠T:=λb o z n y=>by rw[y,g]at z;cases z;exact n C dT
  refine mn v (u.of_keeps λb o z n=>⟨o,(f b (m b o z n)).trans z,rfl⟩) h ((f e G.symm).trans q) d (S2.mp r).1 w λh' K t N i=>k h' K (by rw[Heap.size_after_update]at t;exact t) N ⟨λb o z l j H=>?_,λb o z l j=>?_,λb o z=>?_⟩
  .exact i.keep b o ((f b λy=>j (by rw[y])).trans z) l (by simp) H
  .exact i.slot b o ((f b λy=>j (by rw[y])).trans z) l (by simp)
  .by_cases y:b=T
   .subst y;exact i.here b _ a
   .exact i.here b o ((f b y).trans z)
theorem LL{e T:Rq}{c j:Rf}{dx:c5 Rq}{Q:Unit->Ro->Prop}(F:G2 s.heap e c dx j (ax T))
  (k:∀h',G2 h' e c dx j (ax T)->(∀b,b≠T->h'.get? b=s.heap.get? b)->(∃o,h'.get? T=ax o)->Q () {s with heap:=h'}):wpAny M A (setFlight (.ref e) cL) Q E s:=by
 obtain⟨n,fs,q,t,p,d,u,r,i,w,v,h,dT,m⟩:=F;unfold setFlight;refine Ld (SJ q d r ?_);rw[ak (show(Rf.ref T !=Rf.none)=OK from by simp)];have g:=(S2.mp m).1;refine UN h dT g ?_;have l:∀b,b≠T->(s.heap.update T (Obj.mapFields (·.setIfInBounds 3 ((cL:c5 Rq).elim Rf.none λf=>rawInt f)))).get? b=s.heap.get? b:=λb ne=>d4 _ _ ne.symm;have a:=ea (Obj.mapFields (·.setIfInBounds 3 ((cL:c5 Rq).elim Rf.none λf=>rawInt f))) h (en (ek dT _));refine k _ ⟨n,fs,(l e i.symm).trans q,t,p,d,u,r,i,_,_,a,ek dT _,?_⟩ l ⟨_,a⟩;rw[Xy g];rfl
end
section
variable{P:RT}{w:SG}{K:td}{mg:Str->c5 Rf}{base:Heap}{N:cM Str}{qual:Str}{scope:VI}{f:Rq}{cd:Rf}{A:Sk}{outer:cM Env}{s0:Ro}{H0:Hp}{E:XK}{CX:C6}
  {σ:L2.St} {H:Hp} {s:Ro} {h':Heap} {X:Cx}
theorem yj(I:L2.Inv X [] σ H s)(S:Rq->Prop)(F:X.ex=[])(k:∀p∈X.pn,¬S p.1)(keep:∀b o,s.heap.get? b=ax o->¬S b->b∉yP X.stack->h'.get? b=ax o)
  (slot:∀b o,s.heap.get? b=ax o->¬S b->∃sl,h'.get? b=ax {o with slots:=sl}) (h:∀b o,s.heap.get? b=ax o->∃o',h'.get? b=ax o')
  (O:∀b,S b->X.s₀.heap.get? b=cL) (nL:¬S X.env.locals) (M:∀x c,X.env.cells.lookup x=ax c->¬S c) (L:∀b,S b->H b=cL):L2.Inv X [] σ H {s with heap:=h'}:=by
 have nS:∀b o,X.s₀.heap.get? b=ax o->¬S b:=λb o z y=>by rw[O b y]at z;cases z
 have g:∀b,b∉X.ex:=λb z=>by rw[F]at z;cases z
 have B:=I.base;have a:∀x c,X.env.cells.lookup x=ax c->∀v,s.heap.IsCell c v->h'.IsCell c v:=λx c z v ⟨o,C,G⟩=>by obtain⟨sl,q⟩:=slot c o C (M x c z);exact⟨_,q,G⟩
 refine⟨I.ok,I.os,I.bare,⟨λb o z n e _=>?_,λb o z n R _=>?_,λb o z n x=>B.free b o z n x,λb o z x=>?_,B.Y1,B.YN,B.Y3⟩,?_,λx c z=>?_,I.free,I.VG,λp t=>?_,λb u q=>?_,I.len⟩
 .have d:=B.keep b o z n e (g b)
  refine keep b o d (nS b o z) λy=>?_;rcases Rn.mp (I.YH b y)with y|y
  .rw[y]at z;exact a7 (dt z) (Nat.not_lt_of_le I.ok.above)
  .exact e y
 .obtain⟨sl,d⟩:=B.slot b o z n R (g b);obtain⟨j,J⟩:=slot b _ d (nS b o z);exact⟨j,J⟩
 .obtain⟨o',d⟩:=B.there b o z x;exact h b o' d
 .obtain⟨m,hn,Q⟩:=I.loc
  obtain⟨o,U,Y,C,G,r⟩:=hn;obtain⟨sl,q⟩:=slot _ o C nL;refine⟨m,⟨_,U,Y,q,G,r⟩,λi x v a1 a2 Z=>?_⟩;obtain⟨u,rv,l⟩:=Q i x v a1 a2 Z;refine⟨u,rv,?_⟩;rcases l with l|⟨kd,c,z,y⟩
  .exact .inl l
  .exact .inr ⟨kd,c,z,a x c z _ y⟩
 .obtain⟨v,y⟩:=I.cell x c z;exact⟨v,a x c z v y⟩
 .obtain⟨z,n,ne,e,dd⟩:=I.pin p t
  rw[SW]at t;refine⟨keep p.1 p.2 z (k p t) (λy=>?_),n,ne,e,dd⟩;rcases Rn.mp (I.YH _ y)with y|y
  .exact ne y
  .exact e y
 .have free:∀c v,H c=ax v->¬S c/\c∉yP X.stack:=λc v z=>⟨(λy=>by rw[L c y]at z;cases z),(λy=>by rw[I.Y7 c y]at z;cases z)⟩
  refine(I.TL b u q).WV (λc v T z=>?_) (λ_ z=>z) λ_ _ z=>z;rcases T with y|y
  .rw[y]at z⊢;exact keep b v z (free b u q).1 (free b u q).2
  .exact keep c v z (free c _ y).1 (free c _ y).2
end
section
variable{M:aaw}{A:Sk}{E:Rf->Ro->Prop}{h:Heap}{g:Array XF}{d:acz}{t:Nat}{os:aa5}
theorem Fu{C U e:Rq}{i:Obj}{w u v r:Str}{N1 N2:Rq}{Z j b2 a:cM Rf}{T d2:Bool}{q p:cM Str}{o n:cM Rf}{a1 a2:Bool}{Y X:c5 Bool}{m l:c5 Rq}{L K J I H G F B z y:c5 Rf}{c b:String}{Q:Bool->Ro->Prop}
  (S:h.get? C=ax (excClassObj w u C N1 Z j T q o a1 Y m L K J I H c)) (k:h.get? U=ax (excClassObj v r U N2 b2 a d2 p n a2 X l G F B z y b)) (O:h.get? e=ax i) (P:i.cls=.ref C)
  (R:a.contains (.type "BaseException")=OK) (hm:(Rf.ref C::j).contains (.ref U)=OK) (N:Q OK ⟨h,g,d,t,os⟩):wpAny M A (excMatches (.ref e) (.ref U)) Q E ⟨h,g,d,t,os⟩:=by
 have f:(Rf.ref U::a).contains (.type "BaseException")=OK:=by rw[Tx,R,Uy]
 have ft:=tc_notTuple;unfold excMatches
 repeat (first|(specialize Uj O ?_;rw[P])|specialize Uj k ?_|(specialize Vq k ?_;rw[f])|(specialize Vq S ?_;rw[hm])|wp_step)
 exact N
end
abbrev Cx.marked(X:Cx)(e:Rq):Cx:={X with A:=X.A.mark (ax (.ref e)),calm:=Rh,xe:=λ_ _=>False}
section
variable{X:Cx}{Z:L2.St}{H:Hp}{s:Ro}{h':Heap}{e:Rq}
theorem ui(I:L2.Inv X [] Z H s)(e:Rq):L2.Inv (Cx.marked X e) [] Z H s:=
 ⟨⟨I.ok.mod,I.ok.kind,I.ok.glob,I.ok.blt,I.ok.above,I.ok.inj,I.ok.has,I.ok.cab,(λz=>nomatch z),I.ok.frames,I.ok.stk,I.ok.exf,I.ok.bs,I.ok.bsz,I.ok.aaN,I.ok.aaO,I.ok.XX,I.ok.frf⟩,I.os,I.bare,I.base,I.loc,I.cell,I.free,I.VG,I.pin,I.TL,I.len⟩
theorem An(ok:X.Ok)(I:L2.Inv (Cx.marked X e) [] Z H s):L2.Inv X [] Z H s:=
 ⟨ok,I.os,I.bare,I.base,I.loc,I.cell,I.free,I.VG,I.pin,I.TL,I.len⟩
theorem C3(I:L2.Inv X [] Z H s){f:Obj}(g:∀p∈X.pn,p.1≠e)(q:s.heap.get? e=ax f)(ne:H e=cL)(j:X.s₀.heap.get? e=cL)(nL:e≠X.env.locals)(i:∀x c,X.env.cells.lookup x=ax c->c≠e):L2.Inv X [] Z (dg H e (.frz f (.own e))) s:=by
 have nS:∀b o,X.s₀.heap.get? b=ax o->b≠e:=λb o z y=>by rw[y,j]at z;cases z
 have a:∀b o,H b=ax o->b≠e:=λb o z y=>by rw[y,ne]at z;cases z
 have B:=I.base;refine⟨I.ok,I.os,I.bare,⟨B.keep,B.slot,λb o z n x=>?_,B.there,λb xs z=>?_,λb o u z=>?_,λb ps z=>?_⟩,I.loc,I.cell,?_,λx c z=>?_,λp h=>?_,λb u z=>?_,I.len⟩
 .rw[aM (nS b o z)];exact B.free b o z n x
 .have:=B.Y1 b xs z;rw[aM (a b _ this)];exact this
 .have:=B.YN b o u z;rw[aM (a b _ this)];exact this
 .obtain⟨d,y⟩:=B.Y3 b ps z;exact⟨d,by rw[aM (a b _ y)];exact y⟩
 .rw[aM nL.symm];exact I.free
 .rw[aM (i x c z)];exact I.VG x c z
 .obtain⟨z,n,r⟩:=I.pin p h;rw[SW]at h;exact⟨z,by rw[aM (g p h)];exact n,r⟩
 .by_cases y:b=e
  .subst y;rw[bz]at z;cases z;exact⟨q,f,q⟩
  .rw[aM y]at z;exact(I.TL b u z).WV (λ_ _ _ y=>y) (λc y=>by rw[aM (a c _ y)];exact y) λc xs y=>by rw[aM (a c _ y)];exact y
theorem DD{M:aaw}{A:Sk}{E:Rf->Ro->Prop}(I:L2.Inv X [] Z H s){n:Str}{i:Nat}{pos:Pos}{Q:Unit->Ro->Prop}(hN:X.N.Nodup)(hi:X.N[i]?=ax n)(hlo:X.env.kindOf n=ax .local)
  (k:∀s',L2.Inv X [] (Z.set i cL) H s'->Q () s'):wpAny M A (do bindName X.env n .none;unbindBehindTheSuite X.env n pos) Q E s:=by
 obtain⟨m,hn,hl⟩:=id I.loc;have afa:(X.env.scope.kind==.class||(X.env.scope.kind==.module&&X.env.locals !=X.env.globals))=Rh:=by rw[I.ok.kind];rfl
 refine wpAny_nameGoes_keeps hlo hn afa λh2 v hm S=>k _ ?_;have B:=I.base;have cne:=I.cne;have old:∀b o,X.s₀.heap.get? b=ax o->h2.get? b=s.heap.get? b:=λb o z=>S.2 b (RO (RM (dt z) I.ok.above));have iσ:i<Z.length:=by rw[I.len];exact(Rp.mp hi).1
 refine⟨I.ok,I.os,I.bare,⟨λb o z n nf x=>(old b o z).trans (B.keep b o z n nf x),λb o z n hf x=>?_,B.free,λb o z x=>?_,B.Y1,B.YN,B.Y3⟩,⟨_,hm,λj y v' a1 a2 a3=>?_⟩,λy c z=>?_,I.free,I.VG,λp hp=>?_,λb u z=>?_,by rw[UR];exact I.len⟩
 .obtain⟨sl,y⟩:=B.slot b o z n hf x;exact⟨sl,(old b o z).trans y⟩
 .obtain⟨o',y⟩:=B.there b o z x;exact⟨o',(old b o z).trans y⟩
 .by_cases hj:j=i
  .subst hj;rw[Xb iσ]at a2;cases a2
  .rw[XI (et hj)]at a2
   obtain⟨u',r',q⟩:=hl j y v' a1 a2 a3;refine⟨u',r',?_⟩;rcases q with⟨kd,z⟩|⟨kd,c,z,w⟩
   .refine .inl ⟨kd,?_⟩;have:y≠n:=λz=>hj (uC hN a1 (z▸hi));simp[this,z]
   .exact .inr ⟨kd,c,z,w.sameBut S (cne y c z)⟩
 .obtain⟨w,y'⟩:=I.cell y c z;exact⟨w,y'.sameBut S (cne y c z)⟩
 .obtain⟨z,n,ne,r⟩:=I.pin p hp;exact⟨(S.2 p.1 ne).trans z,n,ne,r⟩
 .have free:∀c u,H c=ax u->c≠X.env.locals:=λc u z y=>by rw[y,I.free]at z;cases z
  refine(I.TL b u z).WV (λc w hc y=>(S.2 c ?_).trans y) (λ_ y=>y) λ_ _ y=>y;rcases hc with y'|y'
  .rw[y'];exact free b u z
  .exact free c _ y'
end
def nz(K:td)(C:Rq)(m:cM Rf):Prop:=∃nm q N bs hd sn sub ab col dd k0 k1 k2 k3 k5 id,K.lookup C=ax (excClassObj nm q C N bs m hd sn sub ab col dd k0 k1 k2 k3 k5 id)
structure Apart(X:Cx)(a:Rq):Prop where
 n0:X.s₀.heap.get? a=cL
 nL:a≠X.env.locals
 nC:∀y c,X.env.cells.lookup y=ax c->c≠a
 nP:∀p∈X.pn,p.1≠a
def EI(X:Cx)(E2:XK):Rf->Ro->Prop:=λx a=>∃σ' H1 e c dx a0 T,x=.ref e/\L2.Inv X [] σ' H1 a/\G2 a.heap e c dx a0 (ax T)/\Apart X e/\Apart X T/\H1 e=cL/\H1 T=cL/\E2 c dx H1
theorem uQ(I:L2.Inv X pins σ H s)(d:X.ex=[])(n:s.heap.get? a=cL):Apart X a:=by
 have ne:∀b o,s.heap.get? b=ax o->b≠a:=λb o z y=>by rw[y,n]at z;cases z
 refine⟨?_,?_,λy c z=>?_,λp g=>?_⟩
 .cases z:X.s₀.heap.get? a with
  |none=>rfl
  |some o=>obtain⟨f,y⟩:=I.base.there a o z (by rw[d];simp);exact a7 rfl (ne a f y)
 .obtain⟨m,⟨o,_,_,z,_⟩,_⟩:=I.loc;exact(ne _ o z).symm
 .obtain⟨v,o,e,_⟩:=I.cell y c z;exact ne c o e
 .exact ne _ _ (I.pin p (T6 _ g)).1
theorem mF{X:Cx}(a:X.ex=[]):pI (sH X.prog X.w) (X.X5 (EI X E2)) E2:=by rintro f g H s x k I ⟨e,c,dx,h,T,j,rfl,le,lT,F,ne,nT,os,bare,un,TL,q⟩;have d:=I.Wa;have i:=d.adg os un TL bare (λb z=>nomatch z);exact⟨g,j,e,c,dx,h,T,rfl,i.Yl (λp z=>nomatch z),F,uQ d a le,uQ d a lT,ne,nT,q⟩
def Fz(E2:XK)(i:Nat)(h g:TS):TS:=λD f H=>h D f H/\∀c dx H1,E2 c dx H1->∀(a:L2.St) (e:Rq) (b:Obj),a.length=f.length->H1 e=cL->b.cls=c->b.dict=dx->Zi b=OK->
 g {nx:=λd j=>D.nx (d.set i cL) j,rt:=λ_ _=>False} (a.set i (ax (.ref e))) (dg H1 e (.frz b (.own e)))
abbrev Cx.pinned(X:Cx)(l:cM (Rq×Obj)):Cx:={X with pn:=l}
theorem IB(I:L2.Inv X pins σ H s):L2.Inv (Cx.pinned X (X.pn++pins)) [] σ H s:=
 ⟨⟨I.ok.mod,I.ok.kind,I.ok.glob,I.ok.blt,I.ok.above,I.ok.inj,I.ok.has,I.ok.cab,I.ok.hd,I.ok.frames,I.ok.stk,I.ok.exf,I.ok.bs,I.ok.bsz,I.ok.aaN,I.ok.aaO,I.ok.XX,I.ok.frf⟩,I.os,I.bare,I.base,I.loc,I.cell,I.free,I.VG,(λp a=>I.pin p (by rw[SW]at a;exact a)),I.TL,I.len⟩
theorem lP(ok:X.Ok)(I:L2.Inv (Cx.pinned X (X.pn++pins)) [] σ H s):L2.Inv X pins σ H s:=
 ⟨ok,I.os,I.bare,I.base,I.loc,I.cell,I.free,I.VG,(λp a=>I.pin p (by rw[SW];exact a)),I.TL,I.len⟩
theorem xl
  (hex:X.ex=[]) (hN:X.N.Nodup) (YA:X.stack=X.env::X.outer) (hfr:X.env.frame=ax X.env.locals) (hg:Gl X x) (hm:X.mg x=ax (.ref U)) (hU:nz X.K U mU) (hbU:mU.contains (.type "BaseException")=OK)
  (hi:X.N[i]?=ax n) (hlo:X.env.kindOf n=ax .local) (hb:∀l,ZJ ((Cx.pinned X l).X5 (EI (Cx.pinned X l) E2)) body tb) (hs:∀l e,ZJ (Cx.marked (Cx.pinned X l) e) (b0::ahC) ts)
  (hE:∀c dx H,E2 c dx H->∃C m,c=.ref C/\nz X.K C m/\(Rf.ref C::m).contains (.ref U)=OK) (hdb:(x==("__debug__":Str))=Rh:=by decide):
  PS X (.Try body [.ExceptHandler (ax (.Name x np)) (ax n) (b0::ahC) aqC] [] [] pos) (Fz E2 i tb ts):=by
 intro pins s σ H D I ⟨h,hc⟩;have IY:=IB I;have ae1:=hex;refine wpAny_Try_except (wpAny_mono (hb (X.pn++pins) [] s σ H D (IY.X5 _) h) (λf s1 hf=>?_) (λv s1 hx=>?_))
 .have hf:=SP.Wa hf
  cases f with
  |next=>obtain⟨σ1,H1,I1,q1⟩:=hf;exact X9 ⟨σ1,H1,lP I.ok I1,q1⟩
  |brk=>obtain⟨σ1,H1,I1,q1⟩:=hf;exact⟨σ1,H1,lP I.ok I1,q1⟩
  |cont=>obtain⟨σ1,H1,I1,q1⟩:=hf;exact⟨σ1,H1,lP I.ok I1,q1⟩
  |ret u=>obtain⟨v,σ1,H1,I1,r,q1⟩:=hf;exact⟨v,σ1,H1,lP I.ok I1,r,q1⟩
 .obtain⟨σ1,H1,e,c,dx,a0,T,rfl,I1,F,aE,aT,ne,nT,q⟩:=hx
  obtain⟨C,mC,hcC,⟨n1,q1,N1,b1,d1,t1,u1,a1,l1,x1,i0,i1,i2,i3,i5,id1,kC⟩,hup⟩:=hE c dx H1 q;obtain⟨n2,q2,N2,b2,d2,t2,u2,a2,l2,x2,j0,j1,j2,j3,j5,id2,kU⟩:=hU;have fr:X.A.frames=ax (X.env::X.outer):=by rw[<-YA];exact I.ok.frames
  have ff:s1.heap.FunFrames X.base (X.env::X.outer):=by rw[<-YA];exact I1.stack
  refine HL fr ff hfr F λh2 T2 z2 F2 L2'=>?_
  have I2:=yj I1 (λb=>b=e\/b=T) ae1 (λp hp y=>y.elim (aE.nP p hp) (aT.nP p hp))
   (λb o z nS nf=>L2'.keep b o z (λy=>nS (.inl y)) (λy=>nS (.inr (R9 y).symm)) (by rw[<-YA];exact nf))
   (λb o z nS=>L2'.slot b o z (λy=>nS (.inl y)) (λy=>nS (.inr (R9 y).symm))) L2'.here
   (λb y=>y.elim (λy=>by rw[y];exact aE.n0) (λy=>by rw[y];exact aT.n0)) (λy=>y.elim (λy=>aE.nL y.symm) (λy=>aT.nL y.symm))
   (λy k z w=>w.elim (aE.nC y k z) (aT.nC y k z)) (λb y=>y.elim (λy=>by rw[y];exact ne) (λy=>by rw[y];exact nT))
  have aT2:=uQ I1 ae1 (ee z2);have nT2:=I1.TL.fresh z2;refine wpAny_handleBy_cons (codeAny_handlers_test (qQ (ui I2 e) hg hm ?_ hdb)) (by nofun);have F2':=F2;obtain⟨ob,fs,qe,cE,dE,dF,_⟩:=F2';refine Fu (I2.YE _ _ kC) (I2.YE _ _ kU) qe (cE.trans hcC) hbU hup ?_;refine codeAny_handlers_suite_as (LL F2 λh3 F3 Y8 hT3=>?_);have neT:e≠T2:=λy=>by obtain⟨_,_,_,_,_,_,_,_,w,_⟩:=F2;exact w y.symm
  have I3:=yj I2 (λb=>b=T2) ae1 (λp hp y=>aT2.nP p hp y)
   (λb o z nS _=>(Y8 b nS).trans z) (λb o z nS=>⟨o.slots,(Y8 b nS).trans z⟩)
   (λb o z=>(Classical.em (b=T2)).elim (λy=>by rw[y];exact hT3) (λy=>⟨o,(Y8 b y).trans z⟩)) (λb y=>by rw[y];exact aT2.n0) (λy=>aT2.nL y.symm) (λy k z w=>aT2.nC y k z w) (λb y=>by rw[y];exact nT2)
  have I4:=C3 I3 aE.nP ((Y8 e neT).trans qe) ne aE.n0 aE.nL aE.nC;refine tS (X:=Cx.marked (Cx.pinned X (X.pn++pins)) e) (ui I4 e) hN hi (.inl hlo) (v:=.ref e) rfl (λs4 I5=>?_) (.inr hlo);have w:=hc c dx H1 q σ1 e ob (I1.len.trans I.len.symm) ne cE dE (by unfold Zi;rw[dF]);refine wpAny_mono (hs (X.pn++pins) e [] s4 _ _ _ I5 w) (λf s5 hf=>?_) (λy s5 z=>z.elim);cases f with
  |next=>obtain⟨σ2,H2,I6,q6⟩:=hf;exact DD (An IY.ok I6) hN hi hlo λs6 I7=>⟨_,_,lP I.ok I7,q6⟩
  |brk=>obtain⟨σ2,H2,I6,q6⟩:=hf;exact q6.elim
  |cont=>obtain⟨σ2,H2,I6,q6⟩:=hf;exact q6.elim
  |ret u=>obtain⟨v,σ2,H2,I6,r,q6⟩:=hf;exact q6.elim
end L4
namespace L4
open PySem PySem.Spec L2 L3
theorem Ox{P:RT}{w:SG}{K:td}{mg:Str->c5 Rf}{base:Heap}{x a:Str}{st:Tq}{f:Rq}{i:S5}{N ps:cM Str}{k n m:Nat}{g:FS}{FF:FN}(F:Vf K x a st f i)(S:Tz N ps (aI st))(hn:ps.length=n)(hm:N.length=m)(y:FF=dI m g)
  (I:∀(b:Rf) (A:Sk) (outer:cM Env) (s:Ro) (H:Hp) (E:XK),U5 k (A.deeper (Se a (aI st) s.heap.objs.size f b))->
   ∃t,ZJ (gl (sH P w) P w K mg base N a (aI st) f b A outer s H E) (aC st) t/\SO K E t g):FnOk P w K mg base (sH P w) (k+1) f i ps (iA K n FF):=by
 subst y hm;obtain⟨O,M,kV,G,L,U,b,ct,l,rfl,o,d⟩:=F.ex;refine JJ o d S (λvs H Q E h=>h.1.trans hn.symm) λA outer s H vs Q E u c=>?_;obtain⟨t,p,r⟩:=I b A outer s H E u;obtain⟨T,B,ds,v,C,h⟩:=c;refine⟨t,p,r B H B _ H _ _ (yo v C) (WR.imp (WR.bind h) λz q=>?_)⟩;cases z with
 |rt rv=>exact q
 |nx ρ=>exact λX j J e R=>q .Uo J R.same .Uo
 |bk ρ=>exact q.elim
 |ct ρ=>exact q.elim
def rH(P:RT)(w:SG)(K:td)(mg:Str->c5 Rf)(base:Heap)(k:Nat)(x:Str)(ps:cM Str)(n:Nat)(F:FN):Prop:=
 ∃f fd,FnOk P w K mg base (sH P w) k f fd ps (iA K n F)/\Binds K fd ps []/\UA K (.ref f)=OK/\mg x=ax (.ref f)
theorem qD{X:Cx}{k j n:Nat}{x:Str}{ps:cM Str}{F:FN}{E:XK}{e:SI}{es:cM SI}{t:TA}{p a:Pos}(C:rH X.prog X.w X.K X.mg X.base k x ps n F)(i:pI (sH X.prog X.w) X E)(l:U5 j X.A)(ha:PA X (e::es) t)(d:k<=j:=by decide)(o:Gl X x:=by rfl)
  (g:(x==("__debug__":Str))=Rh:=by decide) (q:R0 (e::es) X.env=(Rh,eval e X.env)::R0 es X.env:=by rfl) (c:(backTo a (R0 es X.env)).any (·.1)=Rh:=by rfl):
  PE X (.Call (.Name x p) (e::es) [] a) (tP (iA X.K n F) [] E t):=by
 obtain⟨f,r,F,b,h,m⟩:=C;exact B2 F (l.mono d) o m h b .nil i ha g q c
end L4
namespace L4
open PySem PySem.Spec PySem.W PyProof.Rows L2 L3
section
variable{prog:RT}{w:SG}{A:Sk}{E:Rf->Ro->Prop}{h:Heap}{g:Array XF}{d:acz}{t:Nat}{os:aa5}{a C:Rq}{o:Obj}{K:td}
  {n1 q1:Str} {N1:Rq} {b1 Z:cM Rf} {d1:Bool} {s1:cM Str} {u1:cM Rf} {a1:Bool} {c1:c5 Bool} {x1:c5 Rq} {i0 i1 i2 i3 i5:c5 Rf} {Y:String}
theorem tV{M:aaw}{b:Rf}{Q:Unit->Ro->Prop}(i:h.get? C=ax (excClassObj n1 q1 C N1 b1 Z d1 s1 u1 a1 c1 x1 i0 i1 i2 i3 i5 Y))(f:Z.contains (.type "BaseException")=OK)
  (c:h.get? a=ax o) (e:o.cls=.ref C) (k:Q () ⟨h,g,d,t,os⟩):wpAny M A (checkBuiltinCall "BaseException.__getattribute__" ⟨[.ref a,b],[]⟩) Q E ⟨h,g,d,t,os⟩:=by
 have m:builtinKind "BaseException.__getattribute__"=ax .slot:=by left
 have l:splitId "BaseException.__getattribute__"=ax ("BaseException","__getattribute__"):=by left
 have j:(Rf.ref C::Z).contains (.type "BaseException")=OK:=by rw[Tx,f,Uy]
 have n:=F.args_bexc_ga (.ref a) b;simp only[checkBuiltinCall,m,l];refine Ld ?_;unfold isInstance
 repeat (first|(specialize Uj c ?_;rw[e])|(specialize Vq i ?_;rw[j])|wp_step)
 exact k
theorem AF(X:K.In h)(I:Vr h a o C od)(b:findIn K (.ref C) "__class__"=ax (ax (.builtin "object.__class__")))(hm:mroIn K C (.type "object")=ax OK)
  (k:Q (.done (.ret (.ref C))) ⟨h,g,d,t,os⟩):wpAny (model prog w) A (R8.«object.__getattribute__» ⟨[.ref a,.str "__class__" tk],[]⟩) Q E ⟨h,g,d,t,os⟩:=by
 have l:=F.typeOf_object_class;have j:=F.typeOf_object_class;have i:=F.slot_gs_get.lookup;have f:=F.slot_gs_set.lookup;have e:=I.type (M:=model prog w);have c:=looks_findIn (M:=model prog w) X b
 repeat (any_goals (first|assumption|specialize e.at ?_|specialize c.at ?_|wp_step))
 refine class_get X I hm ?_
 repeat (any_goals (first|assumption|wp_step))
theorem DI(X:K.In h)(I:Vr h a o C od)(j:h.get? C=ax (excClassObj n1 q1 C N1 b1 Z d1 s1 u1 a1 c1 x1 i0 i1 i2 i3 i5 Y))(i:Z.contains (.type "BaseException")=OK)
  (f:findIn K (.ref C) "__getattribute__"=ax (ax (.builtin "BaseException.__getattribute__"))) (e:findIn K (.ref C) "__getattr__"=ax cL) (c:findIn K (.ref C) "__class__"=ax (ax (.builtin "object.__class__"))) (hm:mroIn K C (.type "object")=ax OK)
  (k:Q (ax (.ref C)) ⟨h,g,d,t+1,os⟩):wpAny (model prog w) A (getAttr? (.ref a) "__class__") Q E ⟨h,g,d,t,os⟩:=by
 have q:=US.ga.bind (.ref a);have b:(Rf.builtin "BaseException.__getattribute__"==Rf.builtin "object.__getattribute__")=Rh:=by left
 have p:(onTheHeap (Rf.ref C)&&Rf.builtin "BaseException.__getattribute__"==Rf.builtin "object.__getattribute__")=Rh:=by rw[b];rfl
 have n:=I.type (M:=model prog w);have m:=looks_findIn (M:=model prog w) X f;have l:=looks_findIn (M:=model prog w) X e;unfold getAttr? getAttrBy? getAttrBy
 repeat (any_goals (first|assumption|specialize n.at ?_|specialize m.at ?_|specialize l.at ?_|wp_step))
 refine TK US.ga.plain F.entry_bexc_ga (tV j i I.at_ I.cls (AF X I c hm ?_))
 repeat (any_goals (first|assumption|wp_step))
structure VT(K:td)(C:Rq)(m:cM Rf):Prop where
 cl:nz K C m
 be:m.contains (.type "BaseException")=OK
 ga:findIn K (.ref C) "__getattribute__"=ax (ax (.builtin "BaseException.__getattribute__"))
 gt:findIn K (.ref C) "__getattr__"=ax cL
 cs:findIn K (.ref C) "__class__"=ax (ax (.builtin "object.__class__"))
 ob:mroIn K C (.type "object")=ax OK
theorem yD(L:VT K C m):KitX K (.ref a) (.ref C) (λh=>Vr h a o C od) where
 ty:=λ_ _ _ I=>I.type
 it:=λ_ _ X _=>by obtain⟨_,_,_,_,_,_,_,_,_,_,_,_,_,_,_,_,b⟩:=L.cl;intro y u v i k q;unfold isType loadHead;exact Ld (abh (k _ _ (X _ _ b)) (Ru q))
 ne:=λh tp dd r n f X c=>by obtain⟨_,_,_,_,_,_,_,_,_,_,_,_,_,_,_,_,b⟩:=L.cl;refine Wz.mpr λq=>?_;obtain rfl:=Rf.ref.inj (beq_iff_eq.mp q);have z:=e9 Obj.cls (R9 ((X _ _ b).symm.trans c));exact a7 (Rf.type.inj z) (by decide)
 ca:=λ{_ _ _ _ _ s} X I k=>by obtain⟨_,_,_,_,_,_,_,_,_,_,_,_,_,_,_,_,b⟩:=L.cl;obtain⟨l,p,dd,e,j⟩:=s;exact DI X I (X _ _ b) L.be L.ga L.gt L.cs L.ob k
end
def Ky(K:td)(c:Rf):V->Hp->VK->Prop:=λx H Q=>∃e ob C m b,x=.ref e/\H e=ax (.frz ob (.own e))/\ob.cls=.ref C/\(∀p,ob.dict=ax p->∃fs,H p=ax (.xd fs))/\notCls ob=OK/\VT K C m/\kitOne K (.ref C) c=ax b/\Q (.bl b) H
theorem EG(I:L2.Inv X pins σ H s)(i:RelV x u)(h:Ky X.K c x H Q):
  wpAny (model X.prog X.w) A (call (.builtin "isinstance") [u,c]) (EP X pins σ Q) E s:=by
 obtain⟨e,k,C,m,b,rfl,n,f,o,hn,L,d,q⟩:=h;obtain rfl:=i;have z:=(I.TL e _ n).1;cases e1:k.dict with
 |none=>exact kia_one (yD (od:=cL) L) I.YE ⟨z,f,hn,by rw[e1];trivial⟩ d (λy=>nomatch y) λa=>⟨.bl b,H,I.tok a,rfl,q⟩
 |some p=>obtain⟨fs,l⟩:=o p e1;obtain⟨j,g⟩:=Eg (I.TL p _ l);exact kia_one (yD (od:=ax j) L) I.YE ⟨z,f,hn,by rw[e1];exact g⟩ d (λy=>nomatch y) λa=>⟨.bl b,H,I.tok a,rfl,q⟩
end L4
namespace L4
open PySem PySem.SeqAt PySem.Spec PySem.W PyProof.Rows L2 L3
theorem qI:∀{bs:cM Bool} {a:cM Rf},Vals (bs.map V.bl) a->a=bs.map Rf.bool
 |[],_,.nil=>rfl
 |b::r,_,.cons h t=>by have h:=h;rw[h,qI t];rfl
theorem IX(k:Bool){bs:cM Bool}(h:y∈bs.map Rf.bool)(A:Sk)(s:Ro):EqAt A s y (.bool k) (isBoolOf k y):=by obtain⟨b,_,rfl⟩:=RF.mp h;exact EqAt.bool_bool b k
theorem Gv(k:Bool)(bs:cM Bool):(bs.map Rf.bool).countP (isBoolOf k)=bs.count k:=by rw[List.countP_map];rfl
section
variable{X:Cx}
def Os:V->cM V->Hp->VK->Prop:=λx xs H Q=>∃(l:Rq) (bs:cM Bool) (k:Bool),x=.ref l/\H l=ax (.lst (bs.map V.bl))/\xs=[.bl k]/\Q (.int (bs.count k:Nat)) H
theorem Dm:Kb X "list.count" Os:=by rintro b s g H x xs v d Q I e a ⟨l,bs,k,rfl,hl,rfl,q⟩;obtain rfl:=e;obtain rfl:d=[.bool k]:=qI (bs:=[k]) a;obtain⟨z,h,n,r,c⟩:=(show UE X.prog X.w H s.heap l (.lst (bs.map V.bl))from I.TL l _ hl);obtain rfl:=qI r;refine Uk ZX ⟨_,c,rfl⟩ PySem.F.entry_list_count (PySem.F.args_list_count_2 _ _) (list_countAt l (bs.map Rf.bool).toArray n cL #[] (.bool k) (isBoolOf k)) ⟨c,λy f=>IX k (by simpa using f) _ _,?_⟩;rw[show(bs.map Rf.bool).toArray.toList=bs.map Rf.bool from rfl,Gv];exact⟨.int (bs.count k:Nat),H,I.tok _,⟨_,rfl⟩,q⟩
def Oe:V->cM V->Hp->VK->Prop:=λx xs H Q=>∃(l:Rq) (bs:cM Bool) (k:Bool) (j:Nat),x=.ref l/\H l=ax (.lst (bs.map V.bl))/\xs=[.bl k]/\bs[j]?=ax k/\(∀m,m<j->bs[m]?≠ax k)/\j<1000/\Q (.int (j:Nat)) H
theorem Dk:Kb X "list.index" Oe:=by
 rintro c s o H x xs v e Q I f a ⟨l,bs,k,j,rfl,hl,rfl,hj,hno,hs,q⟩;obtain rfl:=f;obtain rfl:e=[.bool k]:=qI (bs:=[k]) a;obtain⟨z,p,n,r,d⟩:=(show UE X.prog X.w H s.heap l (.lst (bs.map V.bl))from I.TL l _ hl);obtain rfl:=qI r;obtain⟨g,h⟩:=Rp.mp hj;refine Uk ZY ⟨_,d,rfl⟩ PySem.F.entry_list_index (PySem.F.args_list_index_2 _ _) (list_indexAt l (bs.map Rf.bool).toArray n cL #[] (.bool k) (isBoolOf k) j (by simpa using g) (by ext) ?_ λm hm lt=>?_) ⟨d,λy i=>IX k (by simpa using i) _ _,?_⟩
 .simp[isBoolOf,h]
 .have b:m<bs.length:=by simpa using hm
  have:=hno m lt;rw[Rj b]at this;simp only[List.getElem_toArray,List.getElem_map,isBoolOf];exact beq_eq_false_iff_ne.mpr λz=>this (by rw[z])
 .exact⟨.int (j:Nat),H,I.tok _,⟨_,rfl⟩,q⟩
end
end L4
namespace L4
open PySem PySem.Spec PySem.W PyProof.Rows L2 L3
def GH(K:td):cM V->Hp->VK->Prop:=λxs H Q=>∃x,(∃U:Rq,xs=[x,.ref U]/\Ky K (.ref U) x H Q)\/∃n,xs=[x,.ty n]/\Ky K (.type n) x H Q
theorem gU:U4 X (.builtin "isinstance") (GH X.K):=by
 rintro c s e H xs f Q I r ⟨x,h⟩;rcases h with⟨U,rfl,h⟩|⟨n,rfl,h⟩
 .obtain⟨u,d,rfl,a,b⟩:=uW r;obtain rfl:=b;exact EG I a h
 .obtain⟨u,d,rfl,a,b⟩:=uW r;obtain rfl:=b;exact EG I a h
end L4
namespace HT
open PySem PySem.Spec PyProof.Rows
section
variable{prog:RT}{w:SG}{A:Sk}{E:Rf->Ro->Prop}{s:Ro}
theorem getItem_tuple_all{t c:Rq}{a:Array Rf}{j i:Rf}{lo hi:c5 Int}{Q:Rf->Ro->Prop}(b:IsTup s.heap t a)(hs:s.heap.IsSliceOf c j i .none)(pl:Ys j lo)(l:Ys i hi)
  (k:sIx a.size 0 lo=0/\sIx a.size a.size hi=a.size) (h:Q (.ref t) s):wpAny (model prog w) A (getItem (.ref t) (.ref c)) Q E s:=by
 obtain⟨n,d,e,o⟩:=id hs;have f:s.TypeIs (.ref c) "slice":=⟨n,d,e⟩;unfold getItem
 try specialize U1 ?_
 first|refine Ld (Ru ?_)|skip
 refine Ld (aff b.typeIs (by decide) ?_);refine Ld (Uh (name:=Str.ofString "__getitem__") b.typeIs S7
  (UL S7 b.typeIs entry_tuple_getitem ?_ (args_tuple_getitem _ _)))
 show wpAny _ _ (R8.Tuple.tupleItemsOf (.ref t)>>=_) _ _ s;refine Ld (tupleItemsOf_ b ?_);refine Ld (ZL f ?_);rw[ak (by decide)];refine Ld (lG hs pl l ?_);have g:((((sIx a.size 0 lo:Nat):Int)==0&&(1:Int)==1&&(sIx a.size a.size hi - sIx a.size 0 lo)==a.size)=OK):=by rw[k.1,k.2];simp
 show wpAny _ _ (if(((sIx a.size 0 lo:Nat):Int)==0&&(1:Int)==1&&(sIx a.size a.size hi - sIx a.size 0 lo)==a.size)=OK then _ else _) _ _ s;rw[ak g];refine Ld (m:=R8.Tuple.tupleIsExact _) ?_;unfold R8.Tuple.tupleIsExact;refine Ld (ZL b.typeIs (Ru ?_));rw[ak (by decide)];refine Ld (abf ?_);exact Ru ⟨_,rfl,Ru h⟩
end
end HT
namespace L3
open PySem PySem.Spec PyProof.Rows L2
def N9(K:td):V->c5 Int->c5 Int->Hp->VK->Prop:=λx lo hi H Q=>∃(a:Rq) (xs:cM V),x=.ref a/\We K H a xs/\(HT.sIx xs.length 0 lo=0/\HT.sIx xs.length xs.length hi=xs.length)/\Q (.ref a) H
theorem GC{X:Cx}:LZ X (N9 X.K):=by
 intro c s l H x v n m lo hi o Q I e j pl f h;obtain⟨a,xs,rfl,g,i,q⟩:=h;cases e;obtain⟨k,r,d,p⟩:=I.tuple g;have b:k.toArray.size=xs.length:=by rw[RB];exact r.length.symm
 refine⟨"tuple",_,S7.lookup,d.typeIs,?_⟩;exact HT.getItem_tuple_all d j pl f (by rw[b];exact i) ⟨.ref a,H,I,rfl,q⟩
def Oa(K:td):V->c5 Int->c5 Int->Hp->VK->Prop:=λx lo hi H Q=>Kx K x lo hi H Q\/N9 K x lo hi H Q
theorem tI{X:Cx}:LZ X (Oa X.K):=by
 intro a s b H x v d c lo hi e Q I f h pl g q;rcases q with q|q
 .exact nq a s b H x v d c lo hi e Q I f h pl g q
 .exact GC a s b H x v d c lo hi e Q I f h pl g q
def Jj:D->c5 Int->c5 Int->c5 RV
 |.list ds,lo,hi=>ax (.ow (kS ds lo hi))
 |.tuple ds,lo,hi=>ax (.fz (.tuple (kS ds lo hi)))
 |_,_,_=>cL
theorem Iq{ds:cM D}{lo hi:c5 Int}(h:HT.sIx ds.length 0 lo=0/\HT.sIx ds.length ds.length hi=ds.length):kS ds lo hi=ds:=by unfold kS;rw[h.1,h.2,ZZ,af3,UD]
theorem BV{K:td}:ON K (Oa K) Jj:=by
 intro O H x lo hi dx rv Q n b e q;cases dx with
 |list ds=>exact .inl (km O H x lo hi _ rv Q n b e q)
 |tuple ds=>
  cases e;by_cases c:HT.sIx ds.length 0 lo=0/\HT.sIx ds.length ds.length hi=ds.length
  .obtain⟨a,xs,rfl,f,d⟩:=C5 b;rw[Iq c]at q;refine .inr ⟨a,xs,rfl,f.1,by rw[d.length];exact c,q.at (.tup f d)⟩
  .refine .inl (km O H x lo hi (.tuple ds) _ Q n b ?_ q)
   show(if gK ds.length lo hi=OK then cL else ax (RV.fz (.tuple (kS ds lo hi))))=_;have z:gK ds.length lo hi=Rh:=by unfold gK;exact a5 c
   rw[z,ar Rg]
 |_=>cases e
section
variable{K:td}{E:XK}
end
end L3
namespace L9
open PySem PySem.Spec PyProof.Rows
section
variable{M:aaw}{A:Sk}{E:Rf->Ro->Prop}{env:Env}
variable{nm q:Str}{C N:Rq}{bs Z:cM Rf}{hdct:Bool}{sn:cM Str}{sub:cM Rf}{ab:Bool}{col:c5 Bool}{dd:c5 Rq}{k0 k1 k2 k3 k5:c5 Rf}{newId:String}
theorem lz(o:Z.contains (.type "BaseException")=OK)(l:A.handled=cL)
  (h:wpAny M A x (λv s₁=>∃e ob,v=.ref e/\s₁.heap.get? C=ax (excClassObj nm q C N bs Z hdct sn sub ab col dd k0 k1 k2 k3 k5 newId)/\s₁.heap.get? e=ax ob/\ob.cls=.ref C/\(∃fs,ob.data=.fields fs/\fs[1]?=ax Rf.none)/\E (.ref e) s₁) E s):
  wpAny M A (raiseStmt env (ax x) cL) Q E s:=by
 have c:(Rf.ref C::Z).contains (.type "BaseException")=OK:=by rw[Tx,o,Uy]
 unfold raiseStmt;refine Ld (wpAny_mono h (λv s₁ a=>?_) λ_ _ x=>x);obtain⟨e,ob,rfl,j,m,i,⟨fs,f,b⟩,n⟩:=a;obtain⟨u,t,k⟩:=ob;dsimp only at i f;subst i f;obtain⟨w,g,d,p,r⟩:=s₁
 repeat (first|specialize Uj m ?_|specialize Uj j ?_|(specialize Vq j ?_;rw[c])|wp_step)
 rw[b]
 repeat wp_step
 exact wpAny_raiseNew_none l n
end
section
variable{prog:RT}{w:SG}{A:Sk}{E:Rf->Ro->Prop}{h:Heap}{g:Array XF}{d:acz}{t:Nat}{os:aa5}
variable{nm q:Str}{C N:Rq}{bs S Z:cM Rf}{hdct:Bool}{sn:cM Str}{sub:cM Rf}{ab:Bool}{col:c5 Bool}{dd:c5 Rq}{k0 k1 k2 k3 k5:c5 Rf}{B R newId Y V9 X:String}{U:cM Rf}
theorem sT(u:VO R newId X U)(i:Z.contains (.type R)=OK)(F:VO B Y V9 Z)(T:afi h Z S)
  (f:h.get? C=ax (excClassObj nm q C N bs S hdct sn sub ab col dd k0 k1 k2 k3 k5 newId)) (hn:h.Ns N mN) (hi:mN "__init__"=ax (.ref fI)) (m:h.get? fI=ax oI) (l:oI.cls=.type "function")
  (y:∀h' e,Heap.MadeExcOf h h' e (.ref C) rest->wpAny (model prog w) A (call (.ref fI) (.ref e::rest)) (λr s'=>r=.none/\Q (.done (.ret (.ref e))) s') E ⟨h',g,d,t,os⟩) (hrest:rest.length<=RL):
  wpAny (model prog w) A (R8.«type.__call__» ⟨.ref C::rest,[]⟩) Q E ⟨h,g,d,t,os⟩:=by
 repeat (first|specialize Uj f ?_|specialize wpAny_madeBy_exc f ?_|wp_step)
 refine codeAny_call_builtin_code (aah.quiet_builtin _ u.quiet) (wpAny_check_new_subU u i T f ?_);refine codeAny_exc_new_subU u i F T f ?_ hrest
 have a:=c6 {cls:=.ref C,data:=.fields #[.ref h.objs.size,.none,.none,.none,.bool Rh,.none]}
  (c6 {cls:=.type "tuple",data:=.seq rest.toArray} f)
 have p:=c6 {cls:=.ref C,data:=.fields #[.ref h.objs.size,.none,.none,.none,.bool Rh,.none]}
  (c6 {cls:=.type "tuple",data:=.seq rest.toArray} m)
 have c:((h.push {cls:=.type "tuple",data:=.seq rest.toArray}).push {cls:=.ref C,data:=.fields #[.ref h.objs.size,.none,.none,.none,.bool Rh,.none]}).Ns N mN:=
  let⟨o,es,ep,e,r⟩:=hn;⟨o,es,ep,c6 _ (c6 _ e),r⟩
 have j:((h.push {cls:=.type "tuple",data:=.seq rest.toArray}).push
   {cls:=.ref C,data:=.fields #[.ref h.objs.size,.none,.none,.none,.bool Rh,.none]}).get? (h.objs.size+1)=ax
   {cls:=.ref C,data:=.fields #[.ref h.objs.size,.none,.none,.none,.bool Rh,.none]}:=by heap_get
 have n:(Rf.ref C::S).contains (.ref C)=OK:=by simp
 have k:=T.keeps (h':=(h.push {cls:=.type "tuple",data:=.seq rest.toArray}).push {cls:=.ref C,data:=.fields #[.ref h.objs.size,.none,.none,.none,.bool Rh,.none]})
  λb o e=>c6 _ (c6 _ e)
 unfold isInstance
 repeat (first|specialize Uj j ?_|(specialize Vq a ?_;rw[n])|wp_step)
 refine wpAny_typeLookup_tail a c k F.mroIs F.init.lookup ?_;rw[hi];refine U1 (Ld ?_);unfold bindSpecial;refine Ld (ZL ⟨_,p,l⟩ ?_);rw[ak (by decide)];refine Ru (Ld (wpAny_mono (y _ (h.objs.size+1) ⟨λb o z=>c6 _ (c6 _ z),ee (VW _),h.objs.size,j,ee (Rr _),?_⟩) (λr s' v=>?_) λ_ _ x=>x))
 .exact c6 _ (Heap.get?_push_at rfl rfl)
 .obtain⟨rfl,G⟩:=v
  wp_walk
  exact G
theorem Be(j:VO R newId X U)(f:Z.contains (.type R)=OK)(F:VO B Y V9 Z)(T:afi h Z S)
  (a:h.get? C=ax (excClassObj nm q C N bs S hdct sn sub ab col dd k0 k1 k2 k3 k5 newId)) (hn:h.Ns N mN) (hi:mN "__init__"=ax (.ref fI)) (c:h.get? fI=ax oI) (b:oI.cls=.type "function")
  (i:∀h' e,Heap.MadeExcOf h h' e (.ref C) rest->wpAny (model prog w) (A.under (.builtin "type.__call__" ⟨.ref C::rest,[]⟩)) (call (.ref fI) (.ref e::rest)) (λr s'=>r=.none/\Q (.ref e) s') E ⟨h',g,d,t,os⟩) (hrest:rest.length<=RL):
  wpAny (model prog w) A (call (.ref C) rest) Q E ⟨h,g,d,t,os⟩:=by
 have l:=tc_lookup;have f2:=tc_bind (.ref C);have k:(⟨h,g,d,t,os⟩:Ro).TypeIs (.ref C) "type":=⟨_,a,rfl⟩;refine XW (aaH ?_)
 repeat (any_goals (first|assumption|specialize Uj a ?_|wp_step))
 refine⟨rfl,?_⟩;refine codeAny_call_builtin_at (aah.quiet_builtin _ (by left)) entry_typeCall (wpAny_check_type_call_sub a (sT (hrest:=hrest) j f F T a hn hi c b λh' e hm=>?_));exact i h' e hm
end
section
variable{prog:RT}{w:SG}{A:Sk}{E:Rf->Ro->Prop}{s:Ro}{env:Env}
variable{nm q:Str}{C N:Rq}{bs Y Z:cM Rf}{hdct:Bool}{sn:cM Str}{sub:cM Rf}{ab:Bool}{col:c5 Bool}{dd:c5 Rq}{k0 k1 k2 k3 k5:c5 Rf}{B Bn newId X V9 U:String}{S:cM Rf}
theorem yW(O:VO Bn newId U S)(o:Z.contains (.type Bn)=OK)(F:VO B X V9 Z)
  (t:Y.contains (.type "BaseException")=OK) (m:A.handled=cL) (p:(backTo Wc (R0 args env)).any (·.1)=Rh) (hi:mN "__init__"=ax (.ref fI)) (n:oI.cls=.type "function")
  (h:wpAny (model prog w) A (eval (.Name x np) env) (λf s₁=>f=.ref C/\wpAny (model prog w) A (evalArgs (.ref C) OK (backTo Wc (R0 args env)) [])
   (λa s₂=>a.kw=[]/\a.pos.length<=RL/\s₂.heap.get? C=ax (excClassObj nm q C N bs Y hdct sn sub ab col dd k0 k1 k2 k3 k5 newId)/\s₂.heap.Ns N mN/\s₂.heap.get? fI=ax oI/\afi s₂.heap Z Y/\
    ∀h' e,Heap.MadeExcOf s₂.heap h' e (.ref C) a.pos->wpAny (model prog w) (A.under (.builtin "type.__call__" ⟨.ref C::a.pos,[]⟩)) (call (.ref fI) (.ref e::a.pos)) (λr s'=>r=.none/\∃ob,s'.heap.get? C=ax (excClassObj nm q C N bs Y hdct sn sub ab col dd k0 k1 k2 k3 k5 newId)/\s'.heap.get? e=ax ob/\ob.cls=.ref C/\(∃fs,ob.data=.fields fs/\fs[1]?=ax Rf.none)/\E (.ref e) s') E {s₂ with heap:=h'}) E s₁) E s):
  wpAny (model prog w) A (exec (.Raise (ax (.Call (.Name x np) args [] Wc)) cL pos) env) Q E s:=by
 rw[arm_exec_Raise]
 first
  |refine Ld (Uq (lz t m (Ld (wpAny_mono (ZO (wpAny_mono h (λf s₁ c=>?_) λ_ _ x=>x)) (λv j b=>Ld (Uq (Ru b))) λ_ _ x=>x))))
  |(simp only[evalOpt,Option.map];refine Ld (Uq (lz (C:=C) (nm:=nm) (q:=q) (N:=N) (bs:=bs) (hdct:=hdct) (sn:=sn) (sub:=sub) (ab:=ab) (col:=col) (dd:=dd) (k0:=k0) (k1:=k1) (k2:=k2) (k3:=k3) (k5:=k5) (newId:=newId) t m (Ld (wpAny_mono (ZO (wpAny_mono h (λf s₁ c=>?_) λ_ _ x=>x)) (λv j b=>Ld (Uq (Ru b))) λ_ _ x=>x)))))
  |(refine Ld (Uq (lz t m ?_));refine Ld (wpAny_mono (ZO (wpAny_mono h (λf s₁ c=>?_) λ_ _ x=>x)) (λv j b=>Ld (Uq (Ru b))) λ_ _ x=>x))
 obtain⟨rfl,c⟩:=c;unfold callWith;refine Ld (U1 (wpAny_mono c (λa s₂ i=>Ld (Uq ?_)) λ_ _ x=>x));obtain⟨y,M⟩:=a;obtain⟨l,k,u,hn,G,T,i⟩:=i;obtain rfl:=l;obtain⟨hp,g,d,P,R⟩:=s₂;simp only[p];refine Ld (wpAny_keeperOf_exc u ?_);refine Ld (Be (hrest:=k) O o F T u hn hi G n λh' e hm=>wpAny_mono (i h' e hm) (λr s' ⟨z,ob,L,K,J,I,H⟩=>⟨z,Ld (U1 (wpAny_point (Ru ?_)))⟩) λ_ _ x=>x);exact⟨e,ob,rfl,L,K,J,I,H⟩
end
end L9
namespace L9
open PySem PySem.W PyProof.Rows Builtin Builtin.ObjectAttr
abbrev CH:cM Rf:=[.type "ValueError",.type "Exception",.type "BaseException",.type "object"]
section
variable{prog:RT}{w:SG}{A:Sk}{K:Frag}{B C x:Rq}{s:Ro}{R:aey->Ro->Prop}{cd:ClassData}{name:Str}{Z:Tok}{v:Rf}{fs:Array Rf}
theorem IK(X:K.In s.heap)(r:clsIn K C=ax cd)(hm:cd.mro=.ref C:: .ref B::CH)(hd:cd.hasDict=OK)(hn:findIn K (.ref C) name=ax cL)(f:s.heap.get? x=ax ⟨.ref C,cL,.fields fs,#[]⟩)
  (E:∀h' tk',h'.get? x=ax ⟨.ref C,ax s.heap.objs.size,.fields fs,#[]⟩->h'.Ns1 s.heap.objs.size (λy=>if y=name then ax v else cL)->(∀b o,b≠x->s.heap.get? b=ax o->h'.get? b=ax o)->R (.ok (.ret .none)) {s with heap:=h',toks:=tk'}):
  codeAny (model prog w) A (.call (.builtin "object.__setattr__") ⟨[.ref x,.str name Z,v],[]⟩) R s:=by
 have I:InstAt s.heap x ⟨.ref C,cL,.fields fs,#[]⟩ C cL:=⟨f,rfl,rfl,True.intro⟩;have k:=aaI;have sub:Looks (model prog w) s.heap (isInstance (.ref x) (.type "object")) OK:=I.type.andThen (looks_mroIn X (by unfold mroIn;rw[r,acF,hm,ar (by simp)];simp));refine TK k.slot.plain k.entry (@check_slot (model prog w) _ _ s "object.__setattr__" "object" "__setattr__" (.ref x) [.str name Z,v] [] _ k.kind k.split sub (k.args (.ref x) (.str name Z) v) ?_);have j:Looks (model prog w) s.heap (mroOf (.ref C)) cd.mro:=(looks_clsIn X r).andThen .now;rw[osa_eq,refuse_eq];refine Ld (Ld (I.type.here (Ld (j.here ?_))));rw[hm,Yw,Yw,ZP.passes];refine Ru (Ld (I.type.here (Ld ((looks_findIn X hn).here (Ld (Ru ?_))))));unfold storeInOwnDict;refine Ld (Ru (Ld ?_));unfold ownDictForStores instanceDict;refine Ld (abh f (Ld ((looks_clsIn X r).here ?_)));rw[hd,ar (by decide)];show wpAny _ _ (if(!OK|| !typeHasDict (.ref C))=OK then pure cL else(do
        let d<-alloc {cls:=Rf.type "dict",data:=ZM.dict #[]}
        update x λo=>{cls:=o.cls,dict:=ax d,data:=o.data,slots:=o.slots}
        dictMade (.ref C) x d)) _ _ _
 rw[ar (by simp[typeHasDict])];obtain⟨h,g,d,t,U⟩:=s;dsimp only at X f E I sub j⊢;have c:(h.push {cls:=.type "dict",data:=.dict #[]}).get? x=ax ⟨.ref C,cL,.fields fs,#[]⟩:=c6 _ f;have a:=RO (dt f);refine Ld (wpAny_alloc' ?_);refine Ld (wpAny_update' c ?_);refine Ru ?_
 have n:((h.push {cls:=.type "dict",data:=.dict #[]}).update x λo=>{cls:=o.cls,dict:=ax h.objs.size,data:=o.data,slots:=o.slots}).get? h.objs.size
   =ax {cls:=.type "dict",data:=.dict #[]}:=
  (Heap.get?_update_ne _ _ _ _ a.symm).trans (Heap.get?_push_at rfl rfl)
 have m:((h.push {cls:=.type "dict",data:=.dict #[]}).update x λo=>{cls:=o.cls,dict:=ax h.objs.size,data:=o.data,slots:=o.slots}).Ns h.objs.size (λ_=>cL):=
  ⟨_,#[],_,n,rfl,λe H=>a7 H (by simp),λ_=>rfl⟩
 unfold storeInDict newKeyGuard;refine Ld (Ru (Ld (wpAny_nsSet1 (Heap.Ns1.of_empty m) λh' i z=>?_)));obtain⟨oD,L,N,l,p,q⟩:=i.count (Within.cons name v Within.nil);refine Ld (af4 l (by rw[p];exact af5 (SH q (by rw[Rk,TR,Vy];ext))) ?_);refine Ru (E h' _ ?_ ?_ λb Y u F=>?_)
 .exact(z.2 x a).trans (ea _ c rfl)
 .obtain⟨G,M,O,T,S,Q,J,P⟩:=i;exact⟨G,M,O,T,S,Q,J,λy=>by rw[P y]⟩
 .exact(z.2 b (RO (dt F))).trans ((Heap.get?_update_ne _ _ _ _ u).trans (c6 _ F))
theorem Hm(X:K.In s.heap)(e:clsIn K C=ax cd)(hm:cd.mro=.ref C:: .ref B::CH)(hd:cd.hasDict=OK)(a:findIn K (.ref C) "__setattr__"=ax (ax (.builtin "object.__setattr__")))(hn:findIn K (.ref C) name=ax cL)(c:s.heap.get? x=ax ⟨.ref C,cL,.fields fs,#[]⟩)
  (d:∀h' tk',h'.get? x=ax ⟨.ref C,ax s.heap.objs.size,.fields fs,#[]⟩->h'.Ns1 s.heap.objs.size (λy=>if y=name then ax v else cL)->(∀b o,b≠x->s.heap.get? b=ax o->h'.get? b=ax o)->Q () {s with heap:=h',toks:=tk'}):
  wpAny (model prog w) A (setAttr (.ref x) name v) Q E s:=
 set_plain X (⟨c,rfl,rfl,True.intro⟩:InstAt s.heap x ⟨.ref C,cL,.fields fs,#[]⟩ C cL) a (IK X e hm hd hn c d)
end
section
variable{prog:RT}{w:SG}{A:Sk}{E:Rf->Ro->Prop}{h:Heap}{g:Array XF}{d:acz}{t:Nat}{os:aa5}
variable{nm q:Str}{C N:Rq}{bs bm Z:cM Rf}{hdct:Bool}{sn:cM Str}{sub:cM Rf}{ab:Bool}{col:c5 Bool}{dd:c5 Rq}{k0 k1 k2 k3 k5:c5 Rf}{B newId Y V9:String}
theorem C9(F:VO B Y V9 Z)(T:afi h Z bm)
  (m:h.get? C=ax (excClassObj nm q C N bs bm hdct sn sub ab col dd k0 k1 k2 k3 k5 newId)) (f:h.get? e=ax ⟨.ref C,cL,.fields fs,#[]⟩) (j:fs[0]?=ax (.ref t0))
  (k:∀h' fs',h'.get? e=ax ⟨.ref C,cL,.fields fs',#[]⟩->fs'[0]?=ax (.ref h.objs.size)->(∀i,i≠0->fs'[i]?=fs[i]?)->(∀b o,b≠e->h.get? b=ax o->h'.get? b=ax o)->Q .none ⟨h',g,d,t,os⟩) (hrest:rest.length<=RL):
  wpAny (model prog w) A (call (.builtin V9) (.ref e::rest)) Q E ⟨h,g,d,t,os⟩:=by
 refine XW (TK F.init.plain F.initEntry (wpAny_check_init_subU F T m f rfl ?_));unfold R8.«BaseException.__init__»;dsimp only;rw[ar (by simp)];unfold newTuple R8.BaseException.bexcPut;have c:=(S2.mp j).1;have a:(h.push {cls:=.type "tuple",data:=.seq rest.toArray}).get? e=ax ⟨.ref C,cL,.fields fs,#[]⟩:=c6 _ f;refine Ld (TV (Ld (Ld (SJ a rfl j (Ld (UN a rfl c ?_))))) (by show rest.toArray.size<=RL;rw[RB];exact hrest));refine aaA (Ru (k _ (fs.setIfInBounds 0 (.ref h.objs.size)) ?_ (by simp[c]) (λi hi=>by rw[YU (et hi)]) λb o l z=>?_))
 .exact ea (Obj.mapFields (·.setIfInBounds 0 (.ref h.objs.size))) a rfl
 .exact(d4 _ _ (et l)).trans (c6 _ z)
end
end L9
namespace L9
open PySem PySem.Spec PyProof.Rows L2
def KH(v:V):Prop:=v=.Uo\/∃i:Int,v=.int i/\i.natAbs.log2<1920
theorem Hx{i:Int}(h:i.natAbs.log2<1920):(Str.ofString (toString i)).length<=5000:=by have e:=int_text_length_le (by decide) h;rw[PySem.ofString_length];ext
theorem KR(I:Inv X pins σ H s)(r:RelV v u)(f:KH v)
  (h:∀(y:Str) (t:Tok) (a:Ro),y.length<=5000->Inv X pins σ H a->Q (.str y t) a):wpAny (model X.prog X.w) A (formatField u Str.empty) Q E s:=by
 rcases f with rfl|⟨i,rfl,hi⟩
 .obtain rfl:=r;exact wpAny_formatField_none (h _ _ _ (by decide) (I.tok _))
 .obtain⟨t,rfl⟩:=r;exact formatField_int_small hi (h _ _ _ (Hx hi) (I.tok _))
def PJ(X:Cx)(es:cM SI)(n:Nat)(t:L2.St->Hp->(Hp->Prop)->Prop):Prop:=
 ∀(a:cM (Rq×Obj)) (s:Ro) (c:L2.St) (H:Hp) (b:Str) (Q:Hp->Prop),Inv X a c H s->b.length+n<=1000000->t c H Q->
  wpAny (model X.prog X.w) X.A (joinParts b (evalEach es X.env)) (λv f=>∃(y:Str) (e:Tok) (d:Hp),v=.str y e/\Inv X a c d f/\Q d) X.xe s
section
variable{X:Cx}{e:SI}{es:cM SI}{n:Nat}{te:TE}{t:L2.St->Hp->(Hp->Prop)->Prop}{Z:Pos}
theorem AH:PJ X [] 0 (λ_ H Q=>Q H):=by intro a s c H b Q I d h;exact joinParts_nil ⟨_,_,H,rfl,I.tok _,h⟩ (by rw[Vy];ext)
theorem wG(f:x.length<=5000)(d:PJ X es n t):PJ X (.Constant (.str x) k Z::es) (n+5000) t:=by intro a s c H b Q I g h;refine joinParts_consE (joinParts_cons (Calls.Constant_str ?_));have e:=aly b x;exact⟨by rw[Vy];ext,d a _ c H (b++x) Q (I.tok _) (by ext) h⟩
theorem wz(d:PE X e te)(c:PJ X es n t):PJ X (.FormattedValue e (-1) cL Z::es) (n+5000) (λσ H Q=>te σ H λv H1=>KH v/\t σ H1 Q):=by intro a s σ H b Q I o h;refine joinParts_consE (joinParts_cons (FormattedValue_plain (fR (d a s σ H _ I h) λu k ⟨v,H1,g,r,f,q⟩=>?_)));refine KR g r f λy j l m i=>?_;have e:=aly b y;exact⟨by rw[Vy];ext,c a _ σ H1 (b++y) Q i (by ext) q⟩
theorem wE(h:PJ X (d::e2::es) n t)(hn:n<=900000):PE X (.JoinedStr (d::e2::es) Z) (λσ H Q=>t σ H λH1=>∀y:Str,Q (.str y) H1):=by intro a s σ H Q I b;refine JoinedStr_many (fR (h a s σ H Str.empty _ I (by show 0+n<=1000000;ext) b) λv i ⟨y,g,H1,c,f,q⟩=>?_);subst c;exact⟨.str y,H1,f,⟨_,rfl⟩,q y⟩
end
def HV(C e:Rq):Heap->Prop:=λh=>∃fs t0,h.get? e=ax ⟨.ref C,cL,.fields fs,#[]⟩/\fs[0]?=ax (.ref t0)/\fs[1]?=ax .none
def KQ(C e p:Rq):Heap->Prop:=λh=>∃fs a0,h.get? e=ax ⟨.ref C,ax p,.fields fs,#[]⟩/\fs[0]?=ax a0/\fs[1]?=ax .none
structure XC(K:td)(C B fI:Rq):Prop where
 obj:∃nm q N bs sn sub ab col dd k0 k1 k2 k3 k5,K.lookup C=ax (excClassObj nm q C N bs (.ref B::CH) OK sn sub ab col dd k0 k1 k2 k3 k5 "ValueError.__new__")/\UY K N=OK/\RG K N "__init__"=ax (ax (.ref fI))
 base:XN K B CH "ValueError.__new__"=OK
 sa:RI K (.ref C) "__setattr__"=ax (ax (.builtin "object.__setattr__"))
theorem xY{K:td}(q:XN K B CH n=OK):Xg K CH (.ref B::CH)=OK:=by
 unfold XN at q;split at q
 .rename_i dd cd c b
  split at q
  .simp only[Rz,beq_iff_eq,UX]at q;obtain⟨⟨⟨⟨⟨_,_⟩,_⟩,_⟩,TL⟩,a⟩:=q;unfold Xg;dsimp only;rw[b];dsimp only;rw[TL,a,show Xg K CH CH=OK from by unfold Xg;rw[fo,Ux],fo,Te,Te,Uy]
  .cases q
 .cases q
section
variable{X:Cx}{B C fI:Rq}{Z S U:Pos}{Y:SI}{as:cM SI}{t:TA}{b:Str}
theorem Ep(h:H a=ax o):dg H a o=H:=by
 funext c;by_cases z:c=a
 .rw[z,bz,h]
 .rw[aM z]
def KO(C:Rq)(t:TA):TE:=λc H Q=>t c H λvs a=>∃e y,vs=[.ref e,.str y]/\a e=ax (.ext (HV C e))/\Q .Uo a
theorem uJ{pl:Sem Bool}(hg:Gl X b)(hm:X.mg b=ax (.ref B))(hr:VP X.K B (.type "type")=OK)(hf:VQ X.K (.ref B) (.type "type") "__init__"=ax (.val (.builtin "ValueError.__init__")))
  (hs:Ur X.K (.ref B) "__getattribute__"=ax (ax (.builtin "type.__getattribute__"))) (v:XC X.K C B fI) (ha:PA X (Y::as) t)
  (YA:R0 (Y::as) X.env=(Rh,eval Y X.env)::R0 as X.env:=by rfl) (j:(backTo Z (R0 as X.env)).any (·.1)=Rh:=by rfl) (k:(b==("__debug__":Str))=Rh:=by decide)
  (ht:eval (.Call (.Attribute (.Name b S) "__init__" U) (Y::as) [] Z) X.env=(do
   let ov<-eval (.Name b S) X.env
   standAt U.atName
   let(f,first)<-holding [ov] (getMethod ov "__init__" pl)
   callWith Z f first (backTo Z (R0 (Y::as) X.env)) (backToKw Z (keywordEach [] X.env))):=by rfl):
  PE X (.Call (.Attribute (.Name b S) "__init__" U) (Y::as) [] Z) (KO C t):=by
 intro a s F H Q I h;refine PySem.W.methodCall_KW (pl:=pl) (qQ I hg hm ?_ k) ht;refine PySem.W.method_cls I.YE hs (PySem.W.cls_value I.YE hr hf (by decide) ?_);have A:=ha Z a {s with toks:=s.toks+1} F H _ (I.tok _) h;rw[YA]at A⊢;refine Calls.callWith_builtin (by show(Rh||(backTo Z (R0 as X.env)).any (·.1))=Rh;rw[j]<;>rfl) (Calls.evalArgs_plain (fR A λus p ⟨vs,E,c,r,e,y,ev,l,q⟩=>?_));subst ev;obtain⟨M,u2,rfl,R,P⟩:=uW r;obtain rfl:M=.ref e:=R;obtain⟨tk,rfl⟩:=P;obtain⟨⟨fs,t0,g1,g2,g3⟩,_,gk⟩:=(show UE X.prog X.w E p.heap e (.ext (HV C e))from c.TL e _ l);obtain⟨nm,q',N,bs,sn,sub,ab,col,dd,k0,k1,k2,k3,k5,lk,TL,hin⟩:=v.obj;have T:=abi c.YE (xY v.base);obtain⟨h2,g,d,i,os⟩:=p;refine C9 UZ T (c.YE _ _ lk) g1 g2 (λh' m n e2 e3 e4=>?_) (by show 1<=RL;decide);refine⟨.Uo,E,?_,rfl,q⟩;have w:=c.write (x:=e) (e:=e) (o:=.ext (HV C e)) (h':=h') (t':=i) (by rw[l];exact True.intro) (.inl rfl) (λb u hb z=>e4 b u hb z) ⟨_,n⟩ ⟨⟨m,_,n,e2,by rw[e3 1 (by decide)];exact g3⟩,⟨_,n⟩,λh1 h2 ⟨f1,O,L,J,G⟩ hk=>⟨f1,O,hk _ L,J,G⟩⟩;rw[Ep l]at w;exact w
def MP(C:Rq)(f:Str)(g d:TE):TS:=λD a H=>d a H λv h=>g a h λx c=>∃e,x=.ref e/\c e=ax (.ext (HV C e))/\∀p,c p=cL->p≠e->D.nx a (dg (dg c e (.ext (KQ C e p))) p (.xd [(f,v)]))
theorem wv(M:XC X.K C B fI)(hn:RI X.K (.ref C) f=ax cL)(ha:PE X o ta)(hv:PE X value tv)(hs:Ug value (ax (.Attribute o f pos')) Z.line X.env=pure Rh):PS X (.Assign [.Attribute o f pos'] value Z) (MP C f ta tv):=by
 intro i s A H D I h;refine Z0 (fR (hv i s A H _ I h) λu s1 ⟨v,H1,I1,rv,q⟩=>fR (ha i s1 A H1 _ I1 q) λov l ⟨x,P,p,rx,e,ex,d,q2⟩=>?_) hs;subst ex;obtain rfl:=rx;obtain⟨⟨fs,t0,O,g2,g3⟩,_,gk⟩:=(show UE X.prog X.w P l.heap e (.ext (HV C e))from p.TL e _ d);obtain⟨nm,q',N,bs,sn,sub,ab,col,dd,k0,k1,k2,k3,k5,lk,TL,hin⟩:=M.obj;obtain⟨cd,hc,F,G⟩:∃cd,VA X.K C=ax cd/\cd.mro=.ref C:: .ref B::CH/\cd.hasDict=OK:=by unfold VA;rw[lk];exact⟨_,rfl,rfl,rfl⟩
 refine Hm p.YE hc F G M.sa hn O λh' tk' J e2 r=>?_;have pe:=Ti (dt O);have m:=p.TL.fresh (Rr _);refine⟨A,_,?_,q2 l.heap.objs.size m pe⟩;have j:∀b o,l.heap.get? b=ax o->b≠l.heap.objs.size:=λb o z=>RO (dt z);refine p.un ⟨λb o z n _ _=>r b o (λy=>by rw[y,d]at n;cases n) z,λb o z n _ _=>⟨o.slots,r b o (λy=>by rw[y,d]at n;cases n) z⟩,λb o z n _=>?_,λb o z _=>?_,λb xs z=>?_,λb o u z=>?_,λb ps z=>⟨#[],?_⟩⟩ ?_
 .rw[aM (j b o z),aM (λy=>by rw[y,d]at n;cases n)];exact n
 .by_cases y:b=e
  .subst y;exact⟨_,J⟩
  .exact⟨o,r b o y z⟩
 .rw[aM (λy=>by rw[y,m]at z;cases z),aM (λy=>by rw[y,d]at z;cases z)];exact z
 .rw[aM (λy=>by rw[y,m]at z;cases z),aM (λy=>by rw[y,d]at z;cases z)];exact z
 .rw[aM (λy=>by rw[y,m]at z;cases z),aM (λy=>by rw[y,d]at z;cases z),z];simp
 .intro a o z
  by_cases L:a=l.heap.objs.size
  .subst L
   rw[bz]at z;cases z;refine⟨_,e2,λg=>?_⟩;show aa2 (match g==f with|true=>ax v|false=>WA g []) (if g=f then ax u else cL);cases c:g==f with
   |true=>rw[ak (beq_iff_eq.mp c)];exact rv
   |false=>rw[ar (λw=>by rw[beq_iff_eq.mpr w]at c;cases c)];exact True.intro
  .rw[aM L]at z
   by_cases E:a=e
   .subst E;rw[bz]at z;cases z;exact⟨⟨fs,_,J,g2,g3⟩,⟨_,J⟩,λh1 h2 ⟨f1,t1,T,R,Q⟩ hk=>⟨f1,t1,hk _ T,R,Q⟩⟩
   .rw[aM E]at z
    have own:∀b,P b=ax (.own a)->b≠e/\b≠l.heap.objs.size:=λb y=>⟨(λk=>by rw[k,d]at y;cases y),(λk=>by rw[k,m]at y;cases y)⟩;refine(p.TL a o z).WV (λb w c y=>r b w (λk=>?_) y) (λb y=>by rw[aM (own b y).2,aM (own b y).1];exact y) λb xs y=>by rw[aM (λk=>by rw[k,m]at y;cases y),aM (λk=>by rw[k,d]at y;cases y)];exact y
    rcases c with c|c
    .exact E (c.symm.trans k)
    .exact(own b c).1 k
end
end L9
namespace L9
open PySem PySem.Spec PyProof.Rows L2 L4
def ML(H:Hp)(e:Rq):Hp:=λa=>if a=e then cL else H a
theorem ut:ML H e e=cL:=ak rfl
theorem kG(h:a≠e):ML H e a=H a:=ar h
theorem zU{K:td}(X:K.In h)(G:h.Ns N mg)(e:RG K N n=ax (ax v)):mg n=ax v:=by
 obtain⟨o,k,l,c,g,_,d⟩:=G;unfold RG at e;split at e
 .rename_i i j b a
  have:=(X _ _ a).symm.trans c;cases this;cases g;split at e
  .rename_i m f;cases e;rw[<-d];unfold nsFind findBy;rw[<-ab3,f];rfl
  .split at e<;>cases e
 .cases e
theorem K0{K:td}(i:Us K (.ref f)=OK)(l:K.lookup f=ax o):o.cls=.type "function":=by unfold Us Td at i;dsimp only at i;rw[l]at i;exact R9 (beq_iff_eq.mp i)
section
variable{X:Cx}{Z:cM (Rq×Obj)}{Y:L2.St}{H:Hp}{s:Ro}{h':Heap}{e:Rq}{o:HO}
theorem Im(I:L2.Inv X Z Y H s)(k:∀b u,s.heap.get? b=ax u->h'.get? b=ax u)(n:s.heap.get? e=cL)(new:UE X.prog X.w (dg H e o) h' e o):L2.Inv X Z Y (dg H e o) {s with heap:=h',toks:=t'}:=by
 have hn:=yd I.TL n;have ne:∀b u,s.heap.get? b=ax u->b≠e:=λb u z y=>by rw[y,n]at z;cases z
 refine I.un ⟨λb u z _ _ _=>k b u z,λb u z _ _ _=>⟨u.slots,k b u z⟩,λb u z q _=>by rw[aM (ne b u z)];exact q,λb u z _=>⟨u,k b u z⟩,λb xs z=>?_,λb u v z=>?_,λb ps z=>⟨#[],?_⟩⟩ ?_
 .rw[aM (λy=>by rw[y,hn]at z;cases z)];exact z
 .rw[aM (λy=>by rw[y,hn]at z;cases z)];exact z
 .rw[aM (λy=>by rw[y,hn]at z;cases z),z];simp
 .intro a u z
  by_cases y:a=e
  .subst y;rw[bz]at z;cases z;exact new
  .rw[aM y]at z;refine(I.TL a u z).WV (λb w _ q=>k b w q) (λb q=>by rw[aM (λw=>by rw[w,hn]at q;cases q)];exact q) λb xs q=>by rw[aM (λw=>by rw[w,hn]at q;cases q)];exact q
theorem Iw(I:L2.Inv X Z Y H s)(c:H e=ax (.ext φ)):L2.Inv X Z Y (ML H e) s:=by
 have:=I.un (t':=s.toks) (H':=ML H e) ⟨λb u z _ _ _=>z,λb u z _ _ _=>⟨u.slots,z⟩,λb u z q _=>?_,λb u z _=>⟨u,z⟩,λb xs z=>?_,λb u v z=>?_,λb ps z=>⟨#[],?_⟩⟩ ?_
 .exact this
 .by_cases y:b=e
  .rw[y];exact ut
  .rw[kG y];exact q
 .rw[kG (λy=>by rw[y,c]at z;cases z)];exact z
 .rw[kG (λy=>by rw[y,c]at z;cases z)];exact z
 .rw[kG (λy=>by rw[y,c]at z;cases z),z];simp
 .intro a u z
  have y:a≠e:=λy=>by rw[y,ut]at z;cases z
  rw[kG y]at z;exact(I.TL a u z).WV (λb w _ q=>q) (λb q=>by rw[kG (λw=>by rw[w,c]at q;cases q)];exact q) λb xs q=>by rw[kG (λw=>by rw[w,c]at q;cases q)];exact q
end
def xD(C:Rq)(sp:Sp)(E:XK)(d:TA):TS:=λ_ c H=>d c H λvs b=>vs.length<=RL/\∀e,b e=cL->sp (.ref e::(vs++[])) (dg b e (.ext (HV C e))) (λv a=>v=.Uo/\∃p,a e=ax (.ext (KQ C e p))/\E (.ref C) (ax p) (ML a e)) E0
theorem iw{K:td}
  (hC:XC K C B fI) (U:K.lookup fI=ax oI) (iI:Us K (.ref fI)=OK) (FI:FnOk P w K mg base fF k fI fdI ps sp) (bI:Binds K fdI ps [])
  (hr:U5 (k+1) (gl (sH P w) P w K mg base N qual scope f cd A outer s0 H0 E).A)
  (hg:Gl (gl (sH P w) P w K mg base N qual scope f cd A outer s0 H0 E) x) (hm:mg x=ax (.ref C)) (ha:PA (gl (sH P w) P w K mg base N qual scope f cd A outer s0 H0 E) (J::es) ta)
  (G:(x==("__debug__":Str))=Rh:=by decide)
  (Y:R0 (J::es) (gl (sH P w) P w K mg base N qual scope f cd A outer s0 H0 E).env=(Rh,eval J (gl (sH P w) P w K mg base N qual scope f cd A outer s0 H0 E).env)::R0 es (gl (sH P w) P w K mg base N qual scope f cd A outer s0 H0 E).env:=by rfl)
  (n:(backTo Wc (R0 es (gl (sH P w) P w K mg base N qual scope f cd A outer s0 H0 E).env)).any (·.1)=Rh:=by rfl):
  PS (gl (sH P w) P w K mg base N qual scope f cd A outer s0 H0 E) (.Raise (ax (.Call (.Name x np) (J::es) [] Wc)) cL pos) (xD C sp E ta):=by
 intro i s σ H D I h;obtain⟨nm,qn,Nn,bs,sn,sub,ab,col,dd,k0,k1,k2,k3,k5,S,TL,F⟩:=hC.obj;have a:=I.ok.mod.kin;have oC:=a _ _ S;have R:=Heap.Ns.of_isNs (PySem.W.isNs_of_in a TL);have ni:=zU a R F;have oF:=a _ _ U;have T:=abi a (xY hC.base);refine yW (nm:=nm) (q:=qn) (N:=Nn) (bs:=bs) (hdct:=OK) (sn:=sn) (sub:=sub) (ab:=ab) (col:=col) (dd:=dd) (k0:=k0) (k1:=k1) (k2:=k2) (k3:=k3) (k5:=k5) UZ (by left) UZ (T.hasType UZ.hasBase) (I.ok.hd rfl)
  (by rw[Y];exact(Sz _).trans n) ni (K0 iI U) (qQ I hg hm ⟨rfl,?_⟩ G)
 have go:=ha Wc i s σ H _ I h;rw[Y]at go⊢;refine Calls.evalArgs_plain (fR go λc g ⟨vs,H1,d,r,hl,q⟩=>?_);refine⟨rfl,by rw[<-r.length];exact hl,d.bk _ _ oC,R.keeps d.bk,d.bk _ _ oF,T.keeps d.bk,λh' e j=>?_⟩;obtain⟨t,y,y2,y3⟩:=j.there;have hn:=yd d.TL j.new;have X:=q e hn;have M:=Im (t':=g.toks) (o:=.ext (HV C e)) d j.keeps j.new ⟨⟨_,t,y,rfl,rfl⟩,⟨_,y⟩,λh1 h2 ⟨f1,t1,z1,z2,z3⟩ hk=>⟨f1,t1,hk _ z1,z2,z3⟩⟩;have Q:Vals (V.ref e::(vs++[])) (Rf.ref e::(c++[])):=.cons rfl (r.append .nil);have l:(Rf.ref e::c++[]).length=ps.length:=by have z:=Q.length;rw[FI.len _ _ _ _ X]at z;exact z.symm
 have m:s0.heap.get? e=cL:=by
  cases z:s0.heap.get? e with
  |none=>rfl
  |some o=>obtain⟨o',O⟩:=d.base.there e o z (λy=>nomatch y);rw[j.new]at O;cases O
 have bi:=bI {heap:=h',gens:=g.gens,drawn:=g.drawn,toks:=g.toks,os:=g.os} (Rf.ref e::c) M.YE l;rw[Ul]at bi;refine XW (Vk (FI.run _ (gl (sH P w) P w K mg base N qual scope f cd A outer s0 H0 E).stack _ _ ⟨Rf.ref e::c,[]⟩ (Rf.ref e::(c++[])) _ _ E0 (hr.make C c []) (M.ahy.make C c []) bi Q X) λr s' b=>?_);cases r with
 |error e=>exact b.elim
 |ok fl=>
  cases fl with
  |ret u=>obtain⟨v,H',L,rv,ev,p,Z,q3⟩:=M.after b;subst ev;obtain⟨⟨fs,a0,g1,g2,g3⟩,_,_⟩:=(show UE _ _ H' s'.heap e (.ext (KQ C e p))from L.TL e _ Z);refine⟨rv,_,L.YE _ _ S,g1,rfl,⟨fs,rfl,g3⟩,?_⟩;exact Jq (hd:=cL) (Iw L Z) ⟨_,_,g1,rfl,rfl,rfl,g2,g3⟩ m (λT z=>nomatch z) ut (λT z=>nomatch z) q3
  |next=>exact False.elim b
  |brk=>exact False.elim b
  |cont=>exact False.elim b
end L9
namespace L9
open PySem PySem.Spec PySem.W PyProof.Rows L2 L3 L4
section
variable{prog:RT}{w:SG}{A:Sk}{E:Rf->Ro->Prop}{h:Heap}{g:Array XF}{d:acz}{t:Nat}{os:aa5}{a C:Rq}{o:Obj}{K:td}{od:c5 Obj}{name:Str}{v:Rf}
  {n1 q1:Str} {N1:Rq} {b1 m1:cM Rf} {d1:Bool} {s1:cM Str} {u1:cM Rf} {a1:Bool} {c1:c5 Bool} {x1:c5 Rq} {i0 i1 i2 i3 i5:c5 Rf} {Z:String}
theorem zO(X:K.In h)(I:Vr h a o C od)(b:findObj K C od name=ax (.value v))
  (k:Q (.done (.ret v)) ⟨h,g,d,t,os⟩):wpAny (model prog w) A (R8.«object.__getattribute__» ⟨[.ref a,.str name tk],[]⟩) Q E ⟨h,g,d,t,os⟩:=by
 have e:=I.type (M:=model prog w);have c:=looks_find (M:=model prog w) X I b;refine Ld (Ru (Ld (Ru (Ld (e.at (Ld (c.at ?_)))))));exact Ru k
theorem C2(X:K.In h)(I:Vr h a o C od)(m:h.get? C=ax (excClassObj n1 q1 C N1 b1 m1 d1 s1 u1 a1 c1 x1 i0 i1 i2 i3 i5 Z))(l:m1.contains (.type "BaseException")=OK)
  (e:findIn K (.ref C) "__getattribute__"=ax (ax (.builtin "BaseException.__getattribute__"))) (c:findIn K (.ref C) "__getattr__"=ax cL) (j:findObj K C od name=ax (.value v)) (i:handedIn v=OK)
  (k:Q v ⟨h,g,d,t+1,os⟩):wpAny (model prog w) A (getAttr (.ref a) name expr) Q E ⟨h,g,d,t,os⟩:=by
 have u:=US.ga.bind (.ref a);have b:(Rf.builtin "BaseException.__getattribute__"==Rf.builtin "object.__getattribute__")=Rh:=by left
 have r:(onTheHeap (Rf.ref C)&&Rf.builtin "BaseException.__getattribute__"==Rf.builtin "object.__getattribute__")=Rh:=by rw[b];rfl
 have q:=I.type (M:=model prog w);have p:=looks_findIn (M:=model prog w) X e;have n:=looks_findIn (M:=model prog w) X c;unfold getAttr getAttrBy
 repeat (any_goals (first|assumption|specialize q.at ?_|specialize p.at ?_|specialize n.at ?_|wp_step))
 rw[show(expr&&onTheHeap (Rf.builtin "BaseException.__getattribute__"))=Rh from by cases expr<;>rfl,ar Rg];unfold boundAndCalled
 repeat (any_goals (first|assumption|wp_step))
 refine TK US.ga.plain F.entry_bexc_ga (tV m l I.at_ I.cls (zO X I j ?_));have f:=handedOut_of i;show wpAny _ _ (handedOut v) _ _ _;rw[f];exact Ru k
end
def yl(K:td)(c:TE)(f:Str):TE:=λb H Q=>c b H λx a=>∃e ob C m p fs v,x=.ref e/\a e=ax (.frz ob (.own e))/\ob.cls=.ref C/\ob.dict=ax p/\notCls ob=OK/\VT K C m/\hasDictIn K C=OK/\findIn K (.ref C) f=ax cL/\
 a p=ax (.xd fs)/\fs.lookup f=ax v/\Q v a
theorem tf(P:PE X o ta)(T:attributeBase o f X.env (eval o X.env)=eval o X.env):PE X (.Attribute o f pos) (yl X.K ta f):=by intro a s r H Q I h;refine Ij T (fR (P a s r H _ I h) λu j ⟨x,n,b,y,e,B,C,m,p,fs,v,U,Y,S,R,hn,L,O,ha,J,l,q⟩=>?_);subst U;obtain rfl:=y;have z:=(b.TL e _ Y).1;obtain⟨mA,E,c⟩:=(show UE X.prog X.w n j.heap p (.xd fs)from b.TL p _ J);obtain⟨Z,G,k⟩:=aa2.some_of (by rw[<-l];exact c f);obtain⟨A,M,N⟩:=C8 E;obtain⟨_,_,_,_,_,_,_,_,_,_,_,_,_,_,_,_,F⟩:=L.cl;obtain⟨i,g,d,t,os⟩:=j;exact C2 b.YE (⟨z,S,hn,by rw[R];exact M⟩:Vr i e B C (ax A)) (b.YE _ _ F) L.be L.ga L.gt (findObj_own O ha rfl (by rw[N,G])) (Ds k) ⟨v,n,b.tok _,k,q⟩
def qY(C:Rq)(f:Str):Sp:=λvs H Q _=>∃e v,vs=[.ref e,v]/\KH v/\H e=ax (.ext (HV C e))/\∀p,H p=cL->p≠e->Q .Uo (dg (dg H e (.ext (KQ C e p))) p (.xd [(f,v)]))
def r6:D->Bool
 |.none=>OK
 |.int i=>decide (i.natAbs.log2<1920)
 |_=>Rh
def jE(c f:Str)(fe:FE):FS:=λρ=>(fe ρ).bind λa=>(Res.Ta (lc a.2 a.1)).bind λd=>if r6 d=OK then .er ⟨c,[(f,d)]⟩else .bad
theorem ou{K:td}(N:RG K RD c=ax (ax (.ref C)))(M:EO K E te fe):SO K E (xD C (qY C f) E (mL te xm)) (jE c f fe):=by
 intro B T O G H ρ D R w;refine M B T O G H ρ _ R (w.bind.imp λa h Z v S Y F J=>?_);obtain⟨d,I,h⟩:=h.Ta;have dx:=jL F J I;by_cases r:r6 d=OK
 .rw[ak r]at h
  have k:KH v/\∀(Q:eH) (U:Hp),DV Q K U v d:=by
   cases d with
   |none=>cases dx;exact⟨.inl rfl,λ_ _=>.Uo⟩
   |int i=>cases dx;exact⟨.inr ⟨i,rfl,a6 r⟩,λ_ _=>.int i⟩
   |_=>cases r
  refine⟨by show 1<=RL;decide,λe hn=>⟨e,v,rfl,k.1,bz,λp A g=>⟨rfl,p,?_,?_⟩⟩⟩
  .rw[aM (et g),bz]
  .have u:S p=cL:=by rw[aM g]at A;exact A
   refine h (.ref C) (ax p) _ (λb o z=>?_) ⟨⟨C,rfl,N⟩,[(f,v)],λX q=>?_,λm P l=>⟨(λz=>nomatch z),?_⟩⟩
   .have j:=F.same b o z
    have t:b≠e:=λy=>by rw[y,hn]at j;cases j
    have L:b≠p:=λy=>by rw[y,u]at j;cases j
    rw[kG t,aM L,aM t,aM t];exact j
   .cases q;rw[kG g,bz]
   .have n:(match m==f with|true=>ax d|false=>WA m [])=ax P:=l
    cases hb:m==f with
    |true=>rw[hb]at n;cases n;refine⟨v,?_,k.2 _ _⟩;show(match m==f with|true=>ax v|false=>WA m [])=ax v;rw[hb]
    |false=>rw[hb]at n;cases n
 .rw[ar r]at h;exact h.elim
end L9
namespace L3
open PySem PySem.Spec PyProof.Rows L2
mutual
def Qt:lD->Bool
 |.tuple ds=>Km ds
 |.int _=>OK
 |.str _=>OK
 |.bool _=>OK
 |.none=>OK
 |_=>Rh
def Km:cM lD->Bool
 |[]=>OK
 |d::r=>Qt d&&Km r
end
section
variable{K:td}{E:XK}{B:eH}{H0:Hp}{O Z:eH}{σ:L2.St}{H H':Hp}{ρ:bA}
theorem Ib(h:We K H a xs)(l:H a=ax (.lst ys)):We K (λ_=>cL) a xs:=by
 rcases h with(h|⟨o,h⟩)|h
 .rw[l]at h;cases h
 .rw[l]at h;cases h
 .exact .inr h
mutual
theorem Ih(c:∀b,O b->¬Z b->∃ys,H b=ax (.lst ys)):∀{v:V} {d:D},DV Z K H v d->Qt d=OK->DV O K H v d
 |_,_,.Uo,_=>.Uo
 |_,_,.bl b,_=>.bl b
 |_,_,.int i,_=>.int i
 |_,_,.str x,_=>.str x
 |_,_,.tup (a:=a) h hs,e=>.tup ⟨h.1,λz=>by
   by_cases y:Z a
   .exact h.2 y
   .obtain⟨ys,q⟩:=c a z y;exact Ib h.1 q⟩ (yq c hs e)
 |_,_,.lst h hs,e=>by cases e
theorem yq(a:∀b,O b->¬Z b->∃ys,H b=ax (.lst ys)):∀{vs:cM V} {ds:cM D},T8 Z K H vs ds->Km ds=OK->T8 O K H vs ds
 |_,_,.nil,_=>.nil
 |_,_,.cons h hs,e=>by have c:=Bool.and_eq_true_iff.mp e;exact .cons (Ih a h c.1) (yq a hs c.2)
end
end
end L3
namespace PySem
section
variable{prog:RT}{w:SG}{A:Sk}{E:Rf->Ro->Prop}{s:Ro}
abbrev sC(a:Bool):Obj:={cls:=.type "set",dict:=cL,data:=.set #[] 0 (.fresh 0 0 a)}
abbrev B4(prog:RT)(w:SG)(s:Ro)(n:Nat)(ns:cM Int)(h':Heap):Prop:=
 h'.SetOf (intKind prog w) s.heap.objs.size (λa=>(Zj (λi=>ns.getD i 0) n).any (·==a)) (Zj (λi=>ns.getD i 0) n).length/\
  (∀b o,b<s.heap.objs.size->s.heap.get? b=ax o->h'.get? b=ax o)
theorem xt{t:Rq}{a:Array Rf}{ns:cM Int}{Q:Rf->Ro->Prop}
  (X:A.handled=cL) (B:s.heap.IsTuple t a) (hi:ah3 a.toList ns) (u:a.size+1<scanBound)
  (h:∀(h':Heap) (q:Nat),B4 prog w s a.size ns h'->Q (.ref s.heap.objs.size) {s with heap:=h',toks:=q}):
  wpAny (model prog w) A (call (.type "set") [.ref t]) Q E s:=by
 obtain⟨c,tl,akf⟩:=F.called_set.mro;have agm:=F.called_set.made;have adW:=F.called_set.sub;refine XW (aaH ?_);show wpAny _ _ (callAny (.type "set") _) _ _ _;refine Ru ⟨aah.quiet_builtin _ (by left),ahY F.entry_type_call ?_⟩;rw[Sk.under_plain (adn "set" [.ref t] []) rfl];have h1:=F.called_set.notType;have h2:=F.called_set.canCreate;have Y:=F.typeCall_set_1 (.ref t)
 repeat (any_goals (first|assumption|wp_step))
 refine Vk (code_set_new_1 (.ref t) (E:=E) (Q₁:=λobj j=>∃d:Bool,obj=.ref s.heap.objs.size/\j={s with heap:=s.heap.push (sC d)}) λd=>⟨d,rfl,rfl⟩) λr j C=>?_
 match r,C with
 |.error e,C=>exact C
 |.ok (.ret obj),⟨d,e1,e2⟩=>
  subst e1 e2;have N:(s.heap.push (sC d)).get? s.heap.objs.size=ax (sC d):=dN _ rfl;have hT:Ro.TypeIs {s with heap:=s.heap.push (sC d)} (.ref s.heap.objs.size) "set":=⟨_,N,rfl⟩;have U:=F.called_set.init.lookup;have Z:=F.called_set.init.bind (.ref s.heap.objs.size)
  repeat (any_goals (first|assumption|wp_step))
  refine Vk (TK (R:=wants (λr g=>r=.none/\∃h' q,g={s with heap:=h',toks:=q}/\B4 prog w s a.size ns h') E) F.called_set.init.plain F.entry_set_init (check_set_init_1 hT ?_)) λl g f=>?_
  .have m:(s.heap.push (sC d)).IsTuple t a:=B.push _
   have O:t<s.heap.objs.size:=by obtain⟨_,e,_⟩:=B;exact dt e
   obtain⟨⟨arl,L,ama,M⟩,G,p,S,n⟩:=id B;simp only at p n;subst p n;have aph:(s.heap.push (sC d)).get? t=ax {cls:=.type "tuple",dict:=L,data:=.seq a S,slots:=M}:=c6 _ G;have aqn:=F.sub_tuple_set;have ana:=F.sub_tuple_frozenset;have Xa:(Rf.type "tuple"==Rf.type "dict")=Rh:=by decide
   unfold R8.«set.__init__» noKeywords R8.Frozenset.updateFrom;generalize hPI:pyIter=PI
   wp_walk
   subst hPI;refine UH m ?_;refine Ld (wpAny_runValue ?_);have H:A.in1.in1.in1.handled=cL:=by simp[X]
   have J:t≠(s.heap.push (sC d)).objs.size:=by rw[ec];exact RO (U0 O)
   have I:s.heap.objs.size∉[(s.heap.push (sC d)).objs.size,t]:=by rw[ec];simp only[Rn,RA,Rv,or_false,not_or];exact⟨RO (Zf _),Ti O⟩
   have K:∀(i:Nat) (v:Rf),a[i]?=ax v->∃t,v=.int ((λi=>ns.getD i 0) i) t:=λi v T=>acG hi i v (by rw[Xe];exact T);refine ah4 ((afe.tuple H _ t J a).toS) s.heap.objs.size I (λi=>ns.getD i 0) K u (a.size - 0) 0 _ (by ext) (Tp _)
    ⟨⟨_,dN _ rfl,rfl,rfl⟩,m.push _⟩ ?hS0 ?hR
   case hS0=>
    exact ah5 ((ah6 (knd:=intKind prog w) d).setOf (c6 _ N) (by unfold scanBound;ext)) (λ_=>rfl) rfl
   case hR=>
    intro P hm k;obtain⟨h',g',d',y,z⟩:=P;have eg:g'=s.gens:=hm.gens;have ed:d'=s.drawn:=hm.drawn;have eo:z=s.os:=hm.os;subst eg ed eo;show wpAny _ _ _ _ _ _;refine Ru ?_;show wpAny _ _ (ret Rf.none) _ _ _;refine Ru ⟨rfl,h',y,rfl,k,λb o u e=>?_⟩;exact hm.heap b o (by simp only[Rn,RA,Rv,or_false,not_or];exact⟨RO u,by rw[ec];exact RO (U0 u)⟩) (c6 _ (c6 _ e))
  .match l,f with
   |.error e,f=>exact f
   |.ok (.ret r),⟨e1,h',q,e2,k⟩=>
    subst e1 e2
    repeat (any_goals (first|assumption|wp_step))
    exact h _ _ k
end
end PySem
namespace PyProof.Rows
open PySem
section
variable{prog:RT}{w:SG}{A:Sk}{E:Rf->Ro->Prop}{s:Ro}
theorem AW(b:h.get? a=ax (seqObj "list" vs.toArray n)):∃e,(sortedHeap h a vs out).get? a=ax (seqObj "list" out e):=by have c:=get?_update_seq b (λ_=> #[]);exact⟨_,get?_update_seq (c6 _ (c6 _ c)) _⟩
theorem yJ(c:b≠a)(e:h.get? b=ax o):(sortedHeap h a vs out).get? b=ax o:=
 (d4 _ _ (et c)).trans (c6 _ (c6 _ ((d4 _ _ (et c)).trans e)))
theorem Ad{l:Rq}{vs:cM Rf}{ns:cM Int}{Q:Rf->Ro->Prop}(g:s.heap.IsTuple l vs.toArray)(r:IntsAre vs ns)(f:vs.length<64)
  (h:∀(a h':Heap) (out:Array Rf) (e:Nat) (c:cM Int),(∀b o,s.heap.get? b=ax o->a.get? b=ax o)->h'.get? a.objs.size=ax (seqObj "list" out e)->(∀b o,a.get? b=ax o->h'.get? b=ax o)->IntsAre out.toList c->c.Perm ns->c.Pairwise (·<=·)->Q (.ref a.objs.size) {s with heap:=h'}):
  wpAny (model prog w) A (call (.builtin "sorted") [.ref l]) Q E s:=by
 obtain⟨o,i,q,n,p⟩:=g;refine Calls.call_function_entry kind_sorted plain_sorted entry_sorted (args_sorted1 _) (Ld (m:=checkCount "sorted" 1 1 _) (Ru (Ld (wpAny_collect_seq l (.inr rfl) i q p (λa j=>Ld (wpAny_newList ?_)) (by rw[RB,Vy];ext)))));have d:(a.push (seqObj "list" vs.toArray 0)).get? a.objs.size=ax (seqObj "list" vs.toArray 0):=dN _ rfl;refine Ld (U1 (UL slot_list_sort ⟨_,d,rfl⟩ entry_list_sort (list_sort_tree d r f λout c v u t=>⟨_,rfl,Ru ⟨_,rfl,?_⟩⟩) (args_list_sort _)));obtain⟨e,k⟩:=AW (out:=out) d;exact h a _ out e c j k (λb y z=>yJ (RO (dt z)) (c6 _ z)) v u t
end
end PyProof.Rows
namespace L9
open PySem PySem.Spec PyProof.Rows L2 L3
section
variable{K:td}{E:XK}
def Cg(ns:cM Int):Nat:=(ns.foldl step_dedup []).length
theorem wo(ns:cM Int):firstMet (λi=>ns.getD i 0) ns.length=ns.foldl step_dedup []:=by unfold firstMet;congr 1;refine List.ext_getElem (by simp) λi a b=>?_;simp at a;simp[a]
def Jy(K:td):cM V->Hp->VK->Prop:=λxs H Q=>∃(a:Rq) (b:cM Int),xs=[.ref a]/\We K H a (b.map V.int)/\b.length<=1000/\∀S p,H p=cL->Q (.ref p) (dg H p (.set S (Cg b)))
theorem Dc(n:X.calm=OK):U4 X (.type "set") (Jy X.K):=by
 intro f s t H xs v Q I r h;obtain⟨a,j,rfl,k,hn,q⟩:=h;obtain⟨u,rfl,i⟩:=kX r;cases i;obtain⟨p,d,l,_⟩:=I.tuple k;have g:p.length=j.length:=by rw[<-d.length,CL]
 refine xt (I.ok.hd n) l (by simpa using pG d) (by rw[RB,g];unfold scanBound;ext) λz y c=>?_;rw[RB,g]at c;obtain⟨c,m⟩:=c;rw[wo]at c;exact⟨.ref s.heap.objs.size,_,I.laid (λb o e=>m b o (dt e) e) (Rr _) (show UE X.prog X.w _ _ _ (.set _ _)from c),rfl,q _ _ (I.TL.fresh (Rr _))⟩
def BB:cM V->Hp->VK->Prop:=λxs H Q=>∃(p:Rq) (S:Int->Bool) (n:Nat),xs=[.ref p]/\H p=ax (.set S n)/\Q (.int n) H
theorem yC:U4 X (.builtin "len") BB:=by intro a s k H xs l Q I r h;obtain⟨p,S,n,rfl,c,q⟩:=h;obtain⟨u,rfl,b⟩:=kX r;cases b;obtain⟨o,m,v,t,j,i,g,_,_,f,e,d⟩:=I.TL p _ c;subst d;exact call_len_set j i g e (by unfold scanBound at f;ext) ⟨.int _,H,I.tok _,⟨_,rfl⟩,q⟩
def qZ:cM D->c5 RV
 |[.tuple ds]=>(match sM ds with
  |some a=>if a.length<=1000 then ax (.fz (.int (Cg a)))else cL
  |none=>cL)
 |_=>cL
def tM(b:FA):FE:=λρ=>(b ρ).bind λa=>(Res.Ta (mS a.2 a.1)).bind λc=>(Res.Ta (qZ c)).bind λrv=>.ok (rv.pv,a.2)
theorem C4(n:AO K E tl fl):EO K E (Mp BB (mL (Mp (Jy K) tl) xm)) (tM fl):=by
 intro B v O i H ρ Q R w;refine n B v O i H ρ _ R (w.bind.imp λa d u y A t h k=>?_);obtain⟨z,j,d⟩:=d.Ta;obtain⟨rv,c,d⟩:=d.Ta;have o:=rG h k j;unfold qZ at c;split at c
 .split at c
  .rename_i e m
   split at c
   .rename_i hn
    cases c;cases o with
    |cons r q=>cases q;obtain⟨b,vs,rfl,f,l⟩:=C5 r;rw[ti l m]at f;refine⟨b,e,rfl,f.1,hn,λS p g=>⟨p,S,Cg e,rfl,bz,?_⟩⟩;exact d u _ _ (t.trans (Ev.grow (ce g _))) (h.grow (ce g _)) (.int _)
   .cases c
  .cases c
 .cases c
theorem Dr(b:fl ρ=.ok (ps,ρ1))(c:mS ρ1 ps=ax es)(a:qZ es=ax rv):tM fl ρ=.ok (rv.pv,ρ1):=by unfold tM;rw[b,fu];dsimp only;rw[c];show((Res.Ta (qZ es)).bind _)=_;rw[a];rfl
theorem wH:U4 X (.builtin "sorted") (λxs H Q=>∃(p:Rq) (ns:cM Int),xs=[.ref p]/\We X.K H p (ns.map V.int)/\ns.length<64/\∀(l:Rq) (a:cM Int),H l=cL->a.Perm ns->a.Pairwise (·<=·)->Q (.ref l) (dg H l (.lst (a.map V.int)))):=by
 intro f s y H xs z Q I r h;obtain⟨p,ns,rfl,m,v,q⟩:=h;obtain⟨u,rfl,j⟩:=kX r;cases j;obtain⟨C,rv,pl,A⟩:=I.tuple m;have n:=rv.length;rw[CL]at n;refine Ad pl (pG rv) (by ext) λw B c e a o t d hi g k=>?_;have b:=g.length_eq;have i:=I.kept (t':=s.toks) o;refine⟨.ref w.objs.size,_,i.laid d (Rr _) ?_,rfl,q _ a (i.TL.fresh (Rr _)) g k⟩;refine⟨?_,c.toList,e,oG hi,t⟩;rw[CL,b];have:(64:Nat)<=RL:=by decide
 ext
theorem qr:U4 X (.builtin "sorted") (λxs H Q=>(∃(p:Rq) (ns:cM Int),xs=[.ref p]/\Wh X.K H p (ns.map V.int)/\ns.length<64/\∀(l:Rq) (a:cM Int),H l=cL->a.Perm ns->a.Pairwise (·<=·)->Q (.ref l) (dg H l (.lst (a.map V.int))))\/
  (∃(p:Rq) (ns:cM Int),xs=[.ref p]/\We X.K H p (ns.map V.int)/\ns.length<64/\∀(l:Rq) (a:cM Int),H l=cL->a.Perm ns->a.Pairwise (·<=·)->Q (.ref l) (dg H l (.lst (a.map V.int))))):=L2.U4.or yc wH
def tK:cM D->c5 RV
 |[.tuple ds]=>(match sM ds with
  |some a=>if a.length<64 then ax (.ow ((lH a).map .int))else cL
  |none=>cL)
 |ds=>xK ds
theorem uh:DL K (λxs H Q=>(∃(p:Rq) (ns:cM Int),xs=[.ref p]/\Wh K H p (ns.map V.int)/\ns.length<64/\∀(l:Rq) (b:cM Int),H l=cL->b.Perm ns->b.Pairwise (·<=·)->Q (.ref l) (dg H l (.lst (b.map V.int))))\/
  (∃(p:Rq) (ns:cM Int),xs=[.ref p]/\We K H p (ns.map V.int)/\ns.length<64/\∀(l:Rq) (b:cM Int),H l=cL->b.Perm ns->b.Pairwise (·<=·)->Q (.ref l) (dg H l (.lst (b.map V.int))))) tK:=by
 intro O H xs ds rv Q n d e q;unfold tK at e;split at e
 .split at e
  .rename_i ns g
   split at e
   .rename_i hn
    cases e;cases d with
    |cons j i=>cases i;obtain⟨a,vs,rfl,f,k⟩:=C5 j;rw[ti k g]at f;refine .inr ⟨a,ns,rfl,f.1,hn,λl b h c o=>?_⟩;have m:=sj (c.trans (mi ns).symm) o (iX ns);subst m;exact q.new (uL _) l h
   .cases e
  .cases e
 .exact .inl (vB O H xs ds rv Q n d e q)
theorem M3:SS "set"=ax (.type "set"):=by left
end
end L9
namespace L9
open PySem PySem.W PyProof.Rows Builtin Builtin.ObjectAttr
section
variable{prog:RT}{w:SG}{A:Sk}{K:Frag}{B C x p:Rq}{s:Ro}{R:aey->Ro->Prop}{cd:ClassData}{name:Str}{Z:Tok}{v:Rf}{fs:Array Rf}{m:Str->c5 Rf}{ns:cM Str}
theorem EB(X:K.In s.heap)(i:clsIn K C=ax cd)(hm:cd.mro=.ref C:: .ref B::CH)(hd:cd.hasDict=OK)(hn:findIn K (.ref C) name=ax cL)(k:s.heap.get? x=ax ⟨.ref C,ax p,.fields fs,#[]⟩)(u:∃od,s.heap.get? p=ax od)(r:s.heap.Ns1 p m)(l:Within m ns)(H:ns.length<1000)
  (q:∀h' tk',h'.Ns1 p (λy=>if y=name then ax v else m y)->(∀b o,b≠p->s.heap.get? b=ax o->h'.get? b=ax o)->R (.ok (.ret .none)) {s with heap:=h',toks:=tk'}):
  codeAny (model prog w) A (.call (.builtin "object.__setattr__") ⟨[.ref x,.str name Z,v],[]⟩) R s:=by
 obtain⟨od,d⟩:=u;have I:InstAt s.heap x ⟨.ref C,ax p,.fields fs,#[]⟩ C (ax od):=⟨k,rfl,rfl,d⟩;have c:=aaI;have sub:Looks (model prog w) s.heap (isInstance (.ref x) (.type "object")) OK:=I.type.andThen (looks_mroIn X (by unfold mroIn;rw[i,acF,hm,ar (by simp)];simp));refine TK c.slot.plain c.entry (@check_slot (model prog w) _ _ s "object.__setattr__" "object" "__setattr__" (.ref x) [.str name Z,v] [] _ c.kind c.split sub (c.args (.ref x) (.str name Z) v) ?_);have f:Looks (model prog w) s.heap (mroOf (.ref C)) cd.mro:=(looks_clsIn X i).andThen .now;rw[osa_eq,refuse_eq];refine Ld (Ld (I.type.here (Ld (f.here ?_))));rw[hm,Yw,Yw,ZP.passes];refine Ru (Ld (I.type.here (Ld ((looks_findIn X hn).here (Ld (Ru ?_))))));show wpAny _ _ (storeInOwnDict (.ref x) (.ref C) (.str name Z) name v _) _ _ _;unfold storeInOwnDict;refine Ld (Ru (Ld ?_));unfold ownDictForStores instanceDict;refine Ld (abh k (Ld ((looks_clsIn X i).here ?_)));rw[hd,ar (by decide)];refine Ru ?_;show wpAny _ _ (storeInDict p (.str name Z) name v) _ _ _;unfold storeInDict newKeyGuard;refine Ld (Ru (Ld (wpAny_nsSet1 r λh' a n=>?_)));obtain⟨G,z,E,e,g,h⟩:=a.count (Within.cons name v l);refine Ld (af4 e (by rw[g];exact af5 (SH h (by rw[Rk,Vy];ext))) ?_);refine Ru (q h' _ a λb F j t=>?_);exact(n.2 b j).trans t
theorem GZ{E:Rf->Ro->Prop}{Q:Unit->Ro->Prop}(X:K.In s.heap)(i:clsIn K C=ax cd)(hm:cd.mro=.ref C:: .ref B::CH)(hd:cd.hasDict=OK)(c:findIn K (.ref C) "__setattr__"=ax (ax (.builtin "object.__setattr__")))(hn:findIn K (.ref C) name=ax cL)(d:s.heap.get? x=ax ⟨.ref C,ax p,.fields fs,#[]⟩)(j:∃od,s.heap.get? p=ax od)(g:s.heap.Ns1 p m)(e:Within m ns)(h:ns.length<1000)
  (f:∀h' tk',h'.Ns1 p (λy=>if y=name then ax v else m y)->(∀b o,b≠p->s.heap.get? b=ax o->h'.get? b=ax o)->Q () {s with heap:=h',toks:=tk'}):
  wpAny (model prog w) A (setAttr (.ref x) name v) Q E s:=by
 obtain⟨od,a⟩:=j;exact set_plain X (⟨d,rfl,rfl,a⟩:InstAt s.heap x ⟨.ref C,ax p,.fields fs,#[]⟩ C (ax od)) c (EB (s:={s with toks:=s.toks+1}) X i hm hd hn d ⟨od,a⟩ g e h f)
end
open PySem.Spec L2
section
variable{X:Cx}{B C fI:Rq}{Z:Pos}
def J1(C:Rq)(f:Str)(d c:TE):TS:=λD a H=>c a H λv g=>d a g λx b=>∃e p fs,x=.ref e/\b e=ax (.ext (KQ C e p))/\b p=ax (.xd fs)/\fs.length<1000/\D.nx a (dg b p (.xd ((f,v)::fs)))
theorem CG{fs:cM (Str×V)}{a:Str->c5 Rf}(h:∀f,aa2 (fs.lookup f) (a f)):aeu a (fs.map (·.1)):=λy b=>by
 have:=h y;cases q:fs.lookup y with
 |none=>
  rw[q]at this;cases z:a y with
  |none=>exact a7 z b
  |some u=>rw[z]at this;exact this.elim
 |some v=>exact RF.mpr ⟨(y,v),TM q,rfl⟩
theorem Gy{o c:SI}{f:Str}{Q P:TE}{j:Pos}(T:XC X.K C B fI)(hn:RI X.K (.ref C) f=ax cL)(ha:PE X o Q)(hv:PE X c P)(hs:Ug c (ax (.Attribute o f j)) Z.line X.env=pure Rh):PS X (.Assign [.Attribute o f j] c Z) (J1 C f Q P):=by
 intro l s F H D I h;refine Z0 (fR (hv l s F H _ I h) λu Y ⟨v,H1,I1,rv,q⟩=>fR (ha l Y F H1 _ I1 q) λov R ⟨x,E,r,rx,e,p,t,ex,hE,i,hl,q2⟩=>?_) hs;subst ex;obtain rfl:ov=Rf.ref e:=rx;obtain⟨⟨fs,a0,g1,g2,g3⟩,_,gk⟩:=(show UE X.prog X.w E R.heap e (.ext (KQ C e p))from r.TL e _ hE);obtain⟨mA,S,m⟩:=(show UE X.prog X.w E R.heap p (.xd t)from r.TL p _ i);obtain⟨nm,q',N,bs,sn,sub,ab,col,dd,k0,k1,k2,k3,k5,lk,TL,hin⟩:=T.obj;obtain⟨cd,hc,L,O⟩:∃cd,VA X.K C=ax cd/\cd.mro=.ref C:: .ref B::CH/\cd.hasDict=OK:=by unfold VA;rw[lk];exact⟨_,rfl,rfl,rfl⟩
 refine GZ (ns:=t.map (·.1)) r.YE hc L O T.sa hn g1 (by obtain⟨o,_,_,z,_⟩:=S;exact⟨o,z⟩) S (CG m) (by rw[CL];exact hl) λh' J U A=>?_;refine⟨F,_,?_,q2⟩;have M:∃o,h'.get? p=ax o:=by obtain⟨o,_,_,z,_⟩:=U;exact⟨o,z⟩
 refine r.un (h':=h') (t':=J) (H':=dg E p (.xd ((f,v)::t))) ⟨λb o z n _ _=>A b o (λy=>by rw[y,i]at n;cases n) z,λb o z n _ _=>⟨o.slots,A b o (λy=>by rw[y,i]at n;cases n) z⟩,λb o z n _=>?_,λb o z _=>?_,λb xs z=>?_,λb o u z=>?_,λb ps z=>⟨#[],?_⟩⟩ ?_
 .rw[aM (λy=>by rw[y,i]at n;cases n)];exact n
 .by_cases y:b=p
  .subst y;exact M
  .exact⟨o,A b o y z⟩
 .rw[aM (λy=>by rw[y,i]at z;cases z)];exact z
 .rw[aM (λy=>by rw[y,i]at z;cases z)];exact z
 .rw[aM (λy=>by rw[y,i]at z;cases z),z];simp
 .intro a o z
  by_cases G:a=p
  .subst G
   rw[bz]at z;cases z;refine⟨_,U,λg=>?_⟩;show aa2 (match g==f with|true=>ax v|false=>WA g t) (if g=f then ax u else mA g);cases d:g==f with
   |true=>rw[ak (beq_iff_eq.mp d)];exact rv
   |false=>rw[ar (λw=>by rw[beq_iff_eq.mpr w]at d;cases d)];exact m g
  .rw[aM G]at z
   have own:∀b,E b=ax (.own a)->b≠p:=λb y k=>by rw[k,i]at y;cases y
   refine(r.TL a o z).WV (λb w d y=>A b w (λk=>?_) y) (λb y=>by rw[aM (own b y)];exact y) λb xs y=>by rw[aM (λk=>by rw[k,i]at y;cases y)];exact y
   rcases d with d|d
   .exact G (d.symm.trans k)
   .exact own b d k
end
open L3 L4
def qM(C:Rq)(f g:Str):Sp:=λvs H Q _=>∃e v u,vs=[.ref e,v,u]/\KH v/\KH u/\H e=ax (.ext (HV C e))/\∀p,H p=cL->p≠e->Q .Uo (dg (dg H e (.ext (KQ C e p))) p (.xd [(g,u),(f,v)]))
def jI(c f g:Str)(b:FA):FS:=λρ=>(b ρ).bind λa=>(Res.Ta (mS a.2 a.1)).bind λds=>match ds with
 |[d,e]=>if r6 d=OK/\r6 e=OK then .er ⟨c,[(g,e),(f,d)]⟩else .bad
 |_=>.bad
theorem ET{K:td}{O:eH}{H:Hp}{v:V}{d:D}(dx:DX O K H v d)(a:r6 d=OK):KH v/\∀(b:eH) (H':Hp),DV b K H' v d:=by
 cases d with
 |none=>cases dx;exact⟨.inl rfl,λ_ _=>.Uo⟩
 |int i=>cases dx;exact⟨.inr ⟨i,rfl,a6 a⟩,λ_ _=>.int i⟩
 |_=>cases a
theorem mH{K:td}{E:XK}{c f g:Str}{C:Rq}{F:TA}{J:FA}(S:(f==g)=Rh)(T:RG K RD c=ax (ax (.ref C)))(ha:AO K E F J):SO K E (xD C (qM C f g) E F) (jI c f g J):=by
 intro B Y O M H ρ D R w;refine ha B Y O M H ρ _ R (w.bind.imp λa h O1 vs X e1 L P=>?_);obtain⟨ds,N,h⟩:=h.Ta;have dx:=rG L P N
 match ds,dx,h with
 |[d,d2],.cons (a:=v) h1 (.cons (a:=u) h2 .nil),h=>
  dsimp only at h;by_cases r:r6 d=OK/\r6 d2=OK
  .rw[ak r]at h
   have G:=ET h1 r.1;have n:=ET h2 r.2;refine⟨by show 2<=RL;decide,λe hn=>⟨e,v,u,rfl,G.1,n.1,bz,λp I k=>⟨rfl,p,?_,?_⟩⟩⟩
   .rw[aM (et k),bz]
   .have A:X p=cL:=by rw[aM k]at I;exact I
    refine h (.ref C) (ax p) _ (λb o z=>?_) ⟨⟨C,rfl,T⟩,[(g,u),(f,v)],λZ q=>?_,λj U l=>⟨(λz=>nomatch z),?_⟩⟩
    .have m:=L.same b o z
     have t:b≠e:=λy=>by rw[y,hn]at m;cases m
     have Q:b≠p:=λy=>by rw[y,A]at m;cases m
     rw[kG t,aM Q,aM t,aM t];exact m
    .cases q;rw[kG k,bz]
    .have i:(match j==g with|true=>ax d2|false=>(match j==f with|true=>ax d|false=>WA j []))=ax U:=l
     show∃x,(match j==g with|true=>ax u|false=>(match j==f with|true=>ax v|false=>WA j []))=ax x/\_;cases hb:j==g with
     |true=>rw[hb]at i;cases i;exact⟨u,rfl,n.2 _ _⟩
     |false=>
      rw[hb]at i;dsimp only at i⊢;cases hb2:j==f with
      |true=>rw[hb2]at i;cases i;exact⟨v,rfl,G.2 _ _⟩
      |false=>rw[hb2]at i;cases i
  .rw[ar r]at h;exact h.elim
 |[],_,h=>exact h.elim
 |[_],_,h=>exact h.elim
 |_::_::_::_,_,h=>exact h.elim
end L9
namespace LD
open PySem PyProof.Rows L2 L3
mutual
def kd:lD->Bool
 |.none=>OK
 |.int _=>OK
 |.str x=>lD.strOk x
 |.tuple xs=>DQ xs
 |_=>Rh
def DQ:cM lD->Bool
 |[]=>OK
 |x::r=>kd x&&DQ r
end
def PH:lD->Bool
 |.tuple xs=>DQ xs&&decide ((lD.tuple xs).depth<=8)
 |_=>Rh
mutual
theorem Mb:∀d:lD,kd d=OK->d.canLay0=OK
 |.none,_=>rfl
 |.int _,_=>rfl
 |.str x,h=>by unfold lD.canLay0;unfold kd at h;exact h
 |.tuple xs,h=>by unfold lD.canLay0;unfold kd at h;exact Bj xs h
 |.bool _,h|.list _,h|.dict _,h=>by simp[kd]at h
theorem Bj:∀xs:cM lD,DQ xs=OK->lD.canLayAll0 xs=OK
 |[],_=>rfl
 |x::r,h=>by unfold DQ at h;rw[Rz]at h;unfold lD.canLayAll0;rw[Mb x h.1,Bj r h.2];rfl
end
mutual
theorem KU:∀d e:lD,kd d=OK->kd e=OK->lD.eqv d e=OK->d=e
 |.none,e,_,h,q=>by cases e<;>simp_all [kd,lD.eqv]
 |.int i,e,_,h,q=>by cases e<;>simp_all [kd,lD.eqv]
 |.str x,e,_,h,q=>by cases e<;>simp_all [kd,lD.eqv]
 |.tuple xs,e,g,h,q=>by
  cases e with
  |tuple a=>rw[lD.eqv]at q;unfold kd at g h;rw[BG xs a g h q]
  |_=>simp_all [kd,lD.eqv]
 |.bool _,_,h,_,_|.list _,_,h,_,_|.dict _,_,h,_,_=>by simp[kd]at h
theorem BG:∀xs ys:cM lD,DQ xs=OK->DQ ys=OK->lD.eqvAll xs ys=OK->xs=ys
 |[],[],_,_,_=>rfl
 |[],_::_,_,_,q=>by simp[lD.eqvAll]at q
 |_::_,[],_,_,q=>by simp[lD.eqvAll]at q
 |x::xs,y::ys,g,h,q=>by unfold DQ at g h;rw[lD.eqvAll]at q;rw[Rz]at g h q;rw[KU x y g.1 h.1 q.1,BG xs ys g.2 h.2 q.2]
end
mutual
def BZ(w:SG):lD->Int
 |.none=>reduceHash 0xFCA86420
 |.int i=>hashInt i
 |.str x=>hashStr w x
 |.tuple xs=>reduceHash (R8.Tuple.tupleHashOf (uB w xs))
 |_=>0
def uB(w:SG):cM lD->cM Int
 |[]=>[]
 |x::r=>BZ w x::uB w r
end
mutual
def Qj:lD->Nat
 |.tuple xs=>HY xs+1
 |_=>1
def HY:cM lD->Nat
 |[]=>0
 |x::r=>Qj x+HY r
end
section
variable{prog:RT}{w:SG}{E:Rf->Ro->Prop}
mutual
theorem Ie:∀(d:lD) (v:Rf) (as:cM Rq) (A:Sk) (s:Ro) (Q:Int->Ro->Prop),kd d=OK->Reads s.heap v d as->A.units+d.depth<cLine->Q (BZ w d) {s with toks:=s.toks+Qj d}->wpAny (model prog w) A (pyHash v) Q E s
 |.none,_,_,A,s,Q,_,r,hu,h=>by cases r;exact aa6 (T:= "NoneType") rfl F.slot_NoneType_hash F.entry_NoneType_hash (F.args_NoneType_hash_1 _) (af6 _) (.inr (by ext)) (Ld (Ru (Ld (wpAny_mkInt (Ru ⟨_,_,rfl,h⟩)))))
 |.int i,_,_,A,s,Q,_,r,_,h=>by cases r;exact afM h
 |.str x,_,_,A,s,Q,_,r,_,h=>by cases r;exact afN h
 |.tuple xs,_,_,A,s,Q,hk,r,hu,h=>by
  cases r with
  | @tuple a o vs n _ _ h1 h2 h3 h4=>
   refine aa6 (T:= "tuple") ⟨_,h1,h2⟩ F.slot_tuple_hash F.entry_tuple_hash (F.args_tuple_hash_1 _) (af6 _) (.inr (by ext)) ?_;show wpAny _ _ (R8.Tuple.tupleItemsOf (.ref a)>>=_) _ _ s;refine Ld (wpAny_tupleItemsOf h1 h3 ?_);refine Ld ?_;rw[<-Array.forIn_toList];unfold kd at hk;refine vO xs vs.toList _ A.in1 s #[] _ hk h4 (by simp only[lD.depth,Sk.in1_units]at hu⊢;ext) λb c=>?_;show wpAny _ _ (retInt (R8.Tuple.tupleHashOf b.toList)) _ _ _;rw[c];refine Ld (wpAny_mkInt (Ru ⟨_,_,rfl,?_⟩));unfold BZ Qj at h
   simpa [afj]using h
 |.bool _,_,_,_,_,_,h,_,_,_|.list _,_,_,_,_,_,h,_,_,_|.dict _,_,_,_,_,_,h,_,_,_=>by simp[kd]at h
theorem vO:∀(xs:cM lD) (vs:cM Rf) (as:cM Rq) (A:Sk) (s:Ro) (b:Array Int) (Q:Array Int->Ro->Prop),DQ xs=OK->ady s.heap vs xs as->A.units+lD.depthAll xs<cLine->
  (∀b':Array Int,b'.toList=b.toList++uB w xs->Q b' {s with toks:=s.toks+HY xs})->
  wpAny (model prog w) A (forIn vs b λx r=>do let h<-pyHash x;pure PUnit.unit;pure (ForInStep.yield (r.push h))) Q E s
 |[],_,_,A,s,b,Q,_,x,_,h=>by cases x;exact Ru (h b (by simp[uB]))
 |k::xs,_,_,A,s,b,Q,hk,x,hu,h=>by
  cases x with
  |cons c a=>
   unfold DQ at hk;simp only[Rz,lD.depthAll]at hk hu;rw[Xf];refine Ld (Ld (Ie k _ _ A s _ hk.1 c (by ext) ?_));refine Ld (Ru (Ru ?_));refine vO xs _ _ A _ _ Q hk.2 a (by ext) λb' d=>?_;have:=h b' (by simp[d,uB]);unfold HY at this
   simpa [afj]using this
end
end
mutual
theorem C0{h h':Heap}{x:Rq}{b:Obj}{es:Array WJ}{f:Nat}(c:h.get? x=ax b)(e:b.data=.dict es f)(hs:Heap.SameBut x h h'):∀(d:lD) (v:Rf) (as:cM Rq),kd d=OK->Reads h v d as->Reads h' v d as
 |.none,_,_,_,r=>by cases r;exact .none
 |.int _,_,_,_,r=>by cases r;exact .int _ _
 |.str _,_,_,_,r=>by cases r;exact .str _ _
 |.tuple xs,_,_,k,r=>by
  cases r with
  | @tuple a o vs n _ _ h1 h2 h3 h4=>
   have g:a≠x:=by rintro rfl;rw[c]at h1;cases h1;rw[e]at h3;exact nomatch h3
   unfold kd at k;exact .tuple ((hs.2 a g).trans h1) h2 h3 (uG c e hs xs _ _ k h4)
 |.bool _,_,_,h,_|.list _,_,_,h,_|.dict _,_,_,h,_=>by simp[kd]at h
theorem uG{h h':Heap}{x:Rq}{a:Obj}{es:Array WJ}{g:Nat}(b:h.get? x=ax a)(c:a.data=.dict es g)(hs:Heap.SameBut x h h'):∀(ds:cM lD) (vs:cM Rf) (as:cM Rq),DQ ds=OK->ady h vs ds as->ady h' vs ds as
 |[],_,_,_,r=>by cases r;exact .nil
 |d::ds,_,_,k,r=>by
  cases r with
  |cons f e=>unfold DQ at k;rw[Rz]at k;exact .cons (C0 b c hs d _ _ k.1 f) (uG b c hs ds _ _ k.2 e)
end
abbrev KD:={d:lD//PH d=OK}
noncomputable instance kdDec:DecidableEq KD:=λ_ _=>Classical.propDecidable _
def QQ(a:Rq)(xs:cM (KD×Rq×V))(w:SG)(h:Heap):Prop:=
 (xs.length<=RL/\(a==aet)=Rh/\(xs.map (·.1)).Nodup)/\∃o es ep,h.get? a=ax o/\o.ExactDict/\o.data=.dict es ep/\Paired (λ(x:KD×Rq×V) (e:WJ)=>e.hash=BZ w x.1.1/\e.key=.ref x.2.1/\RelV x.2.2 e.val) xs es.toList
abbrev DkO(a:Rq)(xs:cM (KD×Rq×V)):HO:=.exw (QQ a xs)
abbrev PrD(O:eH)(K:td)(H:Hp):cM (KD×Rq×V)->cM (D×D)->Prop:=
 Paired λx a=>x.1.1=a.1/\L3.DV O K H (.ref x.2.1) a.1/\L3.DV O K H x.2.2 a.2
end LD
namespace L10
open PySem L2 L3
inductive AV where
 |fz (d:D)
 |rf (i:Nat)
inductive SV where
 |fz (d:D)
 |rf (i:Nat)
 |tp (l:cM AV)
inductive Cell where
 |lst (xs:cM SV)
 |dct (W9:cM (rC×SV))
 |obj (C:Str) (fs:cM (Str×SV))
 |dd (W9:cM (D×D))
 |dead
abbrev mX:=cM Cell
abbrev ku:=cM (c5 SV)
inductive RS(α:Type) where
 |ok (a:α) (Z:mX)
 |er (x:Xc) (Z:mX)
 |bad
def RS.bind(r:RS α)(f:α->mX->RS β):RS β:=match r with
 |.ok a Z=>f a Z
 |.er x Z=>.er x Z
 |.bad=>.bad
def Lv(α:cM Rq)(Z:mX):eH:=λb=>∃(i:Nat) (c:Cell),α[i]?=ax b/\Z[i]?=ax c/\c≠Cell.dead
def ow(B:eH)(α:cM Rq)(Z:mX):eH:=λb=>B b\/Lv α Z b
section
variable(O:eH)(K:td)(H:Hp)(Z:cM Rq)
def QS(v:V):AV->Prop
 |.fz d=>DV O K H v d
 |.rf i=>∃a,Z[i]?=ax a/\v=.ref a
def Mr(v:V):SV->Prop
 |.fz d=>DV O K H v d
 |.rf i=>∃a,Z[i]?=ax a/\v=.ref a
 |.tp l=>∃a xs,v=.ref a/\XG O K H a xs/\Paired (QS O K H Z) xs l
abbrev Kv:cM V->cM SV->Prop:=Paired (Mr O K H Z)
def QX(a:Rq):Cell->Prop
 |.lst xs=>∃vs,H a=ax (.lst vs)/\Kv O K H Z vs xs
 |.dct W9=>∃ws:cM (rC×V),H a=ax (.dK ws)/\Paired (λ(p:rC×V) (q:rC×SV)=>p.1=q.1/\Mr O K H Z p.2 q.2) ws W9
 |.obj C fs=>∃Ca dx ws,RG K RD C=ax (ax (.ref Ca))/\H a=ax (.ins Ca dx ws)/\Paired (λ(p:Str×V) (q:Str×SV)=>p.1=q.1/\Mr O K H Z p.2 q.2) ws fs
 |.dd W9=>∃xs,H a=ax (LD.DkO a xs)/\LD.PrD O K H xs W9
 |.dead=>True
def Eo(a:L2.St)(ρ:ku):Prop:=a.length=ρ.length/\∀(i:Nat) (x:SV),ρ[i]?=ax (ax x)->∃v,a[i]?=ax (ax v)/\Mr O K H Z v x
end
structure aae(B:eH)(K:td)(H:Hp)(α:cM Rq)(Z:mX):Prop where
 len:α.length=Z.length
 nd:∀(i j:Nat) (a:Rq),α[i]?=ax a->α[j]?=ax a->i=j
 bn:∀a,B a->H a≠cL
 ba:∀a,B a->∀i:Nat,α[i]?≠ax a
 al:∀(i:Nat) (a:Rq),α[i]?=ax a->H a≠cL
 cel:∀(i:Nat) (a:Rq) (c:Cell),α[i]?=ax a->Z[i]?=ax c->QX (ow B α Z) K H α a c
structure Evo(α:cM Rq)(Z:mX)(H:Hp)(α':cM Rq)(Z':mX)(H':Hp):Prop where
 pre:∀(i:Nat) (a:Rq),α[i]?=ax a->α'[i]?=ax a
 kp:∀b o,H b=ax o->¬Lv α Z b->H' b=ax o
 lv:∀b,Lv α' Z' b->Lv α Z b\/H b=cL
section
variable{B O O':eH}{K:td}{E:XK}{H H' Q N:Hp}{U Y X T:cM Rq}{Z R S M:mX}{σ:L2.St}{ρ:ku}{v:V}
theorem Evo.refl:Evo U Z H U Z H:=⟨λ_ _ h=>h,λ_ _ h _=>h,λ_ h=>.inl h⟩
theorem Evo.trans(a:Evo U Z H X S Q)(b:Evo X S Q T M N):Evo U Z H T M N:=by
 have c:∀b o,H b=ax o->¬Lv U Z b->¬Lv X S b:=λb o h n z=>(a.lv b z).elim n λq=>by rw[h]at q;cases q
 refine⟨λi p h=>b.pre i p (a.pre i p h),λp o h n=>b.kp p o (a.kp p o h n) (c p o h n),λp h=>?_⟩;rcases b.lv p h with h|h
 .exact a.lv p h
 .cases q:H p with
  |none=>exact .inr rfl
  |some o=>refine .inl (Classical.byContradiction λn=>?_);rw[a.kp p o q n]at h;cases h
def WS(K:td)(E:XK)(B:eH)(H:Hp)(U:cM Rq)(Z:mX)(P:A->cM Rq->mX->Hp->Prop):RS A->Prop
 |.ok a R=>∀Y H',Evo U Z H Y R H'->aae B K H' Y R->P a Y R H'
 |.er x R=>∀c dx Y H',Evo U Z H Y R H'->aae B K H' Y R->QJ K (ow B Y R) H' c dx x->E c dx H'
 |.bad=>False
theorem WS.from(e:Evo U Z H X S Q)(h:WS K E B H U Z P r):WS K E B Q X S P r:=by
 cases r with
 |ok a M=>exact λT N d b=>h T N (e.trans d) b
 |er x M=>exact λc dx T N d b=>h c dx T N (e.trans d) b
 |bad=>exact h
theorem WS.bind(h:WS K E B H U Z P (r.bind k)):WS K E B H U Z (λa X S Q=>WS K E B Q X S P (k a S)) r:=by
 cases r with
 |ok a S=>exact λX Q b _=>WS.from b h
 |er x S=>exact h
 |bad=>exact h
theorem WS.imp(h:WS K E B H U Z P r)(g:∀a Y R H',Evo U Z H Y R H'->aae B K H' Y R->P a Y R H'->P' a Y R H'):WS K E B H U Z P' r:=by
 cases r with
 |ok a S=>exact λX Q c b=>g a X S Q c b (h X Q c b)
 |er x S=>exact h
 |bad=>exact h
theorem WS.now(s:aae B K H U Z)(h:WS K E B H U Z P (.ok a Z)):P a U Z H:=h U H .refl s
end
section
variable{B O O':eH}{K:td}{E:XK}{H H' H1 H2:Hp}{α Y α1 α2:cM Rq}{Z Z' Z1 Z2:mX}{σ:L2.St}{ρ:ku}{v:V}
abbrev PQ(B:eH)(K:td)(Q:VK):SV->cM Rq->mX->Hp->Prop:=λx Y Z' H'=>∀v,Mr (ow B Y Z') K H' Y v x->Q v H'
end
section
variable{B O O':eH}{K:td}{E:XK}{H H' H1 H2:Hp}{Y α' α1 α2:cM Rq}{Z Z' Z1 Z2:mX}{σ:L2.St}{ρ:ku}{v:V}
theorem E4:∀{vs:cM V} {xs:cM β} {i:Nat} {x:β},Paired R vs xs->xs[i]?=ax x->∃v,vs[i]?=ax v/\R v x
 |_,_,_,_,.nil,e=>by simp at e
 |_,_,0,_,.cons h _,e=>by simp at e;subst e;exact⟨_,rfl,h⟩
 |_,_,i+1,x,.cons _ t,e=>by obtain⟨v,b,a⟩:=E4 t (by simpa using e);exact⟨v,by simpa using b,a⟩
abbrev OQ:=cM SV->mX->RS SV
def Qp(K:td)(n:Nat)(F:OQ):Sp:=λvs H Q E=>vs.length=n/\∃(B:eH) (Y:cM Rq) (Z:mX) (xs:cM SV),aae B K H Y Z/\Kv (ow B Y Z) K H Y vs xs/\WS K E B H Y Z (PQ B K Q) (F xs Z)
end
inductive FlS where
 |nx (ρ:ku)
 |bk (ρ:ku)
 |ct (ρ:ku)
 |rt (x:SV)
abbrev NM:=ku->mX->RS FlS
def Nl(B:eH)(K:td)(D:Ends):FlS->cM Rq->mX->Hp->Prop
 |.nx ρ,α,Z,H=>∀σ,Eo (ow B α Z) K H α σ ρ->D.nx σ H
 |.bk ρ,α,Z,H=>∀σ,Eo (ow B α Z) K H α σ ρ->D.bk σ H
 |.ct ρ,α,Z,H=>∀σ,Eo (ow B α Z) K H α σ ρ->D.ct σ H
 |.rt x,α,Z,H=>∀v,Mr (ow B α Z) K H α v x->D.rt v H
def Qh(K:td)(E:XK)(t:TS)(g:NM):Prop:=
 ∀(B:eH) (a:L2.St) (H:Hp) (α:cM Rq) (Z:mX) (ρ:ku) (D:Ends),aae B K H α Z->Eo (ow B α Z) K H α a ρ->WS K E B H α Z (Nl B K D) (g ρ Z)->t D a H
section
variable{B O O':eH}{K:td}{E:XK}{H H' H1 H2:Hp}{Y α' U α2:cM Rq}{Z Z' X Z2:mX}{σ:L2.St}{ρ:ku}{v:V}
def Ke(N:Nat)(g:NM):OQ:=λxs Z=>(g (xs.map ax++RH (N - xs.length) cL) Z).bind λa X=>match a with
 |.rt x=>.ok x X
 |.nx _=>.ok (.fz .none) X
 |_=>.bad
theorem F0{N:cM Str}{vs:cM V}{xs:cM SV}(h:Kv O K H Y vs xs):Eo O K H Y (L2.start N vs) (xs.map ax++RH (N.length - xs.length) cL):=by
 have b:vs.length=xs.length:=Paired.length h;unfold L2.start;refine⟨by rw[Ry,Ry,CL,CL,S8,S8,b],λi x a=>?_⟩;by_cases hi:i<xs.length
 .rw[Tj (by rw[CL];exact hi),Rt]at a
  cases q:xs[i]? with
  |none=>rw[q]at a;cases a
  |some d=>rw[q]at a;cases a;obtain⟨v,c,e⟩:=E4 h q;refine⟨v,?_,e⟩;rw[Tj (by rw[CL,b];exact hi),Rt,c];rfl
 .rw[TN (by rw[CL];ext),Vo]at a;split at a<;>cases a
theorem uD{N:cM Str}{vs:cM V}{xs:cM SV}{g:NM}{t:TS}{Q:VK}{n:Nat}(hs:Qh K E t g)(h:Qp K n (Ke N.length g) vs H Q E):t {nx:=λ_ H'=>Q .Uo H',rt:=Q} (L2.start N vs) H:=by
 obtain⟨f,B,Y,Z,xs,s,c,w⟩:=h;refine hs B _ H Y Z _ _ s (F0 c) (WS.imp (WS.bind w) λd U X H1 i b a=>?_);cases d with
 |rt x=>exact WS.now (E:=E) b a
 |nx ρ=>exact λσ e=>WS.now (E:=E) b a .Uo .Uo
 |bk ρ=>exact a.elim
 |ct ρ=>exact a.elim
end
theorem N6{P:RT}{w:SG}{K:td}{mg:Str->c5 Rf}{base:Heap}{x a:Str}{st:Tq}{f:Rq}{c:S5}{N ps:cM Str}{k n m:Nat}{g:NM}{FF:OQ}(F:Vf K x a st f c)(S:Tz N ps (aI st))(hn:ps.length=n)(hm:N.length=m)(j:FF=Ke m g)
  (l:∀(b:Rf) (A:Sk) (outer:cM Env) (s:Ro) (H:Hp) (E:XK),U5 k (A.deeper (Se a (aI st) s.heap.objs.size f b))->
   ∃t,ZJ (gl fF P w K mg base N a (aI st) f b A outer s H E).Zq (aC st) t/\Qh K E t g):FnOk P w K mg base fF (k+1) f c ps (Qp K n FF):=by
 subst j hm;refine F.ok S (λvs H Q E h=>h.1.trans hn.symm) (λb A outer s H vs Q E i h=>?_);obtain⟨t,d,e⟩:=l b A outer s H E i;exact⟨t,d,uD (xs:=[]) e h⟩
end L10
namespace PySem
open Sem (wp)
section
variable{prog:RT}{w:SG}{A:Sk}{E:Rf->Ro->Prop}{h:Heap}{g:Array XF}{d:acz}{t:Nat}{os:aa5}{a:Rq}{o:Obj}
end
end PySem
namespace L10
open PySem PySem.Spec PyProof.Rows L2 L3
inductive acV(K:td)(H:Hp):cM V->cM (rC×V)->Prop
 |nil:acV K H [] []
 |cons {q:Rq} {k:rC} {v:V} {vs:cM V} {W9:cM (rC×V)}:We K H q [kV k,v]->acV K H vs W9->acV K H (.ref q::vs) ((k,v)::W9)
end L10
namespace L10
open PySem L2 L3
section
variable{ρ ρ1 ρ2:ku}{Z Z1 Z2 Z3 Z4:mX}{x y z:SV}{i n:Nat}{d dx dy:D}{ds:cM D}{b:Bool}
def P5(N C:ku->mX->Prop)(T:SV->mX->Prop):RS FlS->Prop
 |.ok (.nx ρ) Z=>N ρ Z
 |.ok (.ct ρ) Z=>C ρ Z
 |.ok (.rt v) Z=>T v Z
 |_=>False
structure GoS(r:RS FlS)(N C:ku->mX->Prop)(T:SV->mX->Prop):Prop where
 out:P5 N C T r
variable{f g:NM}{fe:FES}{N C:ku->mX->Prop}{T:SV->mX->Prop}
end
end L10
namespace L10
open PySem PyProof.Rows L2 L3
section
variable{O Z:eH}{K:td}{H H':Hp}{a b:Rq}{xs:cM V}{Y:Heap->Prop}
def OX(a:Rq)(O:eH)(H:Hp)(Z:eH)(H':Hp):Prop:=∀b o,b≠a->H b=ax o->¬O b->H' b=ax o/\¬Z b
theorem YB.evx(f:H a=ax (.ext Y))(h:YB O K H b xs)(e:OX a O H Z H'):YB Z K H' b xs:=by
 obtain⟨h,k⟩:=h;by_cases z:O b
 .exact⟨WH.same (oH H') (k z),λ_=>k z⟩
 .rcases h with(h|⟨o,h⟩)|h
  .obtain⟨d,c⟩:=e b _ (λy=>by rw[y,f]at h;cases h) h z;exact⟨.inl (.inl d),λy=>a7 y c⟩
  .obtain⟨d,c⟩:=e b _ (λy=>by rw[y,f]at h;cases h) h z;exact⟨.inl (.inr ⟨o,d⟩),λy=>a7 y c⟩
  .exact⟨.inr h,λ_=>.inr h⟩
theorem XG.evx(f:H a=ax (.ext Y))(h:XG O K H b xs)(e:OX a O H Z H'):XG Z K H' b xs:=by
 obtain⟨h,k⟩:=h;by_cases z:O b
 .exact⟨(oH H').tup (k z),λ_=>k z⟩
 .rcases h with(h|⟨o,h⟩)|h
  .obtain⟨d,c⟩:=e b _ (λy=>by rw[y,f]at h;cases h) h z;exact⟨.inl (.inl d),λy=>a7 y c⟩
  .obtain⟨d,c⟩:=e b _ (λy=>by rw[y,f]at h;cases h) h z;exact⟨.inl (.inr ⟨o,d⟩),λy=>a7 y c⟩
  .exact⟨.inr h,λ_=>.inr h⟩
mutual
theorem DV.evx(c:H a=ax (.ext Y))(e:OX a O H Z H'):∀{v:V} {d:D},L3.DV O K H v d->L3.DV Z K H' v d
 |_,_,.Uo=>.Uo
 |_,_,.bl b=>.bl b
 |_,_,.int i=>.int i
 |_,_,.str x=>.str x
 |_,_,.tup h hs=>.tup (XG.evx c h e) (T8.evx c e hs)
 |_,_,.lst h hs=>.lst (YB.evx c h e) (T8.evx c e hs)
theorem T8.evx(c:H a=ax (.ext Y))(e:OX a O H Z H'):∀{vs:cM V} {ds:cM D},L3.T8 O K H vs ds->L3.T8 Z K H' vs ds
 |_,_,.nil=>.nil
 |_,_,.cons h hs=>.cons (DV.evx c e h) (T8.evx c e hs)
end
end
end L10
namespace L3
open PySem L2
structure NI(K:td)(f:Rq)(n:Str)(t:Tq):Prop where
 a:RG K RD n=ax (ax (.ref f))
 F:∃fd,Vf K n n t f fd
structure MI(K:td)(C f:Rq)(m q:Str)(t:Tq):Prop where
 a:RI K (.ref C) m=ax (ax (.ref f))
 i:Us K (.ref f)=OK
 F:∃fd,Vf K m q t f fd
structure CI(K:td)(C:Rq)(n:Str)(fs:cM Str):Prop where
 a:RG K RD n=ax (ax (.ref C))
 pg:ab4 K C Str.empty=OK
 hd:T7 K C=OK
 po:abM K C=OK
 sa:RI K (.ref C) "__setattr__"=ax (ax (.builtin "object.__setattr__"))
 mm:acA K C=OK
 kc:UA K (.ref C)=OK
 fl:∀x∈fs,uP K C x
def BA(n q:Str)(t:Tq)(ps:cM Str):Prop:=∀(kV b c:Rf) (d:c5 Rq) (e ct:Rf) (a:cM Rf),a.length=ps.length->bindArgs (Vp n q (qH t) (aC t) (aI t) .none kV b c d e ct) ⟨a,[]⟩=pure (ps.zip a)
section
variable{P:RT}{w:SG}{K:td}{mg:Str->c5 Rf}{base h:Heap}{f C:Rq}{n m q:Str}{t:Tq}{ps fs:cM Str}{Z k:Nat}{sp sp':Sp}
theorem NI.Wr(i:NI K f n t)(X:K.In h)(G:h.Ns RD mg)(b:BA n n t ps)(ok:∀fd,Vf K n n t f fd->FnOk P w K mg base fF Z f fd ps sp):qX P w K mg base Z n ps sp:=
 let⟨fd,z⟩:=i.F;⟨f,fd,ok fd z,z.binds b,z.kp,SK X G i.a⟩
theorem NI.law(i:NI K f "law" t)(X:K.In h)(G:h.Ns RD mg)(b:mg "law"=ax (.ref fa))(l:BA "law" "law" t [x])(ok:∀base fd,Vf K "law" "law" t f fd->FnOk P w K mg base fF Z f fd [x] sp):∃fd:S5,(∀(s:Ro) (v:Rf),YO s fd ⟨[v],[]⟩ [(x,v)])/\∀base:Heap,K.In base->base.Ns RD mg->FnOk P w K mg base fF Z fa fd [x] sp:=by have e:=b.symm.trans (SK X G i.a);cases e;obtain⟨fd,z⟩:=i.F;obtain⟨u,r,kV,c,d,o,p,ct,g,rfl,y,j⟩:=z.ex;exact⟨_,λs v=>.of_eq (l kV c d o p ct [v] rfl),λbase _ _=>ok base _ z⟩
theorem mP(a:U5 k A):A.units+65<cLine:=by have:=a.un;ext
theorem om(p:SO K E u g)(h:ZJ X b u):∃t,ZJ X b t/\SO K E t g:=⟨_,h,p⟩
theorem iC{x a:Str}{st:Tq}{d:S5}{N:cM Str}{n m:Nat}{g:FS}{FF:FN}(F:Vf K x a st f d)(S:Tz N ps (aI st))(hn:ps.length=n)(hm:N.length=m)(e:FF=dI m g)
  (i:∀(b:Rf) (A:Sk) (outer:cM Env) (s:Ro) (H:Hp) (E:XK),N.Nodup->U5 k (A.deeper (Se a (aI st) s.heap.objs.size f b))->(A.deeper (Se a (aI st) s.heap.objs.size f b)).units+64<cLine->(A.deeper (Se a (aI st) s.heap.objs.size f b)).units+1<cLine->(A.deeper (Se a (aI st) s.heap.objs.size f b)).units+65<cLine->
   ∃t,ZJ (gl fF P w K mg base N a (aI st) f b A outer s H E).Zq (aC st) t/\SO K E t g):FnOk P w K mg base fF (k+1) f d ps (iA K n FF):=
 F6 F S hn hm e λb A outer s H E c=>i b A outer s H E S.nd c c.units (Jo c) (mP c)
end
end L3
namespace L3
open PySem L2
theorem NI.acT{F:FN}(i:NI K f n t)(X:K.In h)(G:h.Ns RD mg)(b:BA n n t ps)(ok:∀fd,Vf K n n t f fd->FnOk P w K mg base (L4.sH P w) lv f fd ps (iA K m F)):L4.rH P w K mg base lv n ps m F:=
 let⟨fd,z⟩:=i.F;⟨f,fd,ok fd z,z.binds b,z.kp,SK X G i.a⟩
end L3
namespace L3
open PySem PySem.Spec PyProof.Rows L2 PySem.Builtin PySem.Builtin.Str
theorem Ic{X:Cx}:Kb X "str.find" (λx xs H Q=>∃a b,x=.str a/\xs=[.str b]/\Q (.int (Txt.find a b)) H):=by rintro d s g H x xs v h Q I e c ⟨a,b,rfl,rfl,q⟩;obtain⟨t,rfl⟩:=mM e;obtain⟨u,rfl,f⟩:=c.one;obtain⟨i,rfl⟩:=mM f;exact PySem.SC.find ⟨.int _,H,I.tok _,⟨_,rfl⟩,q⟩
def CA(z:Str):cM D->c5 RV
 |[.str b]=>ax (.fz (.int (Txt.find z b)))
 |_=>cL
theorem G7{K:td}:M7 K (λx xs H Q=>∃a b,x=.str a/\xs=[.str b]/\Q (.int (Txt.find a b)) H) CA:=by
 intro O H z vs ds rv Q n c e q;unfold CA at e;split at e
 .cases e
  cases c with
  |cons f d=>cases d;cases f;exact⟨_,_,rfl,rfl,q.at (.int _)⟩
 .cases e
end L3
local macro_rules| `(tactic|fail "nm")=> `(tactic|first|((simp only[acH,acI]);rfl)|rfl)| `(tactic|fail "evf")=> `(tactic|first|with_reducible assumption|change L3.zG _ _|change L3.EL _ _|change L3.kI _ _|change L3.nb _ _|change L3.yt _ _|change L3.GG _ _|change L3.A2 _ _|change L3.Es _ _|change L3.jA _ _|change L3.ot _ _|change L3.adl _ _|change L3.ada _ _|change L3.aid _ _|change L3.aiO _ _|change L3.ain _ _|change L3.aiE _ _|change L3.aiY _ _|change L3.ahn _ _|change L3.aiG _ _|change L3.aha _ _|change L3.ag1 _ _|change L3.aiS _ _|change L3.akl _ _|change L3.kR|change L3.vi|change L3.Hn|change L3.rR|change L3.Ap|change L3.EX|change L3.rz _|change L3.acX _|(with_reducible rfl))| `(tactic|fail "ev")=> `(tactic|first
 |change L3.aY
 |((with_reducible apply L3.aw);rfl)
 |((with_reducible apply L3.dA);rfl)
 |change L3.aD
 |change L3.rq
 |((with_reducible apply L3.bK);(·fail "ev");(·fail "ev");(·rfl);(·rfl);(·fail "evf"))
 |((with_reducible apply L3.Fd);(·fail "ev");(·rfl);(·rfl))
 |((with_reducible apply L3.am);(·fail "ev");(·fail "ev"))
 |((with_reducible apply L3.a9);(·fail "ev");(·rfl))
 |((with_reducible apply L3.dk);(·fail "ev");(·rfl);(·first|fail "evf"|rfl))
 |((with_reducible apply L3.hV);(·fail "ev");(·rfl);(·rfl);(·with_reducible assumption))
 |((with_reducible apply L3.jd);(·fail "ev");(·rfl);(·exact RP rfl))
 |((with_reducible apply L3.pL);(·fail "ev");(·rfl);(·exact RP rfl))
 |((with_reducible apply L3.KY);(·fail "ev");(·rfl);(·rfl))
 |((with_reducible apply L3.rb);(·fail "ev");(·rfl))
 |((with_reducible apply L3.BR);(·fail "ev");(·fail "ev");(·fail "ev");(·rfl);(·first|with_reducible assumption|rfl))
 |((with_reducible apply L3.dU);(·fail "ev"))
 |((with_reducible apply L3.dG);(·fail "ev");(·intro _;fail "ev"))
 |((with_reducible apply L3.cX);(·fail "ev");(·intro _;fail "ev"))
 |((with_reducible apply L3.Ha);(·fail "ev"))
 |((with_reducible apply L3.qK);(·fail "ev");(·intro _;fail "ev"))
 |((with_reducible apply L3.A3);(·fail "ev");(·intro _;fail "ev"))
 |((with_reducible apply L3.ka);(·fail "ev");(·rfl);(·first|with_reducible assumption|rfl))
 |((with_reducible apply L3.gc);(·fail "ev");(·rfl);(·rfl))
 |((with_reducible apply L3.xZ);(·fail "ev");(·rfl);(·rfl))
 |((with_reducible apply L3.kF);(·rfl);(·fail "ev");(·rfl);(·rfl);(·first|with_reducible assumption|(simp only[TR,Rk,L3.dC] at*;ext));(·fail "nm"))
 |((with_reducible apply L3.Ga);(·rfl);(·fail "ev");(·rfl);(·rfl);(·with_reducible assumption);(·with_reducible assumption);(·with_reducible assumption);(·fail "nm"))
 |((with_reducible apply L3.ip);(·fail "ev");(·rfl);(·fail "nm"))
 |((with_reducible apply L3.jw);(·fail "ev"))
 |((with_reducible apply L3.Ab);(·fail "ev");(·rfl)))
local macro_rules| `(tactic|fail "evb")=> `(tactic|first
 |((with_reducible apply L3.bW);(·fail "ev");(·fail "ev");(·rfl);(·rfl);(·fail "evf"))
 |((with_reducible apply L3.iE);(·fail "ev");(·rfl);(·rfl);(·with_reducible assumption))
 |((with_reducible apply L3.wn);(·fail "ev");(·rfl);(·first|fail "evf"|rfl))
 |fail "ev")
local macro_rules| `(tactic|fail "ev")=> `(tactic|first
 |with_reducible assumption
 |((with_reducible apply L3.qK);(·fail "ev");(·intro _;fail "evb"))
 |((with_reducible apply L3.A3);(·fail "ev");(·intro _;fail "evb"))
 |((with_reducible apply L3.jT);(·fail "ev");(·fail "ev");(·fail "ev");(·rfl);(·rfl);(·rfl);(·fail "evf");(·intro _;fail "evf"))
 |((with_reducible apply L3.BE);(·fail "ev");(·rfl);(·rfl);(·rfl)))
local macro_rules| `(tactic|fail "go")=> `(tactic|first
 |((with_reducible apply L3.bJ);(·fail "ev");(·rfl);(·fail "nm");try fail "go")
 |((with_reducible apply L3.qh);(·fail "ev");try fail "go")
 |((with_reducible apply L3.ia);try fail "go")
 |((with_reducible apply L3.bb);try fail "go")
 |((with_reducible apply L3.cx);(·fail "ev");(·rfl))
 |((with_reducible apply L3.bN);(·fail "ev"))
 |((with_reducible apply L3.Fi);(·fail "ev");(·rfl);(·fail "nm"))
 |((with_reducible apply L3.ju);(·fail "ev"))
 |((with_reducible apply L3.bX);(·fail "ev");(·rfl))
 |((with_reducible apply L3.g8);(·fail "ev"))
 |(with_reducible apply L3.fH))
local macro_rules| `(tactic|fail "evp")=> `(tactic|((apply Eq.trans);(·fail "ev");(·rfl)))
local macro_rules(kind:=«term{_}»)|`({$a})=>`(L3.ac $a L3.aj)|`({$a,$b})=>`(L3.ac $a (L3.ac $b L3.aj))|`({$a,$b,$c})=>`(L3.ac $a (L3.ac $b (L3.ac $c L3.aj)))|`({$a,$b,$c,$d})=>`(L3.ac $a (L3.ac $b (L3.ac $c (L3.ac $d L3.aj))))
local macro_rules|`(~~~$n)=>`(L3.pC (.int $n))
local macro_rules|`(-($x))=>`(Option.some (.fz $x))
namespace K24
open PySem L2 L3
def nB:FS:=(bG (aA bx (aA bM (kQ wm (ae 0) (cG (ae 1)) (cG (aA bM (ae 1) (~~~1)))) (cH {~~~0})) (~~~0)))
def ci:FN:=dI 2 nB
def iR:FS:=(aF (bp (aA bM (aA cq (ae 0) (~~~1000000007)) (aA gY (~~~13) (ae 1))) (gN 2))
 (aF (bp (aA cq (aA bM (aA bM (aA gY (ae 2) (aA bM (aA bM (ae 2) (aA gY (ae 1) (ae 1))) (~~~11))) (aA gY (~~~40487) (ae 1))) (~~~7)) (~~~1000000033)) (gN 2))
 (bG (aA c9 (aA cq (aA bM (aA gY (ae 2) (aA bM (aA c9 (ae 2) (~~~7)) (~~~31))) (~~~90001)) (~~~999999937)) (~~~3)))))
def d6:FN:=dI 3 iR
def jy:FS:=(aF (bp (cH aj) (gN 2))
 (aF (bp (dD mJ {ae 0,aA uO (~~~0) (ae 0)}) (gN 3))
 (aF (jZ (jK gJ {ae 1}) (gN 4) (aF (bp (~~~0) (gN 5))
 (aF (jZ (jK gJ {~~~3}) (gN 6) (bp (aA bM (aA gY (ae 5) (aA sY (~~~10) (~~~8))) (aA cq (bu d6 2 {ae 0,aA bM (aA gY (~~~3) (ae 4)) (ae 6)}) (aA sY (~~~10) (~~~8)))) (gN 5)))
 (aF (dJ (gw (ay (aA ug (ae 3) (~~~0))) (kL (ay (aA sw (ae 0) (~~~0))) (ay (aA HB (ae 0) (aA sY (~~~10) (~~~18)))))) (aF (bp (aA cq (ae 3) (aA sY (~~~10) (~~~24))) (gN 5))
 (bp (aA c9 (ae 3) (aA sY (~~~10) (~~~24))) (gN 3))) bq)
 (d7 (lx 2 (ae 5)))))))
 (bG (ae 2)))))
def jx:FN:=dI 7 jy
def lA:FS:=(bG (aA DN (pC (.str "abcdefghijklmnopqrstuvwxyz")) (aA cq (ae 0) (~~~26))))
def b6:FN:=dI 1 lA
def iZ:FS:=(aF (bp (aA cq (ae 0) (~~~6)) (gN 3))
 (aF (bp (bu b6 1 {aA c9 (ae 0) (~~~6)}) (gN 4))
 (aF (bp (aA bM (~~~1) (aA cq (aA c9 (ae 0) (~~~156)) (dD mJ {~~~1,aA uO (ae 2) (~~~1)}))) (gN 5))
 (aF (bp (cU {pC (.str "letter"),ae 4}) (gN 6))
 (aF (dJ (kL (ay (aA dq (ae 3) (~~~1))) (gw (ay (aA dq (ae 3) (~~~2))) (ay (aA dq (ae 1) (~~~0))))) (bp (cU {pC (.str "none")}) (gN 6)) (dJ (ay (aA dq (ae 3) (~~~2))) (bp (cU {pC (.str "below")}) (gN 6)) (dJ (gw (ay (aA ug (ae 3) (~~~2))) (ay (aA ug (ae 2) (~~~1)))) (bp (aA bx (cH {cU {pC (.str "layer"),ae 5},cU {pC (.str "tap"),ae 4,ae 5},cU {pC (.str "once"),ae 5}}) (aA uO (ae 3) (~~~3))) (gN 6)) bq)))
 (bG (ae 6)))))))
def fx:FN:=dI 7 iZ
def ii:FS:=(aF (bp (aA bM (~~~1) (aA cq (aA bx (ae 0) (~~~0)) (~~~5))) (gN 1))
 (aF (bp (aA bM (~~~1) (aA cq (aA c9 (aA bx (ae 0) (~~~0)) (~~~5)) (~~~3))) (gN 2))
 (aF (bp (cH aj) (gN 3))
 (aF (jZ (jK gJ {ae 2}) (gN 4) (d7 (lx 3 (dD kN {dh 1 [0,4,2] (jK gJ {ae 1}) (gN 0) bZ (bu fx 3 {aA bx (ae 1) (aA bM (aA bM (~~~1) (aA gY (~~~5) (ae 2))) (ae 0)),ae 2,ae 3})}))))
 (aF (bp (dh 1 [3] (jK gJ {ae 1}) (gN 0) (ay (aA dq (aA bx (aA bx (aA bx (ae 1) (~~~0)) (ae 0)) (~~~0)) (pC (.str "letter")))) (ae 0)) (gN 5))
 (aF (bp (cH aj) (gN 6))
 (aF (jZ (jU (kQ wm (ae 0) (cG (~~~16)) (cG (aA bM (~~~16) (aA cq (aA c9 (aA bx (ae 0) (~~~0)) (~~~60)) (~~~5)))))) (gN 7) (aF (bp (dD kN {dh 1 [7] (ql 5) (gN 0) (ay (aA dq (aA cq (aA c9 (ae 1) (aA bx (cH (ac (~~~1) {~~~2,~~~4,~~~8,~~~16})) (ae 0))) (~~~2)) (~~~1))) (ae 0)}) (gN 8))
 (dJ (gw (ay (aA ug (dD dc {ae 8}) (~~~1))) (ay (aA mW (ae 8) (dh 1 [] (ql 6) (gN 0) bZ (aA bx (ae 0) (~~~0)))))) (d7 (lx 6 (cU {ae 8,bu b6 1 {aA c9 (ae 7) (~~~32)}}))) bq)))
 (bG (cU {ae 1,dD kN {ae 3},dD kN {ae 6},aA bM (~~~1) (aA cq (aA c9 (aA bx (ae 0) (~~~0)) (~~~15)) (~~~4))})))))))))
def ik:FN:=dI 9 ii
def jQ:FS:=(aF (dJ (kL (ay (aA sw (ae 0) (~~~0))) (ay (aA HB (ae 0) (aA sY (~~~10) (~~~18))))) (bG (dD mJ {ae 0,aA uO (~~~0) (ae 0)})) bq)
 (bG (bu d6 2 {bu d6 2 {ae 0,ae 1},~~~3})))
def cj:FN:=dI 2 jQ
def kz:FS:=(aF (bp (aA cq (ae 0) (~~~8)) (gN 3))
 (aF (bp (bu b6 1 {aA c9 (ae 0) (~~~8)}) (gN 4))
 (aF (dJ (kL (ay (aA sw (ae 3) (~~~3))) (gw (ay (aA dq (ae 2) (~~~1))) (ay (aA sw (ae 3) (~~~7))))) (bG (cU {pC (.str "letter"),ae 4})) bq)
 (aF (bp (aA bM (~~~1) (aA cq (aA c9 (ae 0) (~~~208)) (dD mJ {~~~1,aA uO (ae 2) (~~~1)}))) (gN 5))
 (aF (dJ (ay (aA dq (ae 3) (~~~3))) (bG (cU {pC (.str "layer"),ae 5})) bq)
 (aF (dJ (ay (aA dq (ae 3) (~~~4))) (bG (cU {pC (.str "tap"),ae 4,ae 5})) bq)
 (aF (dJ (ay (aA dq (ae 3) (~~~5))) (bG (cU {pC (.str "once"),ae 5})) bq)
 (aF (dJ (gw (ay (aA dq (ae 3) (~~~6))) (ay (aA ug (ae 1) (~~~0)))) (bG (cU {pC (.str "below")})) bq)
 (bG (cU {pC (.str "none")}))))))))))
def gX:FN:=dI 6 kz
def ma:FS:=(aF (bp (bu ci 2 {ae 0,ae 1}) (gN 2))
 (aF (dJ (kL (ay (aA sw (ae 2) (~~~0))) (ay (aA HB (ae 2) (aA sY (~~~10) (~~~18))))) (bG (bu ik 1 {bu jx 2 {ae 2,~~~20}})) bq)
 (aF (bp (bu cj 2 {ae 2,ae 1}) (gN 2))
 (aF (bp (aA dq (aA cq (aA c9 (ae 2) (~~~60)) (~~~4)) (~~~1)) (gN 3))
 (aF (bp (aA bx (cH {aA bM (~~~1) (aA cq (ae 2) (~~~5)),aA bM (~~~3) (aA cq (ae 2) (~~~3))}) (dD Dn {ae 3})) (gN 4))
 (aF (bp (cH aj) (gN 5))
 (aF (jZ (jK gJ {aA bM (~~~1) (aA cq (aA c9 (ae 2) (~~~5)) (~~~3))}) (gN 6) (aF (bp (dh 1 [0,1,6] (jK gJ {ae 4}) (gN 0) bZ (bu cj 2 {bu ci 2 {ae 1,aA bM (aA bM (aA bM (ae 2) (~~~1)) (aA gY (~~~5) (ae 3))) (ae 0)},aA bM (aA gY (~~~5) (ae 3)) (ae 0)})) (gN 7))
 (aF (d7 (lx 5 (dD kN {dh 1 [6,2] (jU (ae 7)) (gN 0) bZ (bu gX 3 {ae 0,ae 1,aA bM (~~~1) (aA cq (aA c9 (ae 2) (~~~5)) (~~~3))})})))
 (dJ (gw (ay (ae 3)) (ay (aA dq (ae 6) (~~~0)))) (bp (cH {dD kN {dh 1 [] (jU (ae 7)) (gN 0) bZ (cU {pC (.str "letter"),bu b6 1 {aA c9 (ae 0) (~~~8)}})}}) (gN 5)) bq))))
 (aF (bp (dh 1 [5] (jK gJ {ae 4}) (gN 0) (ay (aA dq (aA bx (aA bx (aA bx (ae 1) (~~~0)) (ae 0)) (~~~0)) (pC (.str "letter")))) (ae 0)) (gN 8))
 (aF (bp (cH aj) (gN 9))
 (aF (jZ (jK gJ {aA bx (cH {aA cq (bu cj 2 {bu ci 2 {ae 0,aA bM (ae 1) (~~~16)},~~~16}) (~~~5),aA bM (~~~1) (aA cq (aA c9 (ae 2) (~~~240)) (~~~4))}) (dD Dn {ae 3})}) (gN 10) (aF (bp (bu cj 2 {bu ci 2 {ae 0,aA bM (aA bM (ae 1) (~~~17)) (ae 10)},aA bM (~~~17) (ae 10)}) (gN 11))
 (aF (bp (dD kN {dh 1 [11] (ql 8) (gN 0) (ay (aA dq (aA cq (aA c9 (ae 1) (aA bx (cH (ac (~~~1) {~~~2,~~~4,~~~8,~~~16})) (ae 0))) (~~~2)) (~~~1))) (ae 0)}) (gN 12))
 (aF (dJ (ay (ae 3)) (bp (aA bx (cH {cU {~~~0,~~~1},cU {~~~1,~~~2},cU {~~~0,~~~1,~~~2},cU {~~~0,aA uO (ae 4) (~~~1)}}) (aA cq (aA bM (ae 10) (aA c9 (ae 2) (~~~960))) (~~~4))) (gN 12)) bq)
 (dJ (gw (ay (aA ug (dD dc {ae 12}) (~~~1))) (ay (aA mW (ae 12) (dh 1 [] (ql 9) (gN 0) bZ (aA bx (ae 0) (~~~0)))))) (d7 (lx 9 (cU {ae 12,bu b6 1 {aA c9 (ae 11) (~~~32)}}))) bq)))))
 (bG (cU {ae 4,dD kN {ae 5},dD kN {ae 9},aA bM (~~~1) (aA cq (aA c9 (ae 2) (~~~15)) (~~~4))}))))))))))))
def jt:FN:=dI 13 ma
def oi:FS:=(aF (dJ (ay (aA dq (aA bx (ae 0) (~~~0)) (pC (.str "letter")))) (bG (aA bx (ae 0) (~~~1))) bq)
 (aF (dJ (ay (aA dq (aA bx (ae 0) (~~~0)) (pC (.str "tap")))) (bG (aA fQ (aA fQ (aA bx (ae 0) (~~~1)) (pC (.str ">"))) (dD pW {aA bx (ae 0) (~~~2)}))) bq)
 (bG (aA fQ (Ma [(lD.str "layer",lD.str ">"),(lD.str "once",lD.str "~"),(lD.str "none",lD.str "."),(lD.str "below",lD.str "_")] (aA bx (ae 0) (~~~0))) (pT i9 (pC (.str "")) {dh 1 [] (jU (kQ wm (ae 0) (cG (~~~1)) dm)) (gN 0) bZ (dD pW {ae 0})})))))
def iy:FN:=dI 1 oi
def nY:FS:=(aF (bp (cH {aA fQ (aA fQ (aA fQ (pC (.str "keys ")) (dD pW {aA bx (ae 0) (~~~0)})) (pC (.str " wait "))) (dD pW {aA bx (ae 0) (~~~3)})}) (gN 1))
 (aF (jZ (jU (aA bx (ae 0) (~~~1))) (gN 2) (d7 (lx 1 (aA fQ (pC (.str "layer ")) (pT i9 (pC (.str " ")) {dh 1 [] (jU (ae 2)) (gN 0) bZ (bu iy 1 {ae 0})})))))
 (aF (jZ (jU (aA bx (ae 0) (~~~2))) (gT 2 (rD (gN 3) (rD (gN 4) B8))) (d7 (lx 1 (aA fQ (aA fQ (aA fQ (pC (.str "chord ")) (pT i9 (pC (.str "+")) {dh 1 [] (jU (ae 3)) (gN 0) bZ (dD pW {ae 0})})) (pC (.str " "))) (ae 4)))))
 (bG (pT i9 (pC (.str "\n")) {ae 1})))))
def jO:FN:=dI 5 nY
def i6:FS:=(aF (bp (pC (.str "0123 ab>~._+z\nkeA-\t")) (gN 3))
 (aF (bp (aA cq (ae 1) (aA bM (dD rZ {ae 0}) (~~~1))) (gN 4))
 (aF (bp (aA DN (ae 3) (aA cq (ae 2) (~~~19))) (gN 5))
 (aF (bp (aA cq (aA c9 (ae 2) (~~~19)) (~~~6)) (gN 6))
 (aF (dJ (ay (aA dq (ae 6) (~~~0))) (bG (aA fQ (kQ bT (ae 0) dm (cG (ae 4))) (kQ bT (ae 0) (cG (aA bM (ae 4) (~~~1))) dm))) bq)
 (aF (dJ (ay (aA dq (ae 6) (~~~1))) (bG (aA fQ (aA fQ (kQ bT (ae 0) dm (cG (ae 4))) (kQ bT (ae 0) (cG (ae 4)) (cG (aA bM (ae 4) (~~~1))))) (kQ bT (ae 0) (cG (ae 4)) dm))) bq)
 (aF (dJ (ay (aA dq (ae 6) (~~~2))) (bG (aA fQ (aA fQ (kQ bT (ae 0) dm (cG (ae 4))) (ae 5)) (kQ bT (ae 0) (cG (ae 4)) dm))) bq)
 (aF (dJ (ay (aA dq (ae 6) (~~~3))) (bG (aA fQ (aA fQ (kQ bT (ae 0) dm (cG (ae 4))) (ae 5)) (kQ bT (ae 0) (cG (aA bM (ae 4) (~~~1))) dm))) bq)
 (aF (bp (pT fX (ae 0) {pC (.str "\n")}) (gN 7))
 (aF (bp (aA cq (ae 1) (dD dc {ae 7})) (gN 4))
 (aF (dJ (ay (aA dq (ae 6) (~~~4))) (d7 (zK 7 (aA cq (aA c9 (ae 2) (~~~114)) (aA bM (dD dc {ae 7}) (~~~1))) (aA bx (ae 7) (ae 4)))) (d7 (zK 7 (aA cq (aA c9 (ae 2) (~~~228)) (dD dc {ae 7})) (Dv 7 (ae 4)))))
 (bG (pT i9 (pC (.str "\n")) {ae 7})))))))))))))
def dW:FN:=dI 8 i6
def kt:FS:=(aF (dJ (kL (ay (aA mW (dD rZ {ae 0}) (cH {~~~1,~~~2}))) (gw (ay (aA dq (dD rZ {ae 0}) (~~~2))) (ay (aA dq (aA DN (ae 0) (~~~0)) (pC (.str "0")))))) (bG (pC .none)) bq)
 (aF (dJ (ib (ay (dD sO {dh 1 [] (pp (ae 0)) (gN 0) bZ (fL xq xq (pC (.str "0")) (ae 0) (pC (.str "9")))}))) (bG (pC .none)) bq)
 (bG (dD AZ {ae 0}))))
def c7:FN:=dI 1 kt
def js:FS:=(bG (mV (aA dq (dD rZ {ae 0}) (~~~1)) (fL xq xq (pC (.str "a")) (ae 0) (pC (.str "z")))))
def bS:FN:=dI 1 js
def l7:FS:=(aF (dJ (ay (aA lu (ae 0) (cH {pC (.str "."),pC (.str "_")}))) (bG (aA bx (cH {cU {pC (.str "none")},cU {pC (.str "below")}}) (dD Dn {aA dq (ae 0) (pC (.str "_"))}))) bq)
 (aF (dJ (ay (bu bS 1 {ae 0})) (bG (cU {pC (.str "letter"),ae 0})) bq)
 (aF (bp (pT CA (ae 0) {pC (.str ">")}) (gN 1))
 (aF (bp (kQ bT (ae 0) dm (cG (dD mJ {~~~0,ae 1}))) (gN 2))
 (aF (bp (bu c7 1 {kQ bT (ae 0) (cG (aA bM (ae 1) (~~~1))) dm}) (gN 3))
 (aF (dJ (gw (ay (aA dq (kQ bT (ae 0) dm (cG (~~~1))) (pC (.str "~")))) (ay (aA sw (ae 1) (~~~0)))) (aF (bp (bu c7 1 {kQ bT (ae 0) (cG (~~~1)) dm}) (gN 3))
 (bp (pC (.str "~")) (gN 2))) bq)
 (aF (dJ (kL (ay (aA lw (ae 3) (pC .none))) (kL (gw (ay (aA kM (ae 2) (pC (.str "")))) (gw (ay (aA kM (ae 2) (pC (.str "~")))) (ib (ay (bu bS 1 {ae 2}))))) (gw (ay (aA dq (ae 2) (pC (.str "~")))) (ay (aA HB (ae 1) (~~~0)))))) (bG (pC .none)) bq)
 (aF (dJ (gw (ay (aA sw (ae 1) (~~~0))) (ay (aA kM (ae 2) (pC (.str "~"))))) (bG (pC .none)) bq)
 (aF (dJ (ay (aA dq (ae 2) (pC (.str "~")))) (bG (cU {pC (.str "once"),ae 3})) bq)
 (aF (dJ (ay (aA dq (ae 2) (pC (.str "")))) (bG (cU {pC (.str "layer"),ae 3})) bq)
 (bG (cU {pC (.str "tap"),ae 2,ae 3}))))))))))))
def iJ:FN:=dI 4 l7
def mE:FS:=(aF (dJ (ay (ae 1)) (aF (dJ (kL (ay (aA kM (dD dc {ae 0}) (~~~4))) (kL (ay (aA kM (aA bx (ae 0) (~~~0)) (pC (.str "keys")))) (ay (aA kM (aA bx (ae 0) (~~~2)) (pC (.str "wait")))))) (bG (pC .none)) bq)
 (bG (dD kN {cH {bu c7 1 {aA bx (ae 0) (~~~1)},bu c7 1 {aA bx (ae 0) (~~~3)}}}))) bq)
 (aF (dJ (ay (aA dq (aA bx (ae 0) (~~~0)) (pC (.str "layer")))) (bG (dD kN {dh 1 [] (jU (kQ wm (ae 0) (cG (~~~1)) dm)) (gN 0) bZ (bu iJ 1 {ae 0})})) bq)
 (aF (dJ (kL (ay (aA kM (aA bx (ae 0) (~~~0)) (pC (.str "chord")))) (kL (ay (aA kM (dD dc {ae 0}) (~~~3))) (ib (ay (bu bS 1 {aA bx (ae 0) (~~~2)}))))) (bG (pC .none)) bq)
 (bG (dD kN {dh 1 [] (jU (pT fX (aA bx (ae 0) (~~~1)) {pC (.str "+")})) (gN 0) bZ (bu c7 1 {ae 0})})))))
def io:FN:=dI 2 mE
def kK:FS:=(aF (bp (dh 1 [] (jU (pT fX (ae 0) {pC (.str "\n")})) (gN 0) bZ (pT fX (ae 0) {pC (.str " ")})) (gN 1))
 (aF (bp (cH aj) (gN 2))
 (aF (bp (cH aj) (gN 3))
 (aF (jZ (jK gJ {dD dc {ae 1}}) (gN 4) (aF (bp (bu io 2 {aA bx (ae 1) (ae 4),aA dq (ae 4) (~~~0)}) (gN 5))
 (aF (dJ (kL (ay (aA lw (ae 5) (pC .none))) (kL (ay (aA lu (pC .none) (ae 5))) (ay (aA dq (dD dc {ae 5}) (~~~0))))) (bG (cU {~~~2,ae 4,pC .none})) bq)
 (dJ (gw (ay (aA ug (ae 4) (~~~0))) (ay (aA dq (aA bx (aA bx (ae 1) (ae 4)) (~~~0)) (pC (.str "layer"))))) (aF (dJ (ay (aA ug (dD dc {ae 3}) (~~~0))) (bG (cU {~~~2,ae 4,pC .none})) bq)
 (d7 (lx 2 (ae 5)))) (dJ (ay (aA ug (ae 4) (~~~0))) (d7 (lx 3 (cU {ae 5,aA bx (aA bx (ae 1) (ae 4)) (~~~2)}))) bq)))))
 (aF (bp (bu io 2 {aA bx (ae 1) (~~~0),pC (.bool OK)}) (gT 2 (rD (gN 6) (rD (gN 7) B8))))
 (bG (cU {ae 6,dD kN {ae 2},dD kN {ae 3},ae 7})))))))
def dX:FN:=dI 8 kK
def j8:FS:=(aF (dJ (gw (ay (aA lu (aA bx (ae 0) (~~~0)) (cH {pC (.str "letter"),pC (.str "tap")}))) (ib (ay (bu bS 1 {aA bx (ae 0) (~~~1)})))) (bG (pC (.bool Rh))) bq)
 (aF (dJ (gw (ay (aA lu (aA bx (ae 0) (~~~0)) (cH {pC (.str "layer"),pC (.str "tap"),pC (.str "once")}))) (kL (ay (aA sw (aA bx (ae 0) (G3 xG (~~~1))) (~~~1))) (ay (aA HB (aA bx (ae 0) (G3 xG (~~~1))) (ae 2))))) (bG (pC (.bool Rh))) bq)
 (bG (Ng (aA kM (aA bx (ae 0) (~~~0)) (pC (.str "below"))) (aA ug (ae 1) (~~~0))))))
def kh:FN:=dI 3 j8
def iQ:FS:=(aF (bp (aA bx (ae 0) (ae 1)) (gT 2 (rD (gN 4) (rD (gN 5) B8))))
 (aF (dJ (kL (ib (ay (bu bS 1 {ae 5}))) (kL (ay (aA sw (dD dc {ae 4}) (~~~2))) (kL (ay (aA kM (dD E1 {ae 4}) (dD L9.tK {ae 4}))) (ay (aA sw (L9.tM {ae 4}) (dD dc {ae 4})))))) (bG (pC (.bool Rh))) bq)
 (aF (dJ (ib (ay (dD sO {dh 1 [3] (jU (ae 4)) (gN 0) bZ (aA lu (ae 0) (ae 1))}))) (bG (pC (.bool Rh))) bq)
 (bG (aA mW (ae 4) (dh 1 [] (jU (kQ Jj (ae 0) dm (cG (ae 1)))) (gN 0) bZ (aA bx (ae 0) (~~~0))))))))
def gB:FN:=dI 6 iQ
def pO:FS:=(aF (bp (ae 0) (gT 4 (rD (gN 1) (rD (gN 2) (rD (gN 3) (rD (gN 4) B8))))))
 (aF (dJ (kL (ay (aA mW (ae 1) (cH (ac (~~~1) {~~~2,~~~3,~~~4,~~~5})))) (kL (ay (aA mW (dD dc {ae 2}) (cH {~~~1,~~~2,~~~3}))) (kL (ay (aA ug (dD dc {ae 3}) (~~~4))) (ay (aA mW (ae 4) (cH {~~~1,~~~2,~~~3,~~~4})))))) (bG (cU {~~~0,pC .none,pC .none})) bq)
 (aF (jZ (jK gJ {dD dc {ae 2}}) (gN 5) (aF (dJ (ay (aA kM (dD dc {aA bx (ae 2) (ae 5)}) (ae 1))) (bG (cU {~~~0,ae 5,pC .none})) bq)
 (jZ (jK gJ {ae 1}) (gN 6) (dJ (ib (ay (bu kh 3 {aA bx (aA bx (ae 2) (ae 5)) (ae 6),ae 5,dD dc {ae 2}}))) (bG (cU {~~~0,ae 5,ae 6})) bq))))
 (aF (bp (dh 1 [2] (jK gJ {ae 1}) (gN 0) (ay (aA dq (aA bx (aA bx (aA bx (ae 1) (~~~0)) (ae 0)) (~~~0)) (pC (.str "letter")))) (ae 0)) (gN 7))
 (aF (jZ (jK gJ {dD dc {ae 3}}) (gN 8) (dJ (ib (ay (bu gB 4 {ae 3,ae 8,ae 1,ae 7}))) (bG (cU {~~~1,ae 8,pC .none})) bq))
 (bG (pC .none)))))))
def ir:FN:=dI 9 pO
def lB:FS:=(aF (dJ (kL (ib (ay (fL vo vo (~~~1) (dD rZ {ae 0}) (~~~2)))) (ib (ay (dD sO {dh 1 [] (pp (ae 0)) (gN 0) bZ (aA MA (ae 0) (pC (.str "0123456789")))})))) (bG (pC .none)) bq)
 (aF (dJ (gw (ay (aA dq (dD rZ {ae 0}) (~~~2))) (ay (aA dq (aA DN (ae 0) (~~~0)) (pC (.str "0"))))) (bG (pC .none)) bq)
 (bG (dD AZ {ae 0}))))
def cT:FN:=dI 1 lB
def lZ:FS:=(aF (dJ (ay (aA lu (pC .none) (ae 0))) (bG (pC .none)) bq)
 (bG (dD kN {ae 0})))
def de:FN:=dI 1 lZ
def iW:FS:=(aF (dJ (kL (ay (aA kM (dD dc {ae 0}) (~~~4))) (kL (ay (aA kM (aA bx (ae 0) (~~~0)) (pC (.str "keys")))) (ay (aA kM (aA bx (ae 0) (~~~2)) (pC (.str "wait")))))) (bG (pC .none)) bq)
 (bG (bu de 1 {cH {bu cT 1 {aA bx (ae 0) (~~~1)},bu cT 1 {aA bx (ae 0) (~~~3)}}})))
def gP:FN:=dI 1 iW
def k6:FS:=(bG (mV (aA dq (dD rZ {ae 0}) (~~~1)) (fL xq xq (pC (.str "a")) (ae 0) (pC (.str "z")))))
def cY:FN:=dI 1 k6
def kE:FS:=(aF (dJ (ay (aA dq (ae 0) (pC (.str ".")))) (bG (cU {pC (.str "none")})) bq)
 (aF (dJ (ay (aA dq (ae 0) (pC (.str "_")))) (bG (cU {pC (.str "below")})) bq)
 (aF (dJ (ay (bu cY 1 {ae 0})) (bG (cU {pC (.str "letter"),ae 0})) bq)
 (aF (dJ (ay (pT qp (ae 0) {pC (.str "~")})) (bG (bu de 1 {cH {pC (.str "once"),bu cT 1 {kQ bT (ae 0) (cG (~~~1)) dm}}})) bq)
 (aF (dJ (ay (pT qp (ae 0) {pC (.str ">")})) (bG (bu de 1 {cH {pC (.str "layer"),bu cT 1 {kQ bT (ae 0) (cG (~~~1)) dm}}})) bq)
 (aF (dJ (gw (ay (bu cY 1 {kQ bT (ae 0) dm (cG (~~~1))})) (ay (aA dq (kQ bT (ae 0) (cG (~~~1)) (cG (~~~2))) (pC (.str ">"))))) (bG (bu de 1 {cH {pC (.str "tap"),aA DN (ae 0) (~~~0),bu cT 1 {kQ bT (ae 0) (cG (~~~2)) dm}}})) bq)
 (bG (pC .none))))))))
def gO:FN:=dI 1 kE
def mw:FS:=(aF (dJ (kL (ay (aA sw (dD dc {ae 0}) (~~~2))) (ay (aA kM (aA bx (ae 0) (~~~0)) (pC (.str "layer"))))) (bG (pC .none)) bq)
 (bG (bu de 1 {dh 1 [] (jU (kQ wm (ae 0) (cG (~~~1)) dm)) (gN 0) bZ (bu gO 1 {ae 0})})))
def iB:FN:=dI 1 mw
def li:FS:=(bG (bu de 1 {dh 1 [] (jU (pT fX (ae 0) {ae 1})) (gN 0) bZ (bu cT 1 {ae 0})}))
def jC:FN:=dI 2 li
def j9:FS:=(aF (dJ (kL (ay (aA kM (dD dc {ae 0}) (~~~3))) (kL (ay (aA kM (aA bx (ae 0) (~~~0)) (pC (.str "chord")))) (ib (ay (bu cY 1 {aA bx (ae 0) (~~~2)}))))) (bG (pC .none)) bq)
 (aF (bp (bu jC 2 {aA bx (ae 0) (~~~1),pC (.str "+")}) (gN 1))
 (aF (dJ (ay (aA lw (ae 1) (pC .none))) (bG (pC .none)) bq)
 (bG (cU {ae 1,aA bx (ae 0) (~~~2)})))))
def i4:FN:=dI 2 j9
def mj:FS:=(aF (bp (aA bx (ae 0) (~~~0)) (gN 3))
 (aF (dJ (ay (aA dq (ae 3) (pC (.str "below")))) (bG (aA kM (ae 1) (~~~0))) bq)
 (aF (dJ (gw (ay (aA lu (ae 3) (cU {pC (.str "letter"),pC (.str "tap")}))) (ib (ay (bu cY 1 {aA bx (ae 0) (~~~1)})))) (bG (pC (.bool Rh))) bq)
 (aF (dJ (ay (aA lu (ae 3) (cU {pC (.str "layer"),pC (.str "tap"),pC (.str "once")}))) (bG (fL vo sw (~~~1) (aA bx (ae 0) (G3 xG (~~~1))) (ae 2))) bq)
 (bG (pC (.bool OK)))))))
def jh:FN:=dI 4 mj
def tH:FS:=(bG (dD sO {dh 2 [] (F5 {ae 0,kQ wm (ae 0) (cG (~~~1)) dm}) (gT 2 (rD (gN 0) (rD (gN 1) B8))) bZ (aA sw (ae 0) (ae 1))}))
def qV:FN:=dI 1 tH
def iG:FS:=(aF (dJ (kL (ay (aA sw (dD dc {ae 1}) (~~~2))) (ib (ay (bu qV 1 {ae 1})))) (bG (pC (.bool Rh))) bq)
 (bG (dD sO {dh 1 [0] (jU (ae 1)) (gN 0) bZ (mV (fL vo sw (~~~0) (ae 0) (aA bx (ae 1) (~~~0))) (aA dq (aA bx (aA bx (aA bx (aA bx (ae 1) (~~~1)) (~~~0)) (ae 0)) (~~~0)) (pC (.str "letter"))))})))
def fK:FN:=dI 2 iG
def fJ:FS:=(aF (dJ (kL (ib (ay (fL vo vo (~~~1) (aA bx (ae 0) (~~~0)) (~~~5)))) (ib (ay (fL vo vo (~~~1) (dD dc {aA bx (ae 0) (~~~1)}) (~~~3))))) (L9.jI "NoBed" "layer" "key" {pC .none,pC .none}) bq)
 (dJ (kL (ay (aA ug (dD dc {aA bx (ae 0) (~~~2)}) (~~~4))) (ib (ay (fL vo vo (~~~1) (aA bx (ae 0) (~~~3)) (~~~4))))) (L9.jI "NoBed" "layer" "key" {pC .none,pC .none}) bq))
def dM:FN:=dI 1 fJ
def gH:FS:=(aF (bp (aA bx (aA bx (ae 0) (~~~1)) (ae 1)) (gN 2))
 (aF (dJ (ay (aA kM (dD dc {ae 2}) (aA bx (ae 0) (~~~0)))) (L9.jI "NoBed" "layer" "key" {ae 1,pC .none}) bq)
 (jZ (L3.vA {ae 2}) (gT 2 (rD (gN 3) (rD (gN 4) B8))) (dJ (ib (ay (bu jh 3 {ae 4,ae 1,dD dc {aA bx (ae 0) (~~~1)}}))) (L9.jI "NoBed" "layer" "key" {ae 1,ae 3}) bq))))
def dY:FN:=dI 5 gH
def gS:FS:=(aF (bp (aA bx (aA bx (aA bx (ae 0) (~~~2)) (ae 1)) (~~~0)) (gN 2))
 (aF (dJ (kL (ib (ay (bu cY 1 {aA bx (aA bx (aA bx (ae 0) (~~~2)) (ae 1)) (~~~1)}))) (ib (ay (bu fK 2 {ae 0,ae 2})))) (L9.jE "NoChord" "place" (ae 1)) bq)
 (dJ (ay (aA lu (ae 2) (dh 1 [] (jU (kQ Jj (aA bx (ae 0) (~~~2)) dm (cG (ae 1)))) (gN 0) bZ (aA bx (ae 0) (~~~0))))) (L9.jE "NoChord" "place" (ae 1)) bq)))
def fP:FN:=dI 3 gS
def jp:FS:=(aF (d7 (na dM 1 {ae 0}))
 (aF (jZ (jK gJ {dD dc {aA bx (ae 0) (~~~1)}}) (gN 1) (d7 (na dY 2 {ae 0,ae 1})))
 (aF (jZ (jK gJ {dD dc {aA bx (ae 0) (~~~2)}}) (gN 2) (d7 (na fP 2 {ae 0,ae 2})))
 (bG (ae 0)))))
def dR:FN:=dI 3 jp
def iv:FS:=(aF (bp (pT fX (ae 0) {pC (.str "\n")}) (gN 1))
 (aF (bp (bu gP 1 {pT fX (aA bx (ae 1) (~~~0)) {pC (.str " ")}}) (gN 2))
 (aF (dJ (ay (aA lw (ae 2) (pC .none))) (L9.jE "NoText" "row" (~~~0)) bq)
 (aF (bp (cH aj) (gN 3))
 (aF (bp (cH aj) (gN 4))
 (aF (jZ (uF {kQ Jj (ae 1) (cG (~~~1)) dm}) (gT 2 (rD (gN 5) (rD (gN 6) B8))) (aF (bp (pT fX (ae 6) {pC (.str " ")}) (gN 7))
 (aF (bp (bu iB 1 {ae 7}) (gN 8))
 (aF (bp (bu i4 1 {ae 7}) (gN 9))
 (dJ (gw (ay (aA wk (ae 8) (pC .none))) (ay (aA dq (ae 4) (cH aj)))) (d7 (lx 3 (ae 8))) (dJ (ay (aA wk (ae 9) (pC .none))) (d7 (lx 4 (ae 9))) (L9.jE "NoText" "row" (ae 5))))))))
 (bG (na dR 1 {cU {aA bx (ae 2) (~~~0),dD kN {ae 3},dD kN {ae 4},aA bx (ae 2) (~~~1)}}))))))))
def cR:FN:=dI 10 iv
def aW:FN
 |[b]=>(match cR [b]with
  |.er x=>if x.cls= "NoBed" then(match x.fs with
    |[(g,k),(f,l)]=>if g= "key"/\f= "layer"/\L9.r6 k=OK/\L9.r6 l=OK then .ok (.fz (.tuple [.int 0,l,k]))else .bad
    |_=>.bad)
   else if x.cls= "NoChord" then(match x.fs with
    |[(f,d)]=>if f= "place"/\L9.r6 d=OK then .ok (.fz (.tuple [.int 1,d,.none]))else .bad
    |_=>.bad)
   else if x.cls= "NoText" then(match x.fs with
    |[(f,d)]=>if f= "row"/\L9.r6 d=OK then .ok (.fz (.tuple [.int 2,d,.none]))else .bad
    |_=>.bad)else .bad
  |.ok (.fz d)=>.ok (.fz d)
  |_=>.bad)
 |_=>.bad
def l9:FS:=(bG (mV (vh "int" (ae 0)) (GV (vh "bool" (ae 0)))))
def eA:FN:=dI 1 l9
def cZ(R:FN):FS:=(aF (dJ (ay (vh "tuple" (ae 1))) (aF (dJ (kL (ib (ay (vh "tuple" (ae 0)))) (ay (aA kM (dD dc {ae 0}) (dD dc {ae 1})))) (bG (pC (.bool Rh))) bq)
 (bG (dD sO {dh 2 [] (F5 {ae 0,ae 1}) (gT 2 (rD (gN 0) (rD (gN 1) B8))) bZ (bu R 2 {ae 0,ae 1})}))) bq)
 (aF (dJ (ay (vh "str" (ae 1))) (bG (mV (vh "str" (ae 0)) (aA dq (ae 0) (ae 1)))) bq)
 (bG (mV (bu eA 1 {ae 0}) (aA dq (ae 0) (ae 1))))))
def jD:FN:=J9
def gr:FN:=dI 2 (cZ jD)
def gm:FN:=dI 2 (cZ gr)
def gu:FN:=dI 2 (cZ gm)
def gp:FN:=dI 2 (cZ gu)
def gs:FN:=dI 2 (cZ gp)
def b5:FN:=dI 2 (cZ gs)
def Fv:FS:=(aF (bp (bu jt 2 {ae 0,~~~7}) (gN 1))
 (aF (bp (bu jO 1 {ae 1}) (gN 2))
 (aF (bp (ae 2) (gN 3))
 (aF (bp (bu cj 2 {bu ci 2 {ae 0,~~~0},~~~30}) (gN 4))
 (aF (jZ (jK gJ {aA cq (ae 4) (~~~4)}) (gN 5) (aF (bp (bu cj 2 {bu ci 2 {ae 0,aA bM (~~~2) (aA gY (~~~2) (ae 5))},aA bM (~~~35) (ae 5)}) (gN 6))
 (bp (bu dW 3 {ae 3,bu cj 2 {bu ci 2 {ae 0,aA bM (~~~1) (aA gY (~~~2) (ae 5))},aA bM (~~~31) (ae 5)},ae 6}) (gN 3))))
 (aF (dJ (ay (aA dq (aA cq (aA c9 (ae 4) (~~~4)) (~~~4)) (~~~3))) (aF (bp (cH (ac (pC (.str "")) {pC (.str "keys"),pC (.str "keys 1 wait 1"),pC (.str "keys 1 wait 1\nlayer"),pC (.str "keys 1 wait 1\nlayer ")})) (gN 7))
 (aF (bp (aA bM (ae 7) (cH {pC (.str "keys 1 wait 1\nlayer a\n")})) (gN 7))
 (aF (bp (aA bM (ae 7) (cH {pC (.str "keys 01 wait 1\nlayer a"),pC (.str "keys 1 wait 5\nlayer a"),pC (.str "keys 1 wait 1\nchord 0 a\nlayer a")})) (gN 7))
 (aF (bp (aA bM (ae 7) (cH {pC (.str "keys 1 wait 1\nlayer a\nchord 0 a"),pC (.str "keys 1 wait 1\nlayer >1"),pC (.str "keys 1 wait 1\nlayer _")})) (gN 7))
 (aF (bp (aA bM (ae 7) (cH {pC (.str "keys 1 wait 1\nlayer a>"),pC (.str "keys 1 wait 1\nlayer ~"),pC (.str "keys 1 wait 1\nlayer a>1\nlayer _")})) (gN 7))
 (aF (bp (aA bM (ae 7) (cH {pC (.str "keys 2 wait 1\nlayer a b\nchord 1+0 c"),pC (.str "keys 2 wait 1\nlayer a b\nchord 0+ c")})) (gN 7))
 (aF (bp (aA bM (ae 7) (cH {pC (.str "keys 2 wait 1\nlayer a b\nchord 0+1 C"),pC (.str "keys 1 wait 100\nlayer a")})) (gN 7))
 (aF (bp (aA bM (ae 7) (cH {pC (.str "keys 10 wait 1\nlayer a"),pC (.str "keys 1 wait 1\nlayer a>100\nlayer b")})) (gN 7))
 (aF (bp (aA bM (ae 7) (cH {pC (.str "keys 2 wait 1\nlayer a b\nchord 0+1 c\nchord 0+1 d")})) (gN 7))
 (aF (bp (aA bM (ae 7) (cH {pC (.str "keys 2 wait 1\nlayer a _\nlayer a")})) (gN 7))
 (bp (aA bx (ae 7) (aA cq (aA c9 (ae 4) (~~~16)) (~~~23))) (gN 3)))))))))))) bq)
 (aF (bp (bu dX 1 {ae 3}) (gN 8))
 (aF (dJ (ay (aA dq (dD dc {ae 8}) (~~~4))) (aF (bp (bu ir 1 {ae 8}) (gN 9))
 (aF (dJ (ay (aA lw (ae 9) (pC .none))) (bG (mV (bu b5 2 {bu aW 1 {ae 3},ae 8}) (bu b5 2 {bu aW 1 {ae 2},ae 1}))) bq)
 (bp (ae 9) (gN 8)))) bq)
 (bG (mV (aA dq (bu aW 1 {ae 3}) (ae 8)) (bu b5 2 {bu aW 1 {ae 2},ae 1})))))))))))
def F_law:FN:=dI 10 Fv
end K24
namespace K24
open PySem L2 L3 L10
def uv(ns:cM Int)(lo hi:c5 Int):cM Int:=(ns.drop (HT.sIx ns.length 0 lo)).take (HT.sIx ns.length ns.length hi - HT.sIx ns.length 0 lo)
theorem mh(ns:cM Int)(k:Int)(g:0<=k)(f:ns.length<=63):∃c:Int,ci [.list (ns.map .int),.int k]=.ok (.fz (.int c)):=by
 unfold ci nB;have b:wm (.list (ns.map .int)) (ax k) (ax (k+1))=ax (.ow (kS (ns.map .int) (ax k) (ax (k+1)))):=rfl;have d:kS (ns.map lD.int) (ax k) (ax (k+1))=(uv ns (ax k) (ax (k+1))).map .int:=by unfold kS uv;rw[CL,Yf,WN]
 rw[d]at b;have a:(uv ns (ax k) (ax (k+1))).length<=63:=by unfold uv;rw[Sd,Sl];ext
 generalize uv ns (ax k) (ax (k+1))=cs at b a;have h:bM (.list (cs.map .int)) (.list [.int 0])=ax (.ow (cs.map .int++[.int 0])):=by show(if(cs.map lD.int).length+1<=1000000 then _ else _)=_;rw[CL,ak (by ext)]
 cases cs with
 |nil=>have e:bx (.list (([]:cM Int).map lD.int++[.int 0])) (.int 0)=-(.int 0):=rR;exact⟨0,cA (ρ:=[-(.list (ns.map .int)),-(.int k)]) rfl (bX (by fail "ev") rfl rfl)⟩
 |cons c r=>have e:bx (.list ((c::r).map lD.int++[.int 0])) (.int 0)=-(.int c):=rR;exact⟨c,cA (ρ:=[-(.list (ns.map .int)),-(.int k)]) rfl (bX (by fail "ev") rfl rfl)⟩
theorem pq(c s:Int)(n:0<=s)(m:s<=1000):∃r:Int,0<=r/\d6 [.int c,.int s]=.ok (.fz (.int r)):=by unfold d6 iR;have h:0<=c % 1000000007/\c % 1000000007<1000000007:=⟨Tv _ (by decide),T3 _ (by decide)⟩;have g:cq (.int c) (.int 1000000007)=-(.int (c % 1000000007)):=eK (by decide);have l:gY (.int 13) (.int s)=-(.int (13*s)):=jG ⟨by ext,by ext⟩;generalize c % 1000000007=x at h g;have e:gY (.int s) (.int s)=-(.int (s*s)):=jG ⟨by ext,by ext⟩;generalize s*s=ss at e;have d:gY (.int (x+13*s)) (.int (x+13*s+ss+11))=-(.int ((x+13*s)*(x+13*s+ss+11))):=jG ⟨by ext,by ext⟩;generalize (x+13*s)*(x+13*s+ss+11)=y at d;have k:gY (.int 40487) (.int s)=-(.int (40487*s)):=jG ⟨by ext,by ext⟩;have b2:0<=(y+40487*s+7) % 1000000033/\(y+40487*s+7) % 1000000033<1000000033:=⟨Tv _ (by decide),T3 _ (by decide)⟩;have b:cq (.int (y+40487*s+7)) (.int 1000000033)=-(.int ((y+40487*s+7) % 1000000033)):=eK (by decide);generalize (y+40487*s+7) % 1000000033=z at b2 b;have j:c9 (.int z) (.int 7)=-(.int (z/7)):=eX ⟨by ext,by ext⟩;have a:gY (.int z) (.int (z/7+31))=-(.int (z*(z/7+31))):=jG ⟨by ext,by ext⟩;generalize z*(z/7+31)=u at a;have b3:0<=(u+90001) % 999999937:=Tv _ (by decide);have i:cq (.int (u+90001)) (.int 999999937)=-(.int ((u+90001) % 999999937)):=eK (by decide);have f:c9 (.int ((u+90001) % 999999937)) (.int 3)=-(.int ((u+90001) % 999999937/3)):=eX ⟨by ext,by ext⟩;refine⟨(u+90001) % 999999937/3,by ext,cA (ρ:=[-(.int c),-(.int s),cL]) rfl (gR (im (by fail "ev") rfl (gR (im (by fail "ev") rfl (bX (by fail "ev") rfl rfl)))))⟩
theorem Gs(c:Int):0<=if 0 - c>c then 0 - c else c:=by split<;>ext
theorem my(c s:Int)(f:0<=s)(d:s<=1000):∃r:Int,0<=r/\cj [.int c,.int s]=.ok (.fz (.int r)):=by
 unfold cj jQ;obtain⟨r,j,er⟩:=pq c s f d;obtain⟨q,b,eq⟩:=pq r 3 (by decide) (by decide);have i:mJ [.int c,.int (0 - c)]=-(.int (if 0 - c>c then 0 - c else c)):=rfl;have a:=Gs c;generalize (if 0 - c>c then 0 - c else c)=mx at i a;obtain⟨rv,e,t⟩:=nj (ds:=[.int c,.int s]) (ρ:=[-(.int c),-(.int s)]) (n:=2) (g:=jQ) (T:=λv=>∃r:Int,0<=r/\v=.fz (.int r)) rfl
  (gR (g8 (by fail "ev") (λ_=>bX (by fail "ev") rfl ⟨mx,a,rfl⟩) (λ_=>fH (bX (by fail "ev") rfl ⟨q,b,rfl⟩))))
 obtain⟨r,h,rfl⟩:=t;exact⟨r,h,e⟩
theorem DH(c:Int):∃xs:cM Int,xs.length=20/\(∀x∈xs,0<=x)/\jx [.int c,.int 20]=.ok (.ow (xs.map .int)):=by
 have q:=Gs c;have M:mJ [.int c,.int (0 - c)]=-(.int (if 0 - c>c then 0 - c else c)):=rfl;generalize (if 0 - c>c then 0 - c else c)=mx at M q;have Q:=P6;have C:=Oo;have B:gJ [.int 20]=ax (eP (Sb 20)):=nW (n:=20) (by decide) (by decide);have P:gJ [.int 3]=ax (eP (Sb 3)):=nW (n:=3) (by decide) (by decide);obtain⟨rv,e,xs,p,K,rfl⟩:=nj (ds:=[.int c,.int 20]) (ρ:=[-(.int c),-(.int 20),cL,cL,cL,cL,cL]) (n:=7) (g:=jy) (T:=λv=>∃xs:cM Int,xs.length=20/\(∀x∈xs,0<=x)/\v=.ow (xs.map .int)) rfl (by
  unfold jy;fail "go"
  with_reducible apply iM (λi ρ=>∃(xs:cM Int) (l:Int) (f b a:c5 PV),ρ=[-(.int c),-(.int 20),ax (.ow (xs.map .int)),-(.int l),f,b,a]/\xs.length=i/\(∀x∈xs,0<=x)/\0<=l)
  .fail "ev"
  .exact⟨[],mx,cL,cL,cL,rfl,rfl,λx h=>(by cases h),q⟩
  .rintro i d ρ hi ⟨xs,l,f,b,a,rfl,hxl,hx,hl⟩
   obtain⟨k,A,rfl⟩:=ij hi;have O:k<20:=Sf.mp (RU A);have N:i<20:=by have:=(Rp.mp A).1;simpa using this
   refine⟨_,rfl,?_⟩;fail "go"
   with_reducible apply iM (λi ρ=>∃(x:Int) (a:c5 PV),ρ=[-(.int c),-(.int 20),ax (.ow (xs.map .int)),-(.int l),-(nd k),-(.int x),a]/\0<=x)
   .fail "ev"
   .exact⟨0,a,rfl,by decide⟩
   .rintro j d ρ J ⟨x,a,rfl,hx0⟩;obtain⟨u,o,rfl⟩:=ij J;have I:u<3:=Sf.mp (RU o);obtain⟨r,X,er⟩:=pq c (3*(k:Int)+(u:Int)) (by ext) (by ext);have U:gY (.int 3) (nd k)=-(.int (3*(k:Int))):=jG ⟨by ext,by ext⟩;have S:gY (.int x) (.int (10^8))=-(.int (x*10^8)):=FW ⟨by decide,by decide⟩;have G:cq (.int r) (.int (10^8))=-(.int (r % 10^8)):=eK (by decide);have t:0<=r % 10^8:=Tv _ (by decide);refine⟨_,rfl,?_⟩;fail "go";refine⟨x*10^8+r % 10^8,_,rfl,?_⟩;have:0<=x*10^8:=Int.mul_nonneg hx0 (by decide);ext
   .rintro ρ ⟨x,a,rfl,hx0⟩
    have G:cq (.int l) (.int (10^24))=-(.int (l % 10^24)):=eK (by decide);have R:c9 (.int l) (.int (10^24))=-(.int (l/10^24)):=eX ⟨by decide,by decide⟩;have t:0<=l % 10^24:=Tv _ (by decide);have F:0<=l/10^24:=Int.ediv_nonneg hl (by decide)
    have m:∀(x l:Int) (a:c5 PV),0<=x->0<=l->Go (d7 (lx 2 (ae 5)) [-(.int c),-(.int 20),ax (.ow (xs.map .int)),-(.int l),-(nd k),-(.int x),a])
      (λρ=>∃(xs:cM Int) (l:Int) (f b a:c5 PV),ρ=[-(.int c),-(.int 20),ax (.ow (xs.map .int)),-(.int l),f,b,a]/\xs.length=i+1/\(∀x∈xs,0<=x)/\0<=l)
      (λρ=>∃(xs:cM Int) (l:Int) (f b a:c5 PV),ρ=[-(.int c),-(.int 20),ax (.ow (xs.map .int)),-(.int l),f,b,a]/\xs.length=i+1/\(∀x∈xs,0<=x)/\0<=l)
      (λv=>∃xs:cM Int,xs.length=20/\(∀x∈xs,0<=x)/\v=.ow (xs.map .int)):=λx l a L p=>by
     have w:(xs.map lD.int).length<1000000:=by rw[CL];ext
     refine ju (by fail "ev") ⟨xs++[x],l,_,_,_,by rw[S6];rfl,by rw[Ry,hxl];rfl,λy H=>?_,p⟩;rcases Sv.mp H with z|z
     .exact hx y z
     .rw[RA.mp z];exact L
    have E:=EX;fail "go"
    .intro _;fail "go";exact m _ _ _ t F
    .intro _;exact bb (m _ _ _ hx0 hl)
  .rintro ρ ⟨xs,l,f,b,a,rfl,hxl,hx,hl⟩;exact bX (by fail "ev") rfl ⟨xs,hxl,hx,rfl⟩)
 exact⟨xs,p,K,e⟩
def lU(c:Nat):Str:=⟨#[97+c]⟩
inductive Mn where
 |SR (c:Nat)
 |Tu (n:Int)
 |Wg (c:Nat) (n:Int)
 |once (n:Int)
 |none
 |below
def mD:Mn->D
 |.SR c=>.tuple [.str "letter",.str (lU c)]
 |.Tu n=>.tuple [.str "layer",.int n]
 |.Wg c n=>.tuple [.str "tap",.str (lU c),.int n]
 |.once n=>.tuple [.str "once",.int n]
 |.none=>.tuple [.str "none"]
 |.below=>.tuple [.str "below"]
def VM(L nL:Int):Mn->Prop
 |.SR c=>c<26
 |.Tu n=>1<=n/\n<nL
 |.Wg c n=>c<26/\1<=n/\n<nL
 |.once n=>1<=n/\n<nL
 |.none=>True
 |.below=>L≠0
def Mn.isL:Mn->Bool
 |.SR _=>OK
 |_=>Rh
theorem oB(x:Int)(h:0<=x):∃c:Nat,c<26/\b6 [.int x]=.ok (.fz (.str (lU c))):=by
 unfold b6 lA;have d:0<=x % 26/\x % 26<26:=⟨Tv _ (by decide),T3 _ (by decide)⟩;have f:cq (.int x) (.int 26)=-(.int (x % 26)):=eK (by decide);have a:∀c,c<26->(("abcdefghijklmnopqrstuvwxyz":Str).cps.toList)[c]?=ax (97+c):=by left
 have b:("abcdefghijklmnopqrstuvwxyz":Str).length<=1000000:=by left
 have e:DN (.str "abcdefghijklmnopqrstuvwxyz") (.int (x % 26))=-(.str (lU (x % 26).toNat)):=by show(if("abcdefghijklmnopqrstuvwxyz":Str).length<=1000000 then(pU ("abcdefghijklmnopqrstuvwxyz":Str).cps.toList (x % 26)).map (λc=>RV.fz (.str ⟨#[c]⟩))else cL)=_;rw[ak b,tw d.1 (a (x % 26).toNat (by ext))];rfl
 exact⟨(x % 26).toNat,by ext,cA (ρ:=[-(.int x)]) rfl (bX (by fail "ev") rfl rfl)⟩
theorem zh(x k nL:Int)(h:0<=x)(b:0<k/\k<2^128)(hn:1<=nL):∃t:Int,1<=t/\(2<=nL->t<nL)/\True/\
  c9 (.int x) (.int k)=-(.int (x/k))/\mJ [.int 1,.int (nL - 1)]=-(.int (if nL - 1>1 then nL - 1 else 1))/\cq (.int (x/k)) (.int (if nL - 1>1 then nL - 1 else 1))=-(.int (t - 1))/\bM (.int 1) (.int (t - 1))=-(.int t):=by
 have a:0<if nL - 1>1 then nL - 1 else 1:=by split<;>ext
 have d:0<=(x/k) % (if nL - 1>1 then nL - 1 else 1):=Tv _ (by ext);have b2:(x/k) % (if nL - 1>1 then nL - 1 else 1)<(if nL - 1>1 then nL - 1 else 1):=T3 _ a;refine⟨1+(x/k) % (if nL - 1>1 then nL - 1 else 1),by ext,λc=>?_,trivial,eX b,rfl,?_,?_⟩
 .split at b2<;>split<;>ext
 .rw[eK a];congr 3;ext
 .rw[zG];congr 3;ext
theorem Ay(x L nL:Int)(h:0<=x)(H:0<=L)(hn:1<=nL):∃m,VM L nL m/\gX [.int x,.int L,.int nL]=.ok (.fz (mD m)):=by
 have o:0<=x % 8/\x % 8<8:=⟨Tv _ (by decide),T3 _ (by decide)⟩;have l:cq (.int x) (.int 8)=-(.int (x % 8)):=eK (by decide);have G:c9 (.int x) (.int 8)=-(.int (x/8)):=eX ⟨by decide,by decide⟩;obtain⟨c,f,I⟩:=oB (x/8) (by ext);obtain⟨t,d,b,_,F,E,C,B⟩:=zh x 208 nL h ⟨by decide,by decide⟩ hn;generalize x % 8=s at o l;have J:∀a:Int,dq (.int s) (.int a)=-(.bool (decide (s=a))):=λa=>jA _ _;obtain⟨rv,e,m,hm,rfl⟩:=nj (ds:=[.int x,.int L,.int nL]) (ρ:=[-(.int x),-(.int L),-(.int nL),cL,cL,cL]) (n:=6) (g:=kz) (T:=λv=>∃m,VM L nL m/\v=.fz (mD m)) rfl (by
  refine gR (im (by fail "ev") rfl (gR (im (by fail "ev") rfl (gR (g8 (by fail "ev") (λ_=>bX (by fail "ev") rfl ⟨.SR c,f,rfl⟩) (λq=>fH ?_))))));have A:¬s<3:=by intro z;rw[a4 z]at q;cases q
  have y:¬(nL=1/\s<7):=by rintro⟨j,i⟩;rw[a4 j,a4 i,Te,Uy]at q;cases q
  refine gR (im (by fail "ev") rfl (gR (g8 (by fail "ev") (λq=>bX (by fail "ev") rfl ⟨.Tu t,⟨d,b ?_⟩,rfl⟩) (λw=>fH ?_))))
  .have:=a6 q;ext
  refine gR (g8 (by fail "ev") (λq=>bX (by fail "ev") rfl ⟨.Wg c t,⟨f,d,b ?_⟩,rfl⟩) (λu=>fH ?_))
  .have:=a6 q;ext
  refine gR (g8 (by fail "ev") (λq=>bX (by fail "ev") rfl ⟨.once t,⟨d,b ?_⟩,rfl⟩) (λr=>fH ?_))
  .have:=a6 q;ext
  refine gR (g8 (by fail "ev") (λq=>bX (by fail "ev") rfl ⟨.below,?_,rfl⟩) (λp=>fH (bX (by fail "ev") rfl ⟨.none,True.intro,rfl⟩)))
  .have k:=(Rz _ _▸q:_/\_).2;have:=a6 k;show L≠0;ext)
 exact⟨m,hm,e⟩
theorem vb(x L nL:Int)(h:0<=x)(C:0<=L)(hn:1<=nL):∃m,VM L nL m/\fx [.int x,.int L,.int nL]=.ok (.fz (mD m)):=by
 have q:0<=x % 6/\x % 6<6:=⟨Tv _ (by decide),T3 _ (by decide)⟩;have p:cq (.int x) (.int 6)=-(.int (x % 6)):=eK (by decide);have B:c9 (.int x) (.int 6)=-(.int (x/6)):=eX ⟨by decide,by decide⟩;obtain⟨c,l,E⟩:=oB (x/6) (by ext);obtain⟨t,b,a,_,A,y,w,u⟩:=zh x 156 nL h ⟨by decide,by decide⟩ hn;generalize x % 6=s at q p;obtain⟨rv,e,m,hm,rfl⟩:=nj (ds:=[.int x,.int L,.int nL]) (ρ:=[-(.int x),-(.int L),-(.int nL),cL,cL,cL,cL]) (n:=7) (g:=iZ) (T:=λv=>∃m,VM L nL m/\v=.fz (mD m)) rfl (by
  refine gR (im (by fail "ev") rfl (gR (im (by fail "ev") rfl (gR (im (by fail "ev") rfl (gR (im (by fail "ev") rfl (gR ?_))))))));refine g8 (by fail "ev") (λ_=>im (by fail "ev") rfl (bX (by fail "ev") rfl ⟨.none,True.intro,rfl⟩)) (λj=>?_);refine g8 (by fail "ev") (λi=>im (by fail "ev") rfl (bX (by fail "ev") rfl ⟨.below,?_,rfl⟩)) (λi=>?_)
  .have d:=a6 i;show L≠0;intro z;rw[a4 d,a4 z,Te,Uy]at j;cases j
  refine g8 (by fail "ev") (λf=>?_) (λf=>fH (bX (by fail "ev") rfl ⟨.SR c,l,rfl⟩));have z:=(Rz _ _▸f:_/\_);have r:=a6 z.1;have d:=a6 z.2;have o:s=3\/s=4\/s=5:=by ext
  rcases o with rfl|rfl|rfl
  .have k:bx (.list [.tuple [.str "layer",.int t],.tuple [.str "tap",.str (lU c),.int t],.tuple [.str "once",.int t]]) (.int (3 - 3))=-(.tuple [.str "layer",.int t]):=nw (by decide) rfl;exact im (by fail "ev") rfl (bX (by fail "ev") rfl ⟨.Tu t,⟨b,a (by ext)⟩,rfl⟩)
  .have k:bx (.list [.tuple [.str "layer",.int t],.tuple [.str "tap",.str (lU c),.int t],.tuple [.str "once",.int t]]) (.int (4 - 3))=-(.tuple [.str "tap",.str (lU c),.int t]):=nw (by decide) rfl;exact im (by fail "ev") rfl (bX (by fail "ev") rfl ⟨.Wg c t,⟨l,b,a (by ext)⟩,rfl⟩)
  .have k:bx (.list [.tuple [.str "layer",.int t],.tuple [.str "tap",.str (lU c),.int t],.tuple [.str "once",.int t]]) (.int (5 - 3))=-(.tuple [.str "once",.int t]):=nw (by decide) rfl;exact im (by fail "ev") rfl (bX (by fail "ev") rfl ⟨.once t,⟨b,a (by ext)⟩,rfl⟩))
 exact⟨m,hm,e⟩
structure Bd where
 n:Int
 ls:cM (cM Mn)
 cs:cM (cM Nat×Nat)
 wt:Int
def u9(l:cM Mn):D:=.tuple (l.map mD)
def wN(c:cM Nat×Nat):D:=.tuple [.tuple (eP c.1),.str (lU c.2)]
def bD(b:Bd):D:=.tuple [.int b.n,.tuple (b.ls.map u9),.tuple (b.cs.map wN),.int b.wt]
def VL(n nL:Int)(ls:cM (cM Mn)):Prop:=∀(i:Nat) l,ls[i]?=ax l->(l.length:Int)=n/\∀m∈l,VM i nL m
def zB(a:cM Mn)(k:Nat):Bool:=(a[k]?.map Mn.isL).getD Rh
def VC(a:cM Mn)(c:cM Nat×Nat):Prop:=2<=c.1.length/\c.1.Pairwise (·<·)/\(∀k∈c.1,zB a k=OK)/\c.2<26
structure VB(b:Bd):Prop where
 n1:1<=b.n
 n5:b.n<=5
 l1:1<=b.ls.length
 l3:b.ls.length<=3
 vl:VL b.n b.ls.length b.ls
 c4:b.cs.length<=4
 vc:∀c∈b.cs,VC (b.ls.headD []) c
 cu:b.cs.Pairwise λa c=>a.1≠c.1
 w1:1<=b.wt
 w4:b.wt<=4
def wd:Mn->Str
 |.SR _=> "letter"
 |.Tu _=> "layer"
 |.Wg _ _=> "tap"
 |.once _=> "once"
 |.none=> "none"
 |.below=> "below"
theorem Jh(m:Mn):bx (mD m) (.int 0)=-(.str (wd m)):=by cases m<;>exact kR
theorem vL(m:Mn):dq (.str (wd m)) (.str "letter")=-(.bool m.isL):=by
 cases m with
 |SR c=>exact ub (a:= "letter") (by left)
 |Tu n=>exact ig (a:= "layer") (by left) (by left) (by left)
 |Wg c n=>exact ig (a:= "tap") (by left) (by left) (by left)
 |once n=>exact ig (a:= "once") (by left) (by left) (by left)
 |none=>exact ig (a:= "none") (by left) (by left) (by left)
 |below=>exact ig (a:= "below") (by left) (by left) (by left)
theorem r8{ft:FT}{cs:bA}(p:Nat->Bool)(xs:cM Nat)(e:xs.length<=1000000)(f:dL cs=cs)(h:∀x∈xs,ft (-(nd x)::cs)=.ok (p x,-(nd x)::cs)):jS (d8 (gN 0) ft (ae 0) (eP xs) (cL::cs) [])=.ok (eP (xs.filter p)):=by
 rw[Io (λρ=>∃o,ρ=o::cs) (λd=>match d with|.int i=>if p i.toNat=OK then ax (.int i)else cL|_=>cL) ⟨cL,rfl⟩ (by rw[dC];exact e) ?_,LB (p:=p) xs λx _=>by show(if p ((x:Nat):Int).toNat=OK then _ else _)=_;rw[Sy]];rintro d g ρ ⟨o,rfl⟩;obtain⟨x,c,rfl⟩:=RF.mp g;refine⟨-(nd x)::cs,?_,_,rfl⟩;show lQ _ _ _ (nd x) (o::cs)=.ok ((if p ((x:Nat):Int).toNat=OK then ax (nd x)else cL),-(nd x)::cs);rw[Sy];have b:dL (ax (PV.fz (nd x))::cs)=-(nd x)::cs:=by show vU _::dL cs=_;rw[f];rfl
 have a:=h x c;cases q:p x with
 |true=>rw[q]at a;rw[ak rfl];exact pZ rfl a rfl rfl b
 |false=>rw[q]at a;rw[ar Rg];exact Qf rfl a b
def pw(k:Nat):Int:=match k with
 |0=>1
 |1=>2
 |2=>4
 |3=>8
 |_=>16
theorem M5(k:Nat)(h:k<5):bx (.list [.int 1,.int 2,.int 4,.int 8,.int 16]) (nd k)=-(.int (pw k))/\0<pw k/\pw k<2^128:=by
 have:k=0\/k=1\/k=2\/k=3\/k=4:=by ext
 rcases this with rfl|rfl|rfl|rfl|rfl<;>exact⟨OY rfl,by decide,by decide⟩
def wy(x:Int)(k:Nat):Bool:=decide (x/pw k % 2=1)
def jV(n:Int)(a:cM Mn):cM Nat:=(Sb n.toNat).filter (zB a)
theorem zb{n:Int}{a:cM Mn}(h:n<=5):∀k∈jV n a,k<5:=λk b=>by have:=Sf.mp (Uw.mp b).1;ext
theorem vY{n:Int}{a:cM Mn}(h:n<=5):(jV n a).length<=5:=by have b:=List.length_filter_le (zB a) (Sb n.toNat);rw[RQ]at b;unfold jV;ext
theorem za{n:Int}{a:cM Mn}{r:cM (cM Mn)}(g:0<=n)(f:n<=5)(e:(a.length:Int)=n):jS (d8 (gN 0) (ay (aA dq (aA bx (aA bx (aA bx (ae 1) (~~~0)) (ae 0)) (~~~0)) (pC (.str "letter")))) (ae 0) (eP (Sb n.toNat)) [cL,-(.list ((a::r).map u9))] [])=.ok (eP (jV n a)):=by
 refine r8 (zB a) _ (by rw[RQ];ext) rfl λx c=>?_;have c:=Sf.mp c;have b:x<a.length:=by ext
 have k:bx (.list ((a::r).map u9)) (.int 0)=-(u9 a):=rR;have j:bx (u9 a) (nd x)=-(mD a[x]):=CJ (by rw[Rt,Rj b];rfl);have i:=Jh a[x];have h:=vL a[x];have d:zB a x=a[x].isL:=by unfold zB;rw[Rj b];rfl
 rw[d];fail "ev"
theorem Ck{ps:cM Nat}{x:Int}(a:∀k∈ps,k<5)(e:ps.length<=5):jS (d8 (gN 0) (ay (aA dq (aA cq (aA c9 (ae 1) (aA bx (cH (ac (~~~1) {~~~2,~~~4,~~~8,~~~16})) (ae 0))) (~~~2)) (~~~1))) (ae 0) (eP ps) [cL,-(.int x)] [])=.ok (eP (ps.filter (wy x))):=by refine r8 (wy x) _ (by ext) rfl λk b=>?_;obtain⟨i,d,c⟩:=M5 k (a k b);have h:c9 (.int x) (.int (pw k))=-(.int (x/pw k)):=eX ⟨d,c⟩;have g:cq (.int (x/pw k)) (.int 2)=-(.int (x/pw k % 2)):=eK (by decide);have f:dq (.int (x/pw k % 2)) (.int 1)=-(.bool (wy x k)):=jA _ _;fail "ev"
def EN(a:cM (cM Nat)):cM D:=a.map λK=>.tuple (eP K)
theorem wV:∀Ks:cM (cM Nat),lD.canLayAll0 (EN Ks)=OK
 |[]=>rfl
 |K::r=>by show(lD.canLayAll0 (eP K)&&lD.canLayAll0 (EN r))=OK;rw[wf,wV r];rfl
theorem xa(s:cM Nat):∀Ks:cM (cM Nat),((EN Ks).any λe=>lD.eqv e (.tuple (eP s)))=decide (s∈Ks)
 |[]=>rfl
 |K::r=>by
  show(lD.eqvAll (eP K) (eP s)||(EN r).any λe=>lD.eqv e (.tuple (eP s)))=_;rw[xa s r,Cc];by_cases h:K=s
  .rw[a4 h,a4 (show s∈K::r by rw[h];exact Ri),Ux]
  .rw[a5 h,Sz]
   by_cases g:s∈r
   .rw[a4 g,a4 (Rm _ g)]
   .rw[a5 g,a5 (λz=>(Rn.mp z).elim (λe=>h e.symm) g)]
theorem Hu(s:cM Nat)(a:cM (cM Nat)):mW (.tuple (eP s)) (.list (EN a))=-(.bool (!decide (s∈a))):=by show(if(mr (.tuple (eP s))&&lD.canLayAll0 (EN a))=OK then _ else _)=_;rw[FY,wV,Te,ak rfl,xa]
theorem Dp(cs:cM (cM Nat×Nat))(k:cs.length<=1000)(fe:FE)(cp:bA)(b:dL cp=cp)(a:∀c,fe (-(wN c)::cp)=.ok (.fz (.tuple (eP c.1)),-(wN c)::cp)):jS (d8 (gN 0) bZ fe (cs.map wN) (cL::cp) [])=.ok (EN (cs.map (·.1))):=by
 obtain⟨xs,h,g,f⟩:=gW (gt:=gN 0) (ft:=bZ) (fe:=fe) (ds:=cs.map wN) (ρ:=cL::cp) (λρ=>∃o,ρ=o::cp) (λi x=>∃c,cs[i]?=ax c/\x=.tuple (eP c.1)) ⟨cL,rfl⟩ (by rw[CL];ext) (by
  rintro i d hi ρ ⟨o,rfl⟩;rw[Rt]at hi;cases q:cs[i]? with
  |none=>rw[q]at hi;cases hi
  |some c=>
   rw[q]at hi;cases hi;have j:dL (ax (PV.fz (wN c))::cp)=-(wN c)::cp:=by show vU _::dL cp=_;rw[b];rfl
   exact⟨_,_,pZ rfl rfl (a c) rfl j,⟨_,rfl⟩,c,rfl,rfl⟩)
 rw[h];congr 1;refine WB λi=>?_;unfold EN;rw[Rt,Rt];cases q:xs[i]? with
 |none=>
  have:cs.length<=i:=by have:=Va.mp q;rw[g,CL]at this;exact this
  rw[UT this];rfl
 |some x=>obtain⟨c,e,rfl⟩:=f i x q;rw[e];rfl
theorem um{ρ:bA}{a b c:Nat}{s:cM Nat}{cs:cM (cM Nat×Nat)}{x:Int}{N C:bA->Prop}{T:RV->Prop}(ha:ρ[a]?=ax (-(.tuple (eP s))))(g:ρ[b]?=ax (ax (.ow (cs.map wN))))(o:ρ[c]?=ax (-(.int x)))(y:0<=x)(n:cs.length<=1000)
  (r:N ρ) (p:∀l,l<26->2<=s.length->s∉cs.map (·.1)->N (ρ.set b (ax (.ow ((cs++[(s,l)]).map wN))))):
  Go (dJ (gw (ay (aA ug (dD dc {ae a}) (~~~1))) (ay (aA mW (ae a) (dh 1 [] (ql b) (gN 0) bZ (aA bx (ae 0) (~~~0)))))) (d7 (lx b (cU {ae a,bu b6 1 {aA c9 (ae c) (~~~32)}}))) bq ρ) N C T:=by
 have e:ae a ρ=.ok (.fz (.tuple (eP s)),ρ):=aw ha;have j:ae c ρ=.ok (.fz (.int x),ρ):=aw o;have h:dh 1 [] (ql b) (gN 0) bZ (aA bx (ae 0) (~~~0)) ρ=.ok (.ow (EN (cs.map (·.1))),ρ):=cP (by unfold ql;rw[g];rfl) rfl (Dp cs n _ [] rfl λc=>bK (rv:=.fz (.tuple (eP c.1))) (aw rfl) aY rfl rfl kR);have t:=Hu s (cs.map (·.1));have v:ug (nd (eP s).length) (.int 1)=-(.bool (decide ((1:Int)<((eP s).length:Nat)))):=rfl;have w:c9 (.int x) (.int 32)=-(.int (x/32)):=eX ⟨by decide,by decide⟩;obtain⟨l,i,u⟩:=oB (x/32) (by ext);refine g8 (b:=decide ((1:Int)<((eP s).length:Nat))&& !decide (s∈cs.map (·.1))) (ρ1:=ρ) (dG (a9 (bK (dk (am e aD) rfl (rz _)) aY rfl rfl v) rfl) λ_=>a9 (bK e h rfl rfl t) rfl) (λq=>?_) λ_=>fH r;have f:=(Rz _ _▸q:_/\_);have m:=a6 f.1;rw[dC]at m;have k:s∉cs.map (·.1):=λz=>by rw[a4 z]at f;cases f.2
 refine ju (pv:=.fz .none) (ρ1:=ρ.set b (ax (.ow ((cs++[(s,l)]).map wN)))) (kF (d:=wN (s,l)) (ds:=cs.map wN) (ρ2:=ρ) g (jd (am e (am (hV (am (bK j aY rfl rfl w) aD) rfl rfl u) aD)) rfl (by show 2<=1000;decide)) rfl g (by rw[CL];ext) (by rw[S6];rfl)) (p l i (by ext) k)
theorem lF{n i k:Nat}(h:(Sb n)[i]?=ax k):k=i/\i<n:=by obtain⟨b,a⟩:=Rp.mp h;rw[Yp]at a;rw[RQ]at b;exact⟨a.symm,b⟩
theorem Co{xs:cM Int}{i:Int}(a:0<=i)(h:i.toNat<xs.length):bx (.list (xs.map .int)) (.int i)=-(.int xs[i.toNat]):=nw a (by rw[Rt,Rj h];rfl)
theorem VL.snoc{n nL:Int}{ls:cM (cM Mn)}{a:cM Mn}(h:VL n nL ls)(c:(a.length:Int)=n)(b:∀m∈a,VM ls.length nL m):VL n nL (ls++[a]):=by
 intro i l hi;rw[List.getElem?_append]at hi;split at hi
 .exact h i l hi
 .rename_i hn
  have e:i=ls.length:=by have:=(Rp.mp hi).1;rw[S0]at this;ext
  subst e;rw[af7]at hi;cases hi;exact⟨c,b⟩
theorem JN{k:Nat}{nL:Int}{a:cM Mn}(h:∀(i:Nat) m,a[i]?=ax m->VM k nL m):∀m∈a,VM k nL m:=λm hm=>by obtain⟨i,hi⟩:=Tr.mp hm;exact h i m hi
theorem Fe{n:Int}{a:cM Mn}{x:Int}(h:2<=((jV n a).filter (wy x)).length){l:Nat}(b:l<26):VC a ((jV n a).filter (wy x),l):=by
 refine⟨h,?_,λk c=>?_,b⟩
 .exact Zk _ (Zk _ List.pairwise_lt_range)
 .exact(Uw.mp (Uw.mp c).1).2
theorem wR{a:cM Mn}{cs:cM (cM Nat×Nat)}{c:cM Nat×Nat}(f:∀c∈cs,VC a c)(e:VC a c):∀d∈cs++[c],VC a d:=λd b=>by
 rcases Sv.mp b with z|z
 .exact f d z
 .rw[RA.mp z];exact e
theorem xL{cs:cM (cM Nat×Nat)}{s:cM Nat}{l:Nat}(f:cs.Pairwise λa c=>a.1≠c.1)(e:s∉cs.map (·.1)):(cs++[(s,l)]).Pairwise λa c=>a.1≠c.1:=by refine List.pairwise_append.mpr ⟨f,aaJ _ _,λa ha b d=>?_⟩;rw[RA.mp d];exact λz=>e (RF.mpr ⟨a,ha,z⟩)
theorem yf(xs:cM Int)(P:xs.length=20)(H:∀x∈xs,0<=x):∃b,VB b/\ik [.list (xs.map .int)]=.ok (.fz (bD b)):=by
 have e0:bx (.list (xs.map .int)) (.int 0)=-(.int xs[0]):=Co (i:=0) (by decide) (by rw[P];decide);have G:0<=xs[0]:=H _ (T1 _);generalize xs[0]=x0 at e0 G;have m1:cq (.int x0) (.int 5)=-(.int (x0 % 5)):=eK (by decide);have m2:c9 (.int x0) (.int 5)=-(.int (x0/5)):=eX ⟨by decide,by decide⟩;have m3:cq (.int (x0/5)) (.int 3)=-(.int (x0/5 % 3)):=eK (by decide);have m4:c9 (.int x0) (.int 60)=-(.int (x0/60)):=eX ⟨by decide,by decide⟩;have m5:cq (.int (x0/60)) (.int 5)=-(.int (x0/60 % 5)):=eK (by decide);have m6:c9 (.int x0) (.int 15)=-(.int (x0/15)):=eX ⟨by decide,by decide⟩;have m7:cq (.int (x0/15)) (.int 4)=-(.int (x0/15 % 4)):=eK (by decide);obtain⟨n,hn⟩:∃n,n=1+x0 % 5:=⟨_,rfl⟩;obtain⟨p,K⟩:∃n,n=1+x0/5 % 3:=⟨_,rfl⟩;have a1:bM (.int 1) (.int (x0 % 5))=-(.int n):=by rw[hn];rfl
 have a2:bM (.int 1) (.int (x0/5 % 3))=-(.int p):=by rw[K];rfl
 have w:1<=n/\n<=5:=by ext
 have U:1<=p/\p<=3:=by ext
 have rn:gJ [.int p]=ax (eP (Sb p.toNat)):=nW (by ext) (by ext);have rk:gJ [.int n]=ax (eP (Sb n.toNat)):=nW (by ext) (by ext);have N:(uv xs (ax 16) (ax (16+x0/60 % 5))).length<=4:=by
  unfold uv;rw[Sd,Sl,P];have:HT.sIx 20 0 (ax 16)=16:=by decide
  ext
 have A:∀x∈uv xs (ax 16) (ax (16+x0/60 % 5)),0<=x:=λx h=>H x (VV (U3 h));have I:wm (.list (xs.map .int)) (ax 16) (ax (16+x0/60 % 5))=ax (.ow ((uv xs (ax 16) (ax (16+x0/60 % 5))).map .int)):=by show ax (RV.ow (kS _ _ _))=_;unfold kS uv;rw[CL,Yf,WN]
 generalize uv xs (ax 16) (ax (16+x0/60 % 5))=ct at N A I;obtain⟨rv,e,b,hb,rfl⟩:=nj (ds:=[.list (xs.map .int)]) (ρ:=[-(.list (xs.map .int)),cL,cL,cL,cL,cL,cL,cL,cL]) (n:=9) (g:=ii) (T:=λv=>∃b,VB b/\v=.fz (bD b)) rfl (by
  unfold ii;fail "go"
  with_reducible apply iM (λi ρ=>∃(u:cM (cM Mn)) (B:c5 PV),ρ=[-(.list (xs.map .int)),-(.int n),-(.int p),ax (.ow (u.map u9)),B,cL,cL,cL,cL]/\u.length=i/\VL n p u)
  .fail "ev"
  .exact⟨[],cL,rfl,rfl,λi l h=>by simp at h⟩
  .rintro i d ρ hi ⟨u,B,rfl,hls,hv⟩
   obtain⟨k,hk,rfl⟩:=ij hi;obtain⟨rfl,Z⟩:=lF hk;obtain⟨R,c1,c2,c3⟩:=gW (gt:=gN 0) (ft:=bZ) (fe:=bu fx 3 {aA bx (ae 1) (aA bM (aA bM (~~~1) (aA gY (~~~5) (ae 2))) (ae 0)),ae 2,ae 3}) (ds:=eP (Sb n.toNat)) (ρ:=[cL,-(.list (xs.map .int)),-(nd k),-(.int p)])
    (λρ=>∃o,ρ=[o,-(.list (xs.map .int)),-(nd k),-(.int p)]) (λ_ x=>∃m,x=mD m/\VM k p m) ⟨cL,rfl⟩ (by rw[dC,RQ];ext) (by rintro j d hj ρ ⟨o,rfl⟩;obtain⟨y,Y,rfl⟩:=ij hj;obtain⟨rfl,X⟩:=lF Y;have m8:gY (.int 5) (nd k)=-(.int (5*(k:Int))):=jG ⟨by decide,by decide⟩;have e1:=Co (xs:=xs) (i:=1+5*(k:Int)+(y:Int)) (by ext) (by ext);obtain⟨m,hm,em⟩:=vb _ k p (H _ (T1 (show(1+5*(k:Int)+(y:Int)).toNat<xs.length by ext))) (by ext) U.1;exact⟨_,_,pZ rfl rfl (by fail "ev") rfl rfl,⟨_,rfl⟩,m,rfl,hm⟩)
   obtain⟨S,rfl,L⟩:=qu (f:=mD) (Q:=λ_ m=>VM k p m) R 0 (by simpa using c3);rw[CL,dC,RQ]at c2;have z:(u.map u9).length<1000000:=by rw[CL];ext
   refine⟨_,rfl,ju (pv:=.fz .none) (kF rfl (dk (am (cP (by fail "ev") rfl c1) aD) rfl rfl) rfl rfl z rfl) ⟨u++[S],_,by rw[S6];rfl,by rw[Ry,hls];rfl,hv.snoc (by ext) (by rw[hls];exact JN λi m h=>L i m h)⟩⟩
  .rintro ρ ⟨u,B,rfl,hls,hv⟩
   rw[dC,RQ]at hls;cases u with
   |nil=>rw[TR]at hls;ext
   |cons t r=>
    have M:=(hv 0 t rfl).1;refine bJ (cP (by fail "ev") rfl (za (r:=r) (by ext) w.2 M)) rfl (by fail "nm") ?_;fail "go"
    with_reducible apply iM (λi ρ=>∃(cs:cM (cM Nat×Nat)) (E C:c5 PV),ρ=[-(.list (xs.map .int)),-(.int n),-(.int p),-(.list ((t::r).map u9)),B,ax (.ow (eP (jV n t))),ax (.ow (cs.map wN)),E,C]/\cs.length<=i/\(∀c∈cs,VC t c)/\cs.Pairwise λa c=>a.1≠c.1)
    .fail "ev"
    .exact⟨[],cL,cL,rfl,Rr _,λc h=>(by cases h),VU⟩
    .rintro i d ρ hi ⟨cs,E,C,rfl,hcs,hvc,hcu⟩
     rw[Rt]at hi;cases q:ct[i]? with
     |none=>rw[q]at hi;cases hi
     |some x=>rw[q]at hi;cases hi;have F:0<=x:=A x (RU q);have hil:=(Rp.mp q).1;refine⟨_,rfl,bJ (dk (am (cP rfl rfl (Ck (x:=x) (zb w.2) (vY w.2))) aD) rfl rfl) rfl (by fail "nm") ?_⟩;refine um (s:=(jV n t).filter (wy x)) (cs:=cs) (x:=x) rfl rfl rfl F (by ext) ⟨cs,_,_,rfl,by ext,hvc,hcu⟩ λl O h2 J=>⟨cs++[((jV n t).filter (wy x),l)],_,_,rfl,by rw[Ry,S0];ext,wR hvc (Fe h2 O),xL hcu J⟩
    .rintro ρ ⟨cs,E,C,rfl,hcs,hvc,hcu⟩
     rw[CL]at hcs;fail "go";refine⟨⟨n,t::r,cs,1+x0/15 % 4⟩,⟨w.1,w.2,by show 1<=r.length+1;ext,by show(t::r).length<=3;ext,?_,by show cs.length<=4;ext,hvc,hcu,by show 1<=1+x0/15 % 4;ext,by show 1+x0/15 % 4<=4;ext⟩,rfl⟩;have:(((t::r).length:Nat):Int)=p:=by ext
     show VL n (((t::r).length:Nat):Int) (t::r);rw[this];exact hv)
 exact⟨b,hb,e⟩
theorem Jb{a b:Int}(r:Bool):bx (.list [.int a,.int b]) (.int (if r then 1 else 0))=-(.int (if r=OK then b else a)):=by
 cases r with
 |true=>exact Ap
 |false=>exact rR
def D2(l:cM Mn):Prop:=∀m∈l,m.isL=OK
theorem G5{l:cM Mn}(h:D2 l){k:Nat}(a:k<l.length):zB l k=OK:=by unfold zB;rw[Rj a];exact h _ (T1 a)
theorem En{n:Int}{c:cM Mn}(g:(c.length:Int)=n)(i:3<=n)(d:n<=5)(ha:D2 c){j:Int}(l:0<=j)(h:j<4):∃s:cM Nat,bx (.list [.tuple [.int 0,.int 1],.tuple [.int 1,.int 2],.tuple [.int 0,.int 1,.int 2],.tuple [.int 0,.int (n - 1)]]) (.int j)=-(.tuple (eP s))/\
  2<=s.length/\s.Pairwise (·<·)/\∀k∈s,zB c k=OK:=by
 have ok:∀k:Nat,(k:Int)<n->zB c k=OK:=λk a=>G5 ha (by ext);have e:j=0\/j=1\/j=2\/j=3:=by ext
 rcases e with rfl|rfl|rfl|rfl
 .refine⟨[0,1],nw (by decide) rfl,by decide,by decide,λk a=>ok k ?_⟩;simp only[Rn,Rv,or_false]at a;ext
 .refine⟨[1,2],nw (by decide) rfl,by decide,by decide,λk a=>ok k ?_⟩;simp only[Rn,Rv,or_false]at a;ext
 .refine⟨[0,1,2],nw (by decide) rfl,by decide,by decide,λk a=>ok k ?_⟩;simp only[Rn,Rv,or_false]at a;ext
 .refine⟨[0,(n - 1).toNat],nw (by decide) ?_,by show 2<=2;decide,?_,λk a=>ok k ?_⟩
  .show ax (lD.tuple [.int 0,.int (n - 1)])=ax (.tuple [.int ((0:Nat):Int),.int ((n - 1).toNat:Int)]);rw[show((n - 1).toNat:Int)=n - 1 by ext];rfl
  .refine Tw.mpr ⟨λb f=>?_,aaJ _ _⟩;rw[RA.mp f];ext
  .simp only[Rn,Rv,or_false]at a;ext
theorem A9(rs:cM Int)(k:∀r∈rs,0<=r)(u:rs.length<=5):∃ms:cM Mn,jS (d8 (gN 0) bZ (cU {pC (.str "letter"),bu b6 1 {aA c9 (ae 0) (~~~8)}}) (rs.map .int) [cL] [])=.ok (ms.map mD)/\ms.length=rs.length/\D2 ms/\∀(L nL:Int),∀m∈ms,VM L nL m:=by
 obtain⟨h,n,g,l⟩:=gW (gt:=gN 0) (ft:=bZ) (fe:=cU {pC (.str "letter"),bu b6 1 {aA c9 (ae 0) (~~~8)}}) (ds:=rs.map .int) (ρ:=[cL])
  (λρ=>∃o,ρ=[o]) (λ_ x=>∃m,x=mD m/\∃c,c<26/\m=Mn.SR c) ⟨cL,rfl⟩ (by rw[CL];ext) (by
   rintro j d b ρ ⟨o,rfl⟩;rw[Rt]at b;cases q:rs[j]? with
   |none=>rw[q]at b;cases b
   |some r=>rw[q]at b;cases b;have t:=k r (RU q);have p:c9 (.int r) (.int 8)=-(.int (r/8)):=eX ⟨by decide,by decide⟩;obtain⟨c,e,v⟩:=oB (r/8) (by ext);exact⟨_,_,pZ rfl rfl (by fail "ev") rfl rfl,⟨_,rfl⟩,.SR c,rfl,c,e,rfl⟩)
 obtain⟨ms,rfl,a⟩:=qu (f:=mD) (Q:=λ_ m=>∃c,c<26/\m=Mn.SR c) h 0 (by simpa using l);refine⟨ms,n,by rw[CL,CL]at g;exact g,λm hm=>?_,λL nL m hm=>?_⟩
 .obtain⟨i,hi⟩:=Tr.mp hm;obtain⟨c,_,rfl⟩:=a i m hi;rfl
 .obtain⟨i,hi⟩:=Tr.mp hm;obtain⟨c,e,rfl⟩:=a i m hi;exact e
theorem Ml(ns:cM Int)(C:ns.length<=63)(a:Int)(ha:0<=a)(ha2:a<=100):∃b,VB b/\jt [.list (ns.map .int),.int a]=.ok (.fz (bD b)):=by
 obtain⟨c,hc⟩:=mh ns a ha C;obtain⟨xs,x1,x2,x3⟩:=DH c;obtain⟨b0,hb0,eb0⟩:=yf xs x1 x2;obtain⟨w,hw,ew⟩:=my c a ha (by ext);have p18:=EX;have m1:c9 (.int w) (.int 60)=-(.int (w/60)):=eX ⟨by decide,by decide⟩;have m2:cq (.int (w/60)) (.int 4)=-(.int (w/60 % 4)):=eK (by decide);obtain⟨p,agp⟩:∃b:Bool,b=decide (w/60 % 4=1):=⟨_,rfl⟩;have m3:dq (.int (w/60 % 4)) (.int 1)=-(.bool p):=by rw[agp];exact jA _ _
 have m4:cq (.int w) (.int 5)=-(.int (w % 5)):=eK (by decide);have m5:cq (.int w) (.int 3)=-(.int (w % 3)):=eK (by decide);have i1:Dn [.bool p]=-(.int (if p then 1 else 0)):=rfl;obtain⟨n,hn⟩:∃n:Int,n=if p=OK then 3+w % 3 else 1+w % 5:=⟨_,rfl⟩
 have i2:bx (.list [.int (1+w % 5),.int (3+w % 3)]) (.int (if p then 1 else 0))=-(.int n):=by rw[hn];exact Jb p
 have K:1<=n/\n<=5:=by rw[hn];split<;>ext
 have n3:p=OK->3<=n:=λz=>by rw[hn,ak z];ext
 have m6:c9 (.int w) (.int 5)=-(.int (w/5)):=eX ⟨by decide,by decide⟩;have m7:cq (.int (w/5)) (.int 3)=-(.int (w/5 % 3)):=eK (by decide);obtain⟨u,hnL⟩:∃n,n=1+w/5 % 3:=⟨_,rfl⟩;have a2:bM (.int 1) (.int (w/5 % 3))=-(.int u):=by rw[hnL];rfl
 have l1:1<=u/\u<=3:=by ext
 have rn:gJ [.int u]=ax (eP (Sb u.toNat)):=nW (by ext) (by ext);have rk:gJ [.int n]=ax (eP (Sb n.toNat)):=nW (by ext) (by ext);have m8:c9 (.int w) (.int 15)=-(.int (w/15)):=eX ⟨by decide,by decide⟩;have m9:cq (.int (w/15)) (.int 4)=-(.int (w/15 % 4)):=eK (by decide);have m10:c9 (.int w) (.int 240)=-(.int (w/240)):=eX ⟨by decide,by decide⟩;have m11:cq (.int (w/240)) (.int 4)=-(.int (w/240 % 4)):=eK (by decide);have m12:c9 (.int w) (.int 960)=-(.int (w/960)):=eX ⟨by decide,by decide⟩;obtain⟨c16,aq9⟩:=mh ns (a+16) (by ext) C;obtain⟨B,anC,arT⟩:=my c16 16 (by decide) (by decide);have m13:cq (.int B) (.int 5)=-(.int (B % 5)):=eK (by decide);obtain⟨L,O⟩:∃n:Int,n=if p=OK then 1+w/240 % 4 else B % 5:=⟨_,rfl⟩
 have i3:bx (.list [.int (B % 5),.int (1+w/240 % 4)]) (.int (if p then 1 else 0))=-(.int L):=by rw[O];exact Jb p
 have c4:0<=L/\L<=4:=by rw[O];split<;>ext
 have rc:gJ [.int L]=ax (eP (Sb L.toNat)):=nW (by ext) (by ext);obtain⟨rv,e,b,hb,rfl⟩:=nj (ds:=[.list (ns.map .int),.int a]) (ρ:=[-(.list (ns.map .int)),-(.int a),cL,cL,cL,cL,cL,cL,cL,cL,cL,cL,cL]) (n:=13) (g:=ma) (T:=λv=>∃b,VB b/\v=.fz (bD b)) rfl (by
  unfold ma;fail "go"
  .intro _;fail "go";exact⟨b0,hb0,rfl⟩
  intro _;fail "go"
  with_reducible apply iM (λi ρ=>∃(A:cM (cM Mn)) (U S:c5 PV),ρ=[-(.list (ns.map .int)),-(.int a),-(.int w),-(.bool p),-(.int n),ax (.ow (A.map u9)),U,S,cL,cL,cL,cL,cL]/\A.length=i/\VL n u A/\(p=OK->∀l,A.head? =ax l->D2 l))
  .fail "ev"
  .exact⟨[],cL,cL,rfl,rfl,λi l h=>by simp at h,λ_ l h=>by simp at h⟩
  .rintro i d ρ hi ⟨A,U,S,rfl,hls,hv,hh⟩
   obtain⟨k,hk,rfl⟩:=ij hi;obtain⟨rfl,hkl⟩:=lF hk;have mk:gY (.int 5) (nd k)=-(.int (5*(k:Int))):=jG ⟨by decide,by decide⟩;obtain⟨ys,c1,c2,c3⟩:=gW (gt:=gN 0) (ft:=bZ) (fe:=bu cj 2 {bu ci 2 {ae 1,aA bM (aA bM (aA bM (ae 2) (~~~1)) (aA gY (~~~5) (ae 3))) (ae 0)},aA bM (aA gY (~~~5) (ae 3)) (ae 0)}) (ds:=eP (Sb n.toNat)) (ρ:=[cL,-(.list (ns.map .int)),-(.int a),-(nd k)])
    (λρ=>∃o,ρ=[o,-(.list (ns.map .int)),-(.int a),-(nd k)]) (λ_ x=>∃r:Int,x=.int r/\0<=r) ⟨cL,rfl⟩ (by rw[dC,RQ];ext) (by rintro j d I ρ ⟨o,rfl⟩;obtain⟨y,hy,rfl⟩:=ij I;obtain⟨rfl,hyl⟩:=lF hy;obtain⟨cc,hcc⟩:=mh ns (a+1+5*(k:Int)+(y:Int)) (by ext) C;obtain⟨ww,Y,eww⟩:=my cc (5*(k:Int)+(y:Int)) (by ext) (by ext);exact⟨_,_,pZ rfl rfl (by fail "ev") rfl rfl,⟨_,rfl⟩,ww,rfl,Y⟩)
   obtain⟨X,rfl,hrs⟩:=qu (f:=lD.int) (Q:=λ_ r=>(0:Int)<=r) ys 0 (by simpa using c3);have N:∀r∈X,0<=r:=λr hr=>by obtain⟨i,hi⟩:=Tr.mp hr;exact hrs i r hi
   rw[CL,dC,RQ]at c2;obtain⟨zs,d1,d2,d3⟩:=gW (gt:=gN 0) (ft:=bZ) (fe:=bu gX 3 {ae 0,ae 1,aA bM (~~~1) (aA cq (aA c9 (ae 2) (~~~5)) (~~~3))}) (ds:=X.map .int) (ρ:=[cL,-(nd k),-(.int w)])
    (λρ=>∃o,ρ=[o,-(nd k),-(.int w)]) (λ_ x=>∃m,x=mD m/\VM k u m) ⟨cL,rfl⟩ (by rw[CL];ext) (by
     rintro j d I ρ ⟨o,rfl⟩;rw[Rt]at I;cases q:X[j]? with
     |none=>rw[q]at I;cases I
     |some r=>rw[q]at I;cases I;obtain⟨m,hm,em⟩:=Ay r k u (N r (RU q)) (by ext) l1.1;exact⟨_,_,pZ rfl rfl (by fail "ev") rfl rfl,⟨_,rfl⟩,m,rfl,hm⟩)
   obtain⟨ms,rfl,hms⟩:=qu (f:=mD) (Q:=λ_ m=>VM k u m) zs 0 (by simpa using d3);rw[CL,CL]at d2;obtain⟨qs,q1,q2,q3,q4⟩:=A9 X N (by ext);have P:(A.map u9).length<1000000:=by rw[CL];ext
   have Z:VL n u (A++[ms]):=hv.snoc (by ext) (by rw[hls];exact JN λi m h=>hms i m h);refine⟨_,rfl,bJ (cP (by fail "ev") rfl c1) rfl (by fail "nm") (qh (pv:=.fz .none) (kF rfl (dk (am (cP rfl rfl d1) aD) rfl rfl) rfl rfl P rfl) ?_)⟩;refine g8 (b:=p&&decide ((k:Int)=0)) (by fail "ev") (λq=>?_) (λq=>fH ⟨A++[ms],_,_,by rw[S6];rfl,by rw[Ry,hls];rfl,Z,λz l hl=>?_⟩)
   .have q':=(Rz _ _▸q:_/\_)
    have hk0:=a6 q'.2;refine im (pL (am (dk (am (cP rfl rfl q1) aD) rfl rfl) aD) rfl (by show 1<=1000;decide)) rfl ⟨[qs],_,_,rfl,by show 1=k+1;ext,?_,λ_ l hl=>by cases hl;exact q3⟩;intro i l hi;have:i=0:=by have:=(Rp.mp hi).1;rw[S0]at this;ext
    subst this;cases hi;exact⟨by ext,λm hm=>q4 _ _ m hm⟩
   .cases A with
    |cons t r=>exact hh z l (by simpa using hl)
    |nil=>rw[TR]at hls;rw[z,a4 (by ext)]at q;cases q
  .rintro ρ ⟨A,U,S,rfl,hls,hv,hh⟩
   rw[dC,RQ]at hls;cases A with
   |nil=>rw[TR]at hls;ext
   |cons t r=>
    have R:=(hv 0 t rfl).1;have abm:p=OK->D2 t:=λz=>hh z t rfl;refine bJ (cP (by fail "ev") rfl (za (r:=r) (by ext) K.2 R)) rfl (by fail "nm") ?_;fail "go"
    with_reducible apply iM (λi ρ=>∃(cs:cM (cM Nat×Nat)) (G F E:c5 PV),ρ=[-(.list (ns.map .int)),-(.int a),-(.int w),-(.bool p),-(.int n),-(.list ((t::r).map u9)),U,S,ax (.ow (eP (jV n t))),ax (.ow (cs.map wN)),G,F,E]/\cs.length<=i/\(∀c∈cs,VC t c)/\cs.Pairwise λa c=>a.1≠c.1)
    .fail "ev"
    .exact⟨[],cL,cL,cL,rfl,Rr _,λc h=>(by cases h),VU⟩
    .rintro i d ρ hi ⟨cs,G,F,E,rfl,hcs,hvc,hcu⟩
     obtain⟨k,hk,rfl⟩:=ij hi;obtain⟨rfl,hkl⟩:=lF hk;obtain⟨cc,hcc⟩:=mh ns (a+17+(k:Int)) (by ext) C;obtain⟨x,M,ex⟩:=my cc (17+(k:Int)) (by ext) (by ext);refine⟨_,rfl,bJ (by fail "ev") rfl (by fail "nm") (bJ (dk (am (cP rfl rfl (Ck (x:=x) (zb K.2) (vY K.2))) aD) rfl rfl) rfl (by fail "nm") ?_)⟩;refine bN (b:=p) (by fail "ev") (λq=>?_) (λq=>bb ?_)
     .have b4:0<=((k:Int)+w/960) % 4/\((k:Int)+w/960) % 4<4:=⟨Tv _ (by decide),T3 _ (by decide)⟩;have m14:cq (.int ((k:Int)+w/960)) (.int 4)=-(.int (((k:Int)+w/960) % 4)):=eK (by decide);obtain⟨s,s1,s2,s3,s4⟩:=En R (n3 q) K.2 (abm q) b4.1 b4.2;refine bJ (by fail "ev") rfl (by fail "nm") ?_;exact um (s:=s) (cs:=cs) (x:=x) rfl rfl rfl M (by ext) ⟨cs,_,_,_,rfl,by ext,hvc,hcu⟩ λl J h2 H=>⟨cs++[(s,l)],_,_,_,rfl,by rw[Ry,S0];ext,wR hvc ⟨s2,s3,s4,J⟩,xL hcu H⟩
     .exact um (s:=(jV n t).filter (wy x)) (cs:=cs) (x:=x) rfl rfl rfl M (by ext) ⟨cs,_,_,_,rfl,by ext,hvc,hcu⟩ λl J h2 H=>⟨cs++[((jV n t).filter (wy x),l)],_,_,_,rfl,by rw[Ry,S0];ext,wR hvc (Fe h2 J),xL hcu H⟩
    .rintro ρ ⟨cs,G,F,E,rfl,hcs,hvc,hcu⟩
     rw[dC,RQ]at hcs;fail "go";refine⟨⟨n,t::r,cs,1+w/15 % 4⟩,⟨K.1,K.2,by show 1<=r.length+1;ext,by show(t::r).length<=3;ext,?_,by show cs.length<=4;ext,hvc,hcu,by show 1<=1+w/15 % 4;ext,by show 1+w/15 % 4<=4;ext⟩,rfl⟩;have:(((t::r).length:Nat):Int)=u:=by ext
     show VL n (((t::r).length:Nat):Int) (t::r);rw[this];exact hv)
 exact⟨b,hb,e⟩
def tx(l:cM Nat):Str:=⟨l.toArray⟩
theorem pz(a b:cM Nat):tx a++tx b=tx (a++b):=by show(⟨a.toArray++b.toArray⟩:Str)=⟨(a++b).toArray⟩;rw[List.append_toArray]
theorem gQ(l:cM Nat):(tx l).length=l.length:=by show l.toArray.size=_;rw[RB]
theorem kZ{l:cM Nat}(h:∀c∈l,c<1114112):lD.strOk (tx l)=OK:=by show l.toArray.all (λc=>decide (c<0x110000))=OK;rw[<-acR,U7];exact λc a=>a4 (h c a)
theorem EF{a b:cM Nat}(h:tx a=tx b):a=b:=e9 (λz:Str=>z.cps.toList) h
theorem uV(z:Str):tx z.cps.toList=z:=rfl
theorem pX{l:cM Nat}(h:l.length<=1000):rZ [.str (tx l)]=-(.int (l.length:Int)):=by show(if(tx l).length<=1000000 then ax (RV.fz (.int ((tx l).length:Int)))else cL)=_;rw[gQ,ak (by ext)]
theorem oO{a b:cM Nat}(h:a.length+b.length<=1000):fQ (.str (tx a)) (.str (tx b))=-(.str (tx (a++b))):=by show(if(tx a).length+(tx b).length<=1000000 then ax (RV.fz (.str (tx a++tx b)))else cL)=_;rw[gQ,gQ,ak (by ext),pz]
def kD(ks:cM Int):D:=.tuple (ks.map .int)
abbrev aO(l:cM Nat):D:=.str (tx l)
theorem wA{α:Type}{f g:α->D}{gt:FG}{fe:FE}{a:bA}(I:bA->Prop)(xs:cM α)(h:xs.length<=1000000)(o:I a)(hs:∀x∈xs,∀ρ,I ρ->∃ρ',lQ gt bZ fe (f x) ρ=.ok (ax (g x),ρ')/\I ρ'):jS (d8 gt bZ fe (xs.map f) a [])=.ok (xs.map g):=by
 obtain⟨c,n,m,l⟩:=gW (gt:=gt) (ft:=bZ) (fe:=fe) (ds:=xs.map f) (ρ:=a) I (λi y=>∃x,xs[i]?=ax x/\y=g x) o (by rw[CL];exact h) (by
  intro i d hi ρ j;rw[Rt]at hi;cases q:xs[i]? with
  |none=>rw[q]at hi;cases hi
  |some x=>
   obtain rfl:d=f x:=by rw[q]at hi;exact(R9 hi).symm
   obtain⟨ρ',e,b⟩:=hs x (RU q) ρ j;exact⟨_,_,e,b,x,rfl,rfl⟩)
 rw[n];congr 1;refine WB λi=>?_;rw[Rt];cases q:c[i]? with
 |none=>
  have:xs.length<=i:=by have:=Va.mp q;rw[m,CL]at this;exact this
  rw[UT this];rfl
 |some y=>obtain⟨x,k,rfl⟩:=l i y q;rw[k];rfl
theorem j6{α:Type}{f g:α->D}{fe:FE}{cp:bA}(xs:cM α)(b:xs.length<=1000000)(d:dL cp=cp)(c:∀x∈xs,fe (-(f x)::cp)=.ok (.fz (g x),-(f x)::cp)):jS (d8 (gN 0) bZ fe (xs.map f) (cL::cp) [])=.ok (xs.map g):=by
 refine wA (λρ=>∃o,ρ=o::cp) xs b ⟨cL,rfl⟩ ?_;rintro x a ρ ⟨o,rfl⟩;have e:dL (ax (PV.fz (f x))::cp)=-(f x)::cp:=by show vU _::dL cp=_;rw[d];rfl
 exact⟨_,pZ rfl rfl (c x a) rfl e,_,rfl⟩
theorem yx{α:Type}(p:α->Bool):∀l:cM α,sV (l.map λc=>lD.bool (p c))=ax (l.map p)
 |[]=>rfl
 |c::r=>by show(sV (r.map λc=>lD.bool (p c))).map (p c::·)=_;rw[yx p r];rfl
theorem nA{α:Type}(p:α->Bool)(l:cM α):sO [.list (l.map λc=>lD.bool (p c))]=-(.bool (l.all p)):=by show(sV _).map (λbs=>RV.fz (.bool (bs.all id)))=_;rw[yx];show ax (RV.fz (.bool _))=_;rw[List.all_map];rfl
theorem uI:∀ns:cM Int,sM (ns.map lD.int)=ax ns
 |[]=>rfl
 |n::r=>by show(sM (r.map lD.int)).map (n::·)=_;rw[uI r];rfl
theorem yZ{fe:FE}{ρ ρ1:bA}{pv:PV}{z:Str}(h:fe ρ=.ok (pv,ρ1))(a:vN pv=ax z):pp fe ρ=.ok (ph z,ρ1):=by unfold pp;rw[h,fu];dsimp only;rw[a];rfl
def Ey(c:Nat):Bool:=decide (97<=c)&&decide (c<=122)
theorem Pm(c:Nat):xq (.str "a") (.str (tx [c]))=-(.bool (decide (97<=c))):=by show ax (RV.fz (.bool (!decide ([c]<("a":Str).cps.toList))))=_;rw[show("a":Str).cps.toList=[97] by left];congr 3;rw[<-decide_not];apply decide_eq_decide.mpr;rw[VF];simp
theorem Pv(c:Nat):xq (.str (tx [c])) (.str "z")=-(.bool (decide (c<=122))):=by show ax (RV.fz (.bool (!decide (("z":Str).cps.toList<[c]))))=_;rw[show("z":Str).cps.toList=[122] by left];congr 3;rw[<-decide_not];apply decide_eq_decide.mpr;rw[VF];simp
def rL(ks:cM Int):Bool:=(ks.zip (ks.drop 1)).all λp=>decide (p.1<p.2)
theorem yH:∀a b:cM Int,mQ (a.map .int) (b.map .int)=(a.zip b).map λp=>lD.tuple [.int p.1,.int p.2]
 |[],b=>by cases b<;>rfl
 |x::r,[]=>rfl
 |x::r,y::t=>by show lD.tuple [.int x,.int y]::mQ (r.map .int) (t.map .int)=_;rw[yH r t];rfl
theorem D1{ks:cM Int}(h:1<=ks.length):wm (kD ks) (ax 1) cL=-(kD (ks.drop 1)):=by
 have a:HT.sIx ks.length 0 (ax 1)=1:=by have:=HT.sIx_nat ks.length 0 1;rw[show((1:Nat):Int)=1 from rfl]at this;ext
 show(if gK (ks.map lD.int).length (ax 1) cL=OK then cL else ax (RV.fz (.tuple (kS (ks.map lD.int) (ax 1) cL))))=_;have w:gK (ks.map lD.int).length (ax 1) cL=Rh:=by unfold gK;rw[CL,a];exact a5 λz=>by cases z.1
 rw[w,ar Rg];unfold kS kD;rw[CL,a,HT.sIx_none,<-WN,Th (by rw[CL,Sl];ext)]
theorem Oi(ks:cM Int):dc [kD ks]=-(.int (ks.length:Int)):=by show ax (RV.fz (.int ((ks.map lD.int).length:Int)))=_;rw[CL]
theorem wZ:∀(l:cM D) (k i:Nat) (d:D),(cB k l)[i]?=ax d->∃x,l[i]?=ax x/\d=.tuple [nd (k+i),x]
 |[],_,_,_,h=>by cases h
 |x::r,k,0,d,h=>by cases h;exact⟨x,rfl,rfl⟩
 |x::r,k,i+1,d,h=>by obtain⟨y,b,a⟩:=wZ r (k+1) i d h;exact⟨y,b,by rw[a,show k+1+i=k+(i+1) by ext]⟩
theorem jX{N:Nat}{g:FS}{ds:cM D}{x:Xc}{ρ:bA}(a:ds.map (λd=>-(d))++RH (N - ds.length) cL=ρ)(h:g ρ=.er x):dI N g ds=.er x:=by unfold dI;rw[a,h];rfl
theorem nK{f g:FS}{ρ:bA}{x:Xc}(h:f ρ=.er x):aF f g ρ=.er x:=by unfold aF;rw[h];rfl
theorem oU{c f:Str}{fe:FE}{ρ ρ1:bA}{pv:PV}{d:D}(b:fe ρ=.ok (pv,ρ1))(hd:lc ρ1 pv=ax d)(a:L9.r6 d=OK):L9.jE c f fe ρ=.er ⟨c,[(f,d)]⟩:=by unfold L9.jE;rw[b,fu];dsimp only;rw[hd];show(if L9.r6 d=OK then _ else _)=_;rw[ak a]
theorem uq{gt:FG}{b:FS}{x:Xc}(I:Nat->bA->Prop):∀(k s:Nat) (ds:cM D) (ρ:bA),k<ds.length->I s ρ->(∀i d ρ,i<k->ds[i]?=ax d->I (s+i) ρ->∃ρ1 ρ2,gt (.fz d) ρ=.ok ρ1/\b ρ1=.ok (.nx ρ2)/\I (s+i+1) ρ2)->
  (∀d ρ,ds[k]?=ax d->I (s+k) ρ->∃ρ1,gt (.fz d) ρ=.ok ρ1/\b ρ1=.er x)->sW gt b ds ρ=.er x
 |_,_,[],_,hk,_,_,_=>a7 hk (Xz _)
 |0,s,d::r,ρ,_,h0,_,hx=>by obtain⟨ρ1,g,f⟩:=hx d ρ rfl h0;show(gt (.fz d) ρ).bind _=_;rw[g,fu,f,Res.adS]
 |k+1,s,d::r,ρ,hk,h0,hs,hx=>by obtain⟨ρ1,ρ2,g,f,j⟩:=hs 0 d ρ (by ext) rfl h0;show(gt (.fz d) ρ).bind _=_;rw[g,fu,f,fu];refine uq I k (s+1) r ρ2 (by rw[Rk]at hk;ext) j (λi h a hi c e=>?_) λh a c e=>hx h a c (by rw[show s+(k+1)=s+1+k by ext];exact e);have:=hs (i+1) h a (by ext) c (by rw[show s+(i+1)=s+1+i by ext];exact e);rw[show s+(i+1)+1=s+1+i+1 by ext]at this;exact this
theorem xI(a b:cM Nat):lD.eqv (.str (tx a)) (.str (tx b))=decide (a=b):=by show decide (tx a=tx b)=_;exact decide_eq_decide.mpr ⟨EF,λh=>by rw[h]⟩
theorem wO:∀{L:cM (cM Nat)},(∀l∈L,∀c∈l,c<1114112)->lD.canLayAll0 (L.map λl=>lD.str (tx l))=OK
 |[],_=>rfl
 |l::r,h=>by show(lD.strOk (tx l)&&lD.canLayAll0 (r.map λl=>lD.str (tx l)))=OK;rw[kZ (h l Ri),wO λm hm=>h m (Rm _ hm)];rfl
theorem xz(w:cM Nat):∀L:cM (cM Nat),((L.map λl=>lD.str (tx l)).any λe=>lD.eqv e (.str (tx w)))=decide (w∈L)
 |[]=>rfl
 |l::r=>by
  rw[RJ,VN,xz w r,xI];by_cases h:l=w
  .subst h;simp
  .have:¬w=l:=λz=>h z.symm;simp[h,this]
theorem J5{w:cM Nat}{L:cM (cM Nat)}(a:∀c∈w,c<1114112)(b:∀l∈L,∀c∈l,c<1114112):lu (.str (tx w)) (.list (L.map λl=>lD.str (tx l)))=-(.bool (decide (w∈L))):=by show(if((lD.strOk (tx w)&&decide (0<=64))&&lD.canLayAll0 (L.map λl=>lD.str (tx l)))=OK then ax (RV.fz (.bool ((L.map λl=>lD.str (tx l)).any λe=>lD.eqv e (.str (tx w)))))else cL)=_;rw[kZ a,wO b,xz];rfl
theorem Ft:∀(l a:cM Int),(l.foldl Sr a).length<=a.length+l.length
 |[],a=>Rr _
 |x::r,a=>by
  rw[Vl];have h:=Ft r (Sr a x);have b:(Sr a x).length<=a.length+1:=by
   unfold Sr;split
   .omega
   .rw[Ry,S0];exact Rr _
  rw[Rk];ext
theorem zg:∀(l a:cM Int),(l.foldl Sr a).length=a.length+l.length->l.Nodup/\∀x∈l,x∉a
 |[],a,_=>⟨List.nodup_nil,λx h=>by cases h⟩
 |x::r,a,h=>by
  rw[Vl]at h;by_cases q:a.any (·==x)=OK
  .have e:Sr a x=a:=by unfold Sr;rw[ak q]
   rw[e,Rk]at h;have:=Ft r a;ext
  .have e:Sr a x=a++[x]:=by unfold Sr;rw[ar q]
   rw[e,Rk]at h;obtain⟨f,c⟩:=zg r (a++[x]) (by rw[Ry,S0];ext);have d:x∉a:=λz=>q (ado.mpr ⟨x,z,fo x⟩);refine⟨UQ.mpr ⟨λz=>c x z (RN _ Ri),f⟩,λy b=>?_⟩;rcases Rn.mp b with rfl|b
   .exact d
   .exact λz=>c y b (T6 _ z)
theorem sr:∀(l a:cM Int),l.Nodup->(∀x∈l,x∉a)->(l.foldl Sr a).length=a.length+l.length
 |[],a,_,_=>rfl
 |x::r,a,h,hd=>by
  obtain⟨f,d⟩:=UQ.mp h;have c:=hd x Ri;have e:Sr a x=a++[x]:=by unfold Sr;rw[ar λz=>?_];obtain⟨y,b,e⟩:=ado.mp z;rw[eq_of_beq e]at b;exact c b
  rw[Vl,e,sr r _ d λy b z=>?_,Ry,S0,Rk]
  .omega
  .rcases Sv.mp z with z|z
   .exact hd y (Rm _ b) z
   .rw[RA.mp z]at b;exact f b
theorem LV(ks:cM Int):L9.Cg ks<=ks.length:=by have:=Ft ks [];unfold L9.Cg;simpa using this
theorem Cy(ks:cM Int):L9.Cg ks=ks.length↔ks.Nodup:=by
 unfold L9.Cg;constructor
 .exact λh=>(zg ks [] (by simpa using h)).1
 .exact λh=>by simpa using sr ks [] h λ_ _ z=>by cases z
theorem rg:∀ks:cM Int,rL ks=OK↔ks.Pairwise (·<·)
 |[]=>by simp[rL]
 |[a]=>by simp[rL]
 |a::b::r=>by
  have g:=rg (b::r);have e:rL (a::b::r)=(decide (a<b)&&rL (b::r)):=rfl;rw[e,Rz,decide_eq_true_iff,g];constructor
  .rintro⟨f,d⟩
   refine Tw.mpr ⟨λx c=>?_,d⟩;rcases Rn.mp c with rfl|c
   .exact f
   .exact Int.lt_trans f ((Tw.mp d).1 x c)
  .exact λh=>have z:=Tw.mp h;⟨z.1 b Ri,z.2⟩
theorem ME{ks:cM Int}(d:ks.Pairwise (·<=·))(c:ks.Nodup):ks.Pairwise (·<·):=(d.and c).imp λ⟨a,b⟩=>by ext
theorem Hw:∀ks:cM Int,lD.canLayAll0 (ks.map lD.int)=OK
 |[]=>rfl
 |k::r=>by show(OK&&lD.canLayAll0 (r.map lD.int))=OK;rw[Hw r];rfl
theorem EV:∀ks:cM Int,lD.depthAll (ks.map lD.int)=0
 |[]=>rfl
 |k::r=>by show max 0 (lD.depthAll (r.map lD.int))=0;rw[EV r];rfl
theorem IA:∀a b:cM Int,lD.eqvAll (a.map lD.int) (b.map lD.int)=decide (a=b)
 |[],[]=>rfl
 |[],_::_=>rfl
 |_::_,[]=>rfl
 |x::r,y::t=>by show(decide (x=y)&&lD.eqvAll (r.map lD.int) (t.map lD.int))=_;rw[IA r t];by_cases h:x=y<;>by_cases g:r=t<;>simp[h,g]
theorem DY(a b:cM Int):kM (.list (a.map .int)) (.list (b.map .int))=-(.bool (!decide (a=b))):=by
 unfold kM;have c:mr (.list (a.map lD.int))=OK:=by show(lD.canLayAll0 (a.map lD.int)&&decide (lD.depthAll (a.map lD.int)+1<=64))=OK;rw[Hw,EV];rfl
 rw[c,show lD.canLay0 (.list (b.map lD.int))=OK from Hw b,Te,ak rfl,show lD.eqv (.list (a.map lD.int)) (.list (b.map lD.int))=_ from IA a b]
inductive Mg where
 |SR (s:cM Nat)
 |Tu (n:Int)
 |Wg (s:cM Nat) (n:Int)
 |once (n:Int)
 |none
 |below
def mG:Mg->D
 |.SR s=>.tuple [.str "letter",aO s]
 |.Tu n=>.tuple [.str "layer",.int n]
 |.Wg s n=>.tuple [.str "tap",aO s,.int n]
 |.once n=>.tuple [.str "once",.int n]
 |.none=>.tuple [.str "none"]
 |.below=>.tuple [.str "below"]
structure Gb where
 n:Int
 ls:cM (cM Mg)
 cs:cM (cM Int×cM Nat)
 wt:Int
def fA(l:cM Mg):D:=.tuple (l.map mG)
def ef(c:cM Int×cM Nat):D:=.tuple [kD c.1,aO c.2]
def gD(b:Gb):D:=.tuple [.int b.n,.tuple (b.ls.map fA),.tuple (b.cs.map ef),.int b.wt]
def IZ(s:cM Nat):Prop:=s.length<=10/\∀c∈s,c<1114112
def MF:Mg->Prop
 |.SR s=>IZ s
 |.Wg s _=>IZ s
 |_=>True
structure GF(k:Nat)(b:Gb):Prop where
 ll:b.ls.length<=3+k
 lm:∀l∈b.ls,l.length<=5+k/\∀m∈l,MF m
 cl:b.cs.length<=5+k
 cm:∀c∈b.cs,c.1.length<=5+min k 50/\IZ c.2
def eY(s:cM Nat):Bool:=decide ((s.length:Int)=1)&&s.all Ey
theorem vG{c:Nat}{b:FE}{ρ:bA}(h:b ρ=.ok (.fz (aO [c]),ρ)):fL xq xq (pC (.str "a")) b (pC (.str "z")) ρ=.ok (.fz (.bool ([c].all Ey)),ρ):=by
 have e:[c].all Ey=(decide (97<=c)&&decide (c<=122)):=by show(Ey c&&OK)=_;rw[Yg];rfl
 rw[e];exact jT (dy:=aO [c]) aY h aY rfl rfl rfl (Pm c) λ_=>Pv c
theorem wg{s:cM Nat}(h:((s.length:Nat):Int)=1):∃c,s=[c]:=by
 match s,h with
 |[c],_=>exact⟨c,rfl⟩
 |[],h=>cases h
 |_::_::_,h=>rw[Rk,Rk]at h;ext
theorem jJ{s:cM Nat}(h:s.length<=1000):cY [aO s]=.ok (.fz (.bool (eY s))):=by have d:=pX h;refine cA (ρ:=[-(aO s)]) rfl ?_;unfold k6;refine bX (qK (a:=decide ((s.length:Int)=1)) (b:=s.all Ey) (a9 (bW (dx:=.int (s.length:Int)) (dy:=.int 1) (dk (rv:=.fz (.int (s.length:Int))) (am (aw rfl) aD) rfl d) aY rfl rfl (jA _ _)) rfl) λq=>?_) rfl rfl;obtain⟨c,rfl⟩:=wg (a6 q);exact vG (aw rfl)
theorem iY{s:cM Nat}(h:s.length<=1000):bS [aO s]=.ok (.fz (.bool (eY s))):=by have d:=pX h;refine cA (ρ:=[-(aO s)]) rfl ?_;unfold js;refine bX (qK (a:=decide ((s.length:Int)=1)) (b:=s.all Ey) (a9 (bW (dx:=.int (s.length:Int)) (dy:=.int 1) (dk (rv:=.fz (.int (s.length:Int))) (am (aw rfl) aD) rfl d) aY rfl rfl (jA _ _)) rfl) λq=>?_) rfl rfl;obtain⟨c,rfl⟩:=wg (a6 q);exact vG (aw rfl)
def tO:Mg->Str
 |.SR _=> "letter"
 |.Tu _=> "layer"
 |.Wg _ _=> "tap"
 |.once _=> "once"
 |.none=> "none"
 |.below=> "below"
def b2:Mg->Bool
 |.SR _=>OK
 |.Wg _ _=>OK
 |_=>Rh
def b3:Mg->Bool
 |.Tu _=>OK
 |.Wg _ _=>OK
 |.once _=>OK
 |_=>Rh
def bB:Mg->Bool
 |.below=>OK
 |_=>Rh
def sG:Mg->cM Nat
 |.SR s=>s
 |.Wg s _=>s
 |_=>[]
def nG:Mg->Int
 |.Tu n=>n
 |.Wg _ n=>n
 |.once n=>n
 |_=>0
theorem Ia(m:Mg):bx (mG m) (.int 0)=-(.str (tO m)):=by cases m<;>exact kR
theorem QF{m:Mg}(h:b2 m=OK):bx (mG m) (.int 1)=-(aO (sG m)):=by cases m<;>first|exact vi|cases h
theorem Qu{m:Mg}(h:b3 m=OK):bx (mG m) (.int (-1))=-(.int (nG m)):=by cases m<;>first|rfl|cases h
theorem NQ{a:Str}(ha:lD.strOk a=OK):kM (.str a) (.str a)=-(.bool Rh):=by unfold kM;rw[show mr (.str a)=OK by unfold mr;rw[show lD.canLay0 (.str a)=OK from ha];rfl,show lD.canLay0 (.str a)=OK from ha,Te,ak rfl,show lD.eqv (.str a) (.str a)=(a==a)from rfl,fo];rfl
theorem yy{a b:Str}(ha:lD.strOk a=OK)(c:lD.strOk b=OK)(h:(a==b)=Rh):kM (.str a) (.str b)=-(.bool OK):=by unfold kM;rw[show mr (.str a)=OK by unfold mr;rw[show lD.canLay0 (.str a)=OK from ha];rfl,show lD.canLay0 (.str b)=OK from c,Te,ak rfl,show lD.eqv (.str a) (.str b)=(a==b)from rfl,h];rfl
theorem GA{a b c:Str}{v:Bool}(ha:lD.strOk a=OK)(e:lD.strOk b=OK)(d:lD.strOk c=OK)(h:(b==a||c==a)=v):lu (.str a) (.tuple [.str b,.str c])=-(.bool v):=by rw[Pl ha e d,h]
theorem FH{a b c e:Str}{v:Bool}(ha:lD.strOk a=OK)(g:lD.strOk b=OK)(f:lD.strOk c=OK)(d:lD.strOk e=OK)(h:(b==a||(c==a||e==a))=v):lu (.str a) (.tuple [.str b,.str c,.str e])=-(.bool v):=by rw[Qn ha g f d,h]
theorem Ho:∀m:Mg,dq (.str (tO m)) (.str "below")=-(.bool (bB m))
 |.SR _=>ig (a:= "letter") (by left) (by left) (by left)
 |.Tu _=>ig (a:= "layer") (by left) (by left) (by left)
 |.Wg _ _=>ig (a:= "tap") (by left) (by left) (by left)
 |.once _=>ig (a:= "once") (by left) (by left) (by left)
 |.none=>ig (a:= "none") (by left) (by left) (by left)
 |.below=>ub (a:= "below") (by left)
theorem GS:∀m:Mg,kM (.str (tO m)) (.str "below")=-(.bool (!bB m))
 |.SR _=>yy (a:= "letter") (by left) (by left) (by left)
 |.Tu _=>yy (a:= "layer") (by left) (by left) (by left)
 |.Wg _ _=>yy (a:= "tap") (by left) (by left) (by left)
 |.once _=>yy (a:= "once") (by left) (by left) (by left)
 |.none=>yy (a:= "none") (by left) (by left) (by left)
 |.below=>NQ (a:= "below") (by left)
theorem Jx:∀m:Mg,lu (.str (tO m)) (.tuple [.str "letter",.str "tap"])=-(.bool (b2 m))
 |.SR _=>GA (a:= "letter") (v:=OK) (by left) (by left) (by left) (by left)
 |.Tu _=>GA (a:= "layer") (v:=Rh) (by left) (by left) (by left) (by left)
 |.Wg _ _=>GA (a:= "tap") (v:=OK) (by left) (by left) (by left) (by left)
 |.once _=>GA (a:= "once") (v:=Rh) (by left) (by left) (by left) (by left)
 |.none=>GA (a:= "none") (v:=Rh) (by left) (by left) (by left) (by left)
 |.below=>GA (a:= "below") (v:=Rh) (by left) (by left) (by left) (by left)
theorem Jg:∀m:Mg,lu (.str (tO m)) (.tuple [.str "layer",.str "tap",.str "once"])=-(.bool (b3 m))
 |.SR _=>FH (a:= "letter") (v:=Rh) (by left) (by left) (by left) (by left) (by left)
 |.Tu _=>FH (a:= "layer") (v:=OK) (by left) (by left) (by left) (by left) (by left)
 |.Wg _ _=>FH (a:= "tap") (v:=OK) (by left) (by left) (by left) (by left) (by left)
 |.once _=>FH (a:= "once") (v:=OK) (by left) (by left) (by left) (by left) (by left)
 |.none=>FH (a:= "none") (v:=Rh) (by left) (by left) (by left) (by left) (by left)
 |.below=>FH (a:= "below") (v:=Rh) (by left) (by left) (by left) (by left) (by left)
theorem Lh(m:Mg):lu (.str (tO m)) (.list [.str "letter",.str "tap"])=-(.bool (b2 m)):=Jx m
theorem K4(m:Mg):lu (.str (tO m)) (.list [.str "layer",.str "tap",.str "once"])=-(.bool (b3 m)):=Jg m
def uN(m:Mg)(L nL:Int):Bool:=if bB m=OK then !decide (L=0)else !(b2 m&& !eY (sG m))&&(!b3 m||(decide (1<=nG m)&&decide (nG m<nL)))
theorem MF.s{m:Mg}(h:MF m)(a:b2 m=OK):IZ (sG m):=by cases m<;>first|exact h|cases a
theorem Ac{L nL:Int}{m:Mg}(h:MF m):jh [mG m,.int L,.int nL]=.ok (.fz (.bool (uN m L nL))):=by
 have k:=Ia m;have j:=Ho m;have e:=Jx m;have d:=Jg m;refine cA (ρ:=[-(mG m),-(.int L),-(.int nL),cL]) rfl ?_;unfold mj;refine bJ (pv:=.fz (.str (tO m))) (ρ3:=[-(mG m),-(.int L),-(.int nL),-(.str (tO m))]) (bK (rv:=.fz (.str (tO m))) (aw rfl) aY rfl rfl k) rfl rfl ?_;unfold uN;refine bN (b:=bB m) (a9 (bW (aw rfl) aY rfl rfl j) rfl) (λq=>?_) λq=>bb ?_
 .rw[ak q];exact cx (pv:=.fz (.bool (!decide (L=0)))) (bW (aw rfl) aY rfl rfl (ot _ _)) rfl rfl
 rw[q,ar Rg]
 have l:(gw (ay (aA lu (ae 3) (cU {pC (.str "letter"),pC (.str "tap")}))) (ib (ay (bu cY 1 {aA bx (ae 0) (~~~1)})))) [-(mG m),-(.int L),-(.int nL),-(.str (tO m))]
   =.ok (b2 m&& !eY (sG m),[-(mG m),-(.int L),-(.int nL),-(.str (tO m))]):=by
  refine dG (a9 (bW (dx:=.str (tO m)) (dy:=.tuple [.str "letter",.str "tap"]) (aw rfl) (jd (ds:=[.str "letter",.str "tap"]) (am aY (am aY aD)) rfl (RP rfl)) rfl rfl e) rfl) λz=>?_;have f:=QF z;have i:=jJ (s:=sG m) (by have:=(h.s z).1;ext);exact dU (a9 (iE (ds:=[aO (sG m)]) (am (bK (rv:=.fz (aO (sG m))) (aw rfl) aY rfl rfl f) aD) rfl rfl i) rfl)
 refine bN l (λc=>?_) λc=>bb ?_
 .rw[c];exact cx (pv:=.fz (.bool Rh)) aY rfl rfl
 rw[c];refine bN (b:=b3 m) (a9 (bW (dx:=.str (tO m)) (dy:=.tuple [.str "layer",.str "tap",.str "once"]) (aw rfl) (jd (ds:=[.str "layer",.str "tap",.str "once"]) (am aY (am aY (am aY aD))) rfl (RP rfl)) rfl rfl d) rfl) (λa=>?_) λa=>bb ?_
 .have g:=Qu a;rw[a];exact cx (pv:=.fz (.bool (decide (1<=nG m)&&decide (nG m<nL)))) (jT (dy:=.int (nG m)) aY (bK (rv:=.fz (.int (nG m))) (aw rfl) (Fd (rv:=.fz (.int (-1))) aY rfl rfl) rfl rfl g) (aw rfl) rfl rfl rfl (nb _ _) λ_=>kI _ _) rfl rfl
 .rw[a];exact bX (pv:=.fz (.bool OK)) aY rfl rfl
theorem yh{L nL:Int}(u:0<=L){m:Mg}(h:MF m):kh [mG m,.int L,.int nL]=.ok (.fz (.bool (uN m L nL))):=by
 have p:=Ia m;have o:=GS m;have j:=Lh m;have i:=K4 m;refine cA (ρ:=[-(mG m),-(.int L),-(.int nL)]) rfl ?_;unfold j8;have e:(aA bx (ae 0) (~~~0)) [-(mG m),-(.int L),-(.int nL)]=.ok (.fz (.str (tO m)),[-(mG m),-(.int L),-(.int nL)]):=bK (rv:=.fz (.str (tO m))) (aw rfl) aY rfl rfl p
 have t:(gw (ay (aA lu (aA bx (ae 0) (~~~0)) (cH {pC (.str "letter"),pC (.str "tap")}))) (ib (ay (bu bS 1 {aA bx (ae 0) (~~~1)})))) [-(mG m),-(.int L),-(.int nL)]
   =.ok (b2 m&& !eY (sG m),[-(mG m),-(.int L),-(.int nL)]):=by
  refine dG (a9 (bW (dx:=.str (tO m)) (dy:=.list [.str "letter",.str "tap"]) e (pL (ds:=[.str "letter",.str "tap"]) (am aY (am aY aD)) rfl (RP rfl)) rfl rfl j) rfl) λz=>?_;have k:=QF z;have n:=iY (s:=sG m) (by have:=(h.s z).1;ext);exact dU (a9 (iE (ds:=[aO (sG m)]) (am (bK (rv:=.fz (aO (sG m))) (aw rfl) aY rfl rfl k) aD) rfl rfl n) rfl)
 have d:bB m=OK->b2 m=Rh:=λz=>by cases m<;>first|rfl|cases z
 have c:bB m=OK->b3 m=Rh:=λz=>by cases m<;>first|rfl|cases z
 unfold uN;refine bN t (λb=>?_) λb=>bb ?_
 .refine cx (pv:=.fz (.bool Rh)) (rv:=.fz (.bool Rh)) aY rfl ?_
  cases q:bB m with
  |true=>rw[d q]at b;cases b
  |false=>rw[ar Rg,b];rfl
 have r:(gw (ay (aA lu (aA bx (ae 0) (~~~0)) (cH {pC (.str "layer"),pC (.str "tap"),pC (.str "once")}))) (kL (ay (aA sw (aA bx (ae 0) (G3 xG (~~~1))) (~~~1))) (ay (aA HB (aA bx (ae 0) (G3 xG (~~~1))) (ae 2))))) [-(mG m),-(.int L),-(.int nL)]
   =.ok (b3 m&&(decide (nG m<1)||decide (nG m≥nL)),[-(mG m),-(.int L),-(.int nL)]):=by
  refine dG (a9 (bW (dx:=.str (tO m)) (dy:=.list [.str "layer",.str "tap",.str "once"]) e (pL (ds:=[.str "layer",.str "tap",.str "once"]) (am aY (am aY (am aY aD))) rfl (RP rfl)) rfl rfl i) rfl) λz=>?_;have l:=Qu z;have g:(aA bx (ae 0) (G3 xG (~~~1))) [-(mG m),-(.int L),-(.int nL)]=.ok (.fz (.int (nG m)),[-(mG m),-(.int L),-(.int nL)]):=bK (rv:=.fz (.int (nG m))) (aw rfl) (Fd (rv:=.fz (.int (-1))) aY rfl rfl) rfl rfl l;exact cX (a9 (bW g aY rfl rfl (kI _ _)) rfl) λ_=>a9 (bW g (aw rfl) rfl rfl (GG _ _)) rfl
 have f:(decide (1<=nG m)&&decide (nG m<nL))= !(decide (nG m<1)||decide (nG m≥nL)):=by rw[Bool.not_or,<-decide_not,<-decide_not];congr 1<;>(apply decide_eq_decide.mpr;ext)
 refine bN r (λa=>?_) λa=>bb ?_
 .refine cx (pv:=.fz (.bool Rh)) (rv:=.fz (.bool Rh)) aY rfl ?_
  cases q:bB m with
  |true=>rw[c q]at a;cases a
  |false=>rw[ar Rg,f,b];rw[Rz]at a;rw[a.1,a.2];rfl
 refine bX (pv:=.fz (.bool (!bB m||decide (L>0)))) (rv:=.fz (.bool (!bB m||decide (L>0)))) (A3 (a9 (bW e aY rfl rfl o) rfl) λ_=>bW (aw rfl) aY rfl rfl (yt _ _)) rfl ?_;cases q:bB m with
 |true=>rw[ak rfl];show RV.fz (.bool (decide (L>0)))=_;congr 2;rw[<-decide_not];apply decide_eq_decide.mpr;ext
 |false=>
  rw[ar Rg,f,b];cases z:b3 m with
  |false=>rfl
  |true=>rw[z]at a;have a:(decide (nG m<1)||decide (nG m≥nL))=Rh:=a;rw[a];rfl
theorem pK{c f g:Str}{a:FA}{ρ ρ1:bA}{ps:cM PV}{d e:D}(ha:a ρ=.ok (ps,ρ1))(hd:mS ρ1 ps=ax [d,e])(h:L9.r6 d=OK)(b:L9.r6 e=OK):L9.jI c f g a ρ=.er ⟨c,[(g,e),(f,d)]⟩:=by unfold L9.jI;rw[ha,fu];dsimp only;rw[hd];show(if L9.r6 d=OK/\L9.r6 e=OK then _ else _)=_;rw[ak ⟨h,b⟩]
theorem tJ{F:FN}{n:Nat}{a:FA}{ρ ρ1 ρ2:bA}{ps:cM PV}{ds:cM D}{x:Xc}(ha:a ρ=.ok (ps,ρ1))(hd:lN ρ1 ps=ax (ds,ρ2))(hn:ds.length=n)(b:F ds=.er x):na F n a ρ=.er x:=by unfold na;rw[ha,fu];dsimp only;rw[hd];show(if ds.length=n then _ else _)=_;rw[ak hn,b];rfl
theorem k7{F:FN}{n:Nat}{a:FA}{ρ ρ1 ρ2:bA}{ps:cM PV}{ds:cM D}{rv:RV}(ha:a ρ=.ok (ps,ρ1))(hd:lN ρ1 ps=ax (ds,ρ2))(hn:ds.length=n)(b:F ds=.ok rv):na F n a ρ=.ok (rv.pv,ρ2):=by unfold na;rw[ha,fu];dsimp only;rw[hd];show(if ds.length=n then _ else _)=_;rw[ak hn,b];rfl
theorem xQ{fe:FE}{ρ:bA}{x:Xc}(h:fe ρ=.er x):d7 fe ρ=.er x:=by unfold d7;rw[h];rfl
theorem o0{i:Nat}(h:i<=1000):L9.r6 (nd i)=OK:=by show decide (((i:Nat):Int).natAbs.log2<1920)=OK;refine a4 ?_;rw[Int.natAbs_natCast];exact Yt (Nat.log2_le_self i) (by ext)
abbrev xB(l k:D):Xc:=⟨"NoBed",[("key",k),("layer",l)]⟩
abbrev xC(p:D):Xc:=⟨"NoChord",[("place",p)]⟩
section
variable{b:Gb}{k:Nat}
theorem Pd:bx (gD b) (.int 0)=-(.int b.n):=kR
theorem O9:bx (gD b) (.int 1)=-(.tuple (b.ls.map fA)):=vi
theorem Qg:bx (gD b) (.int 2)=-(.tuple (b.cs.map ef)):=Hn
theorem Q1:bx (gD b) (.int 3)=-(.int b.wt):=Kw (by decide) rfl
theorem xp:dc [.tuple (b.ls.map fA)]=-(.int (b.ls.length:Int)):=by show ax (RV.fz (.int ((b.ls.map fA).length:Int)))=_;rw[CL]
theorem A0:dc [.tuple (b.cs.map ef)]=-(.int (b.cs.length:Int)):=by show ax (RV.fz (.int ((b.cs.map ef).length:Int)))=_;rw[CL]
theorem Gq(l:cM Mg):dc [fA l]=-(.int (l.length:Int)):=by show ax (RV.fz (.int ((l.map mG).length:Int)))=_;rw[CL]
abbrev Bz(lo hi x:Int):Bool:=decide (lo<=x)&&decide (x<=hi)
def wJ(b:Gb):Bool:= !Bz 1 5 b.n|| !Bz 1 3 (b.ls.length:Int)
def xy(b:Gb):Bool:=decide ((b.cs.length:Int)>4)|| !Bz 1 4 b.wt
theorem FV:dM [gD b]=if(wJ b||xy b)=OK then .er (xB .none .none)else .ok (.fz .none):=by
 have j:=Pd (b:=b);have i:=O9 (b:=b);have h:=Qg (b:=b);have g:=Q1 (b:=b);have f:=xp (b:=b);have e:=A0 (b:=b)
 have a:(kL (ib (ay (fL vo vo (~~~1) (aA bx (ae 0) (~~~0)) (~~~5)))) (ib (ay (fL vo vo (~~~1) (dD dc {aA bx (ae 0) (~~~1)}) (~~~3))))) [-(gD b)]=.ok (wJ b,[-(gD b)]):=
  cX (dU (a9 (jT (dy:=.int b.n) aY (bK (rv:=.fz (.int b.n)) (aw rfl) aY rfl rfl j) aY rfl rfl rfl (nb _ _) λ_=>nb _ _) rfl)) λ_=>dU (a9 (jT (dy:=.int (b.ls.length:Int)) aY (dk (rv:=.fz (.int (b.ls.length:Int))) (am (bK (rv:=.fz (.tuple (b.ls.map fA))) (aw rfl) aY rfl rfl i) aD) rfl f) aY rfl rfl rfl (nb _ _) λ_=>nb _ _) rfl)
 have c:(kL (ay (aA ug (dD dc {aA bx (ae 0) (~~~2)}) (~~~4))) (ib (ay (fL vo vo (~~~1) (aA bx (ae 0) (~~~3)) (~~~4))))) [-(gD b)]=.ok (xy b,[-(gD b)]):=
  cX (a9 (bW (dx:=.int (b.cs.length:Int)) (dy:=.int 4) (dk (rv:=.fz (.int (b.cs.length:Int))) (am (bK (rv:=.fz (.tuple (b.cs.map ef))) (aw rfl) aY rfl rfl h) aD) rfl e) aY rfl rfl (yt _ _)) rfl) λ_=>dU (a9 (jT (dy:=.int b.wt) aY (bK (rv:=.fz (.int b.wt)) (aw rfl) aY rfl rfl g) aY rfl rfl rfl (nb _ _) λ_=>nb _ _) rfl)
 have d:∀{ρ:bA},L9.jI "NoBed" "layer" "key" {pC .none,pC .none} ρ=.er (xB .none .none):=pK (am aY (am aY aD)) rfl rfl rfl;cases q1:wJ b with
 |true=>rw[q1]at a;rw[Ux,ak rfl];refine jX (ρ:=[-(gD b)]) rfl ?_;unfold fJ;exact nK ((vm a).trans d)
 |false=>
  rw[q1]at a;cases q2:xy b with
  |true=>rw[q2]at c;rw[Sz,ak rfl];refine jX (ρ:=[-(gD b)]) rfl ?_;unfold fJ;exact(eV ((xU a).trans rfl)).trans ((vm c).trans d)
  |false=>rw[q2]at c;rw[Sz,ar Rg];refine cA (ρ:=[-(gD b)]) rfl ?_;unfold fJ;exact bN a (λz=>by cases z) λ_=>bb (g8 c (λz=>by cases z) λ_=>fH rfl)
def cF(b:Gb)(i:Nat):cM Mg:=b.ls.getD i []
theorem Bs{i:Nat}(h:i<b.ls.length):(b.ls.map fA)[i]?=ax (fA (cF b i)):=by unfold cF;rw[Rt,Rj h,SD,Rj h];rfl
theorem zV{i:Nat}(h:i<b.ls.length):cF b i∈b.ls:=by unfold cF;rw[SD,Rj h];exact T1 h
theorem BJ{l:cM Mg}{j:Nat}(h:j<l.length):(l.map mG)[j]?=ax (mG (l.getD j .none)):=by rw[Rt,Rj h,SD,Rj h];rfl
theorem E7{l:cM Mg}{j:Nat}(h:j<l.length):l.getD j .none∈l:=by rw[SD,Rj h];exact T1 h
def sB(b:Gb)(i j:Nat):Bool:= !uN ((cF b i).getD j .none) (i:Int) (b.ls.length:Int)
def rY(b:Gb)(i:Nat):c5 Nat:=(Sb (cF b i).length).find? λj=>sB b i j
def kf(b:Gb)(i:Nat):c5 D:=if((cF b i).length:Int)=b.n then(rY b i).map nd else ax .none
theorem zY(y:GF k b)(N:k<=400){i:Nat}(hi:i<b.ls.length):dY [gD b,nd i]=match kf b i with|some d=>.er (xB (nd i) d)|none=>.ok (.fz .none):=by
 have M:=y.ll;have K:=Pd (b:=b);have B:=O9 (b:=b);have F:=xp (b:=b);have G:bx (.tuple (b.ls.map fA)) (nd i)=-(fA (cF b i)):=CJ (Bs hi);have C:=y.lm _ (zV hi);have E:=Gq (cF b i);have v:(aA bx (aA bx (ae 0) (~~~1)) (ae 1)) [-(gD b),-(nd i),cL,cL,cL]=.ok (.fz (fA (cF b i)),[-(gD b),-(nd i),cL,cL,cL]):=bK (rv:=.fz (fA (cF b i))) (bK (rv:=.fz (.tuple (b.ls.map fA))) (aw rfl) aY rfl rfl B) (aw rfl) rfl rfl G
 have r:(ay (aA kM (dD dc {ae 2}) (aA bx (ae 0) (~~~0)))) [-(gD b),-(nd i),-(fA (cF b i)),cL,cL]=.ok (!decide (((cF b i).length:Int)=b.n),[-(gD b),-(nd i),-(fA (cF b i)),cL,cL]):=
  a9 (bW (dx:=.int ((cF b i).length:Int)) (dy:=.int b.n) (dk (rv:=.fz (.int ((cF b i).length:Int))) (am (aw rfl) aD) rfl E) (bK (rv:=.fz (.int b.n)) (aw rfl) aY rfl rfl K) rfl rfl (ot _ _)) rfl
 have u:∀j,j<(cF b i).length->(ib (ay (bu jh 3 {ae 4,ae 1,dD dc {aA bx (ae 0) (~~~1)}}))) [-(gD b),-(nd i),-(fA (cF b i)),-(nd j),-(mG ((cF b i).getD j .none))]=.ok (sB b i j,[-(gD b),-(nd i),-(fA (cF b i)),-(nd j),-(mG ((cF b i).getD j .none))]):=λj p=>by have w:=Ac (L:=(i:Int)) (nL:=(b.ls.length:Int)) (C.2 _ (E7 p));unfold sB;generalize (cF b i).getD j .none=m at w;generalize fA (cF b i)=lg;exact dU (a9 (iE (ds:=[mG m,nd i,.int (b.ls.length:Int)]) (am (aw rfl) (am (aw rfl) (am (dk (rv:=.fz (.int (b.ls.length:Int))) (am (bK (rv:=.fz (.tuple (b.ls.map fA))) (aw rfl) aY rfl rfl B) aD) rfl F) aD))) rfl rfl w) rfl)
 have e:∀j d,(cB 0 ((cF b i).map mG))[j]?=ax d->j<(cF b i).length/\d=.tuple [nd j,mG ((cF b i).getD j .none)]:=λj d p=>by
  obtain⟨x,l,rfl⟩:=wZ _ _ _ _ p;have o:j<(cF b i).length:=by obtain⟨z,_⟩:=Rp.mp l;rw[CL]at z;exact z
  rw[BJ o]at l;cases l;rw[Wf];exact⟨o,rfl⟩
 have A:L3.vA {ae 2} [-(gD b),-(nd i),-(fA (cF b i)),cL,cL]=.ok (cB 0 ((cF b i).map mG),[-(gD b),-(nd i),-(fA (cF b i)),cL,cL]):=xZ (d:=fA (cF b i)) (am (aw rfl) aD) rfl rfl;unfold kf;by_cases t:((cF b i).length:Int)=b.n
 .rw[ak t]
  rw[a4 t]at r;cases hf:rY b i with
  |some j=>
   have a:=hf;unfold rY at a;rw[Tt]at a;obtain⟨J,I,H⟩:=a;have p:=Sf.mp I;refine jX (ρ:=[-(gD b),-(nd i),cL,cL,cL]) rfl ?_;unfold gH;refine(eV (ip v rfl rfl)).trans ((eV ((xU r).trans rfl)).trans ((nJ A).trans ?_));refine uq (λ_ ρ=>∃h g,ρ=[-(gD b),-(nd i),-(fA (cF b i)),h,g]) j 0 _ _ (by rw[iK,CL];exact p) ⟨cL,cL,rfl⟩ ?_ ?_
   .rintro x d ρ l q ⟨h,g,rfl⟩
    obtain⟨c,rfl⟩:=e x d q;have f:=u x c;have:sB b i x=Rh:=by have:=H x l;exact Wz.mpr λz=>by rw[z]at this;cases this
    rw[this]at f;exact⟨_,_,rfl,(xU f).trans rfl,_,_,rfl⟩
   .rintro d ρ q ⟨h,g,rfl⟩;obtain⟨c,rfl⟩:=e j d q;have f:=u j c;rw[J]at f;exact⟨_,rfl,(vm f).trans (pK (am (aw rfl) (am (aw rfl) aD)) rfl (o0 (by ext)) (o0 (by ext)))⟩
  |none=>have a:=hf;unfold rY at a;rw[Um]at a;refine cA (ρ:=[-(gD b),-(nd i),cL,cL,cL]) rfl ?_;unfold gH;refine bJ (ρ3:=[-(gD b),-(nd i),-(fA (cF b i)),cL,cL]) v rfl rfl (bN r (λz=>by cases z) λ_=>bb ?_);refine zW (λ_ ρ=>∃h g:c5 PV,ρ=[-(gD b),-(nd i),-(fA (cF b i)),h,g]) A ⟨cL,cL,rfl⟩ ?_ (λ_ _=>rfl);rintro x d ρ q ⟨h,g,rfl⟩;obtain⟨c,rfl⟩:=e x d q;have f:=u x c;rw[Wz.mpr (a x (Sf.mpr c))]at f;exact⟨_,rfl,g8 f (λz=>by cases z) λ_=>fH ⟨_,_,rfl⟩⟩
 .rw[ar t];rw[a5 t]at r;refine jX (ρ:=[-(gD b),-(nd i),cL,cL,cL]) rfl ?_;unfold gH;exact(eV (ip v rfl rfl)).trans (nK ((vm r).trans (pK (am (aw rfl) (am aY aD)) rfl (o0 (by ext)) rfl)))
end
def bL:Mg->Bool
 |.SR _=>OK
 |_=>Rh
theorem yM:∀m:Mg,dq (.str (tO m)) (.str "letter")=-(.bool (bL m))
 |.SR _=>ub (a:= "letter") (by left)
 |.Tu _=>ig (a:= "layer") (by left) (by left) (by left)
 |.Wg _ _=>ig (a:= "tap") (by left) (by left) (by left)
 |.once _=>ig (a:= "once") (by left) (by left) (by left)
 |.none=>ig (a:= "none") (by left) (by left) (by left)
 |.below=>ig (a:= "below") (by left) (by left) (by left)
theorem G8{ks:cM Int}(h:1<=ks.length)(g:ks.length<=1000):qV [kD ks]=.ok (.fz (.bool (rL ks))):=by
 have a:=D1 h;have b:jS (d8 (gT 2 (rD (gN 0) (rD (gN 1) B8))) bZ (aA sw (ae 0) (ae 1)) (mQ (ks.map .int) ((ks.drop 1).map .int)) [cL,cL] [])=.ok ((ks.zip (ks.drop 1)).map λp=>lD.bool (decide (p.1<p.2))):=by rw[yH];refine wA (λρ=>∃o p,ρ=[o,p]) _ (by rw[List.length_zip];ext) ⟨cL,cL,rfl⟩ ?_;rintro p f ρ ⟨o,q,rfl⟩;exact⟨_,pZ rfl rfl (bW (dx:=.int p.1) (dy:=.int p.2) (aw rfl) (aw rfl) rfl rfl (kI _ _)) rfl rfl,_,_,rfl⟩
 have c:=nA (λp:Int×Int=>decide (p.1<p.2)) (ks.zip (ks.drop 1));refine cA (ρ:=[-(kD ks)]) rfl ?_;unfold tH;exact bX (wn (am (cP (BE (d:=kD ks) (e:=kD (ks.drop 1)) (am (aw rfl) (am (BR (rv:=.fz (kD (ks.drop 1))) (aw rfl) (rb aY rfl) rq rfl a) aD)) rfl rfl rfl) rfl b) aD) rfl c) rfl rfl
section
variable{b:Gb}{k:Nat}
def vv(b:Gb)(x:Int):Bool:=(decide (0<=x)&&decide (x<b.n))&&bL ((cF b 0).getD x.toNat .none)
def w6(b:Gb)(ks:cM Int):Bool:=if(decide ((ks.length:Int)<2)|| !rL ks)=OK then Rh else ks.all (vv b)
theorem yQ(t:1<=b.ls.length)(u:((cF b 0).length:Int)=b.n){ks:cM Int}(l:ks.length<=1000):fK [gD b,kD ks]=.ok (.fz (.bool (w6 b ks))):=by
 have p:=Pd (b:=b);have o:=O9 (b:=b);have Kr:bx (.tuple (b.ls.map fA)) (.int 0)=-(fA (cF b 0)):=CJ (i:=0) (Bs (by ext));have h:=Oi ks;have e:jS (d8 (gN 0) bZ (mV (fL vo sw (~~~0) (ae 0) (aA bx (ae 1) (~~~0))) (aA dq (aA bx (aA bx (aA bx (aA bx (ae 1) (~~~1)) (~~~0)) (ae 0)) (~~~0)) (pC (.str "letter")))) (ks.map .int) [cL,-(gD b)] [])=.ok (ks.map λx=>lD.bool (vv b x)):=by
  refine j6 ks (by ext) rfl λx _=>?_;refine qK (a:=decide (0<=x)&&decide (x<b.n)) (b:=bL ((cF b 0).getD x.toNat .none)) (a9 (jT (dy:=.int x) (dz:=.int b.n) aY (aw rfl) (bK (rv:=.fz (.int b.n)) (aw rfl) aY rfl rfl p) rfl rfl rfl (nb _ _) λ_=>kI _ _) rfl) λq=>?_;rw[Rz,decide_eq_true_iff,decide_eq_true_iff]at q;have j:x.toNat<(cF b 0).length:=by ext
  have c:bx (fA (cF b 0)) (.int x)=-(mG ((cF b 0).getD x.toNat .none)):=Kw q.1 (BJ j);have f:=Ia ((cF b 0).getD x.toNat .none);have g:=yM ((cF b 0).getD x.toNat .none);generalize (cF b 0).getD x.toNat .none=m at c f g;exact bW (dx:=.str (tO m)) (dy:=.str "letter") (bK (rv:=.fz (.str (tO m))) (bK (rv:=.fz (mG m)) (bK (rv:=.fz (fA (cF b 0))) (bK (rv:=.fz (.tuple (b.ls.map fA))) (aw rfl) aY rfl rfl o) aY rfl rfl Kr) (aw rfl) rfl rfl c) aY rfl rfl f) aY rfl rfl g
 have r:=nA (vv b) ks;refine cA (ρ:=[-(gD b),-(kD ks)]) rfl ?_;unfold iG w6;refine bN (b:=decide ((ks.length:Int)<2)|| !rL ks) (cX (a9 (bW (dx:=.int (ks.length:Int)) (dy:=.int 2) (dk (rv:=.fz (.int (ks.length:Int))) (am (aw rfl) aD) rfl h) aY rfl rfl (kI _ _)) rfl) λq=>?_) (λq=>?_) λq=>bb ?_
 .have q:=of_decide_eq_false q;have er:=G8 (ks:=ks) (by ext) l;exact dU (a9 (iE (am (aw rfl) aD) rfl rfl er) rfl)
 .rw[ak q];exact cx (pv:=.fz (.bool Rh)) aY rfl rfl
 .rw[q,ar Rg];exact bX (wn (am (cP (gc (d:=kD ks) (aw rfl) rfl rfl) rfl e) aD) rfl r) rfl rfl
abbrev c0:cM Int×cM Nat:=([],[])
def jk(b:Gb)(p:Nat):cM Int×cM Nat:=b.cs.getD p c0
theorem JT{p:Nat}(h:p<b.cs.length):(b.cs.map ef)[p]?=ax (ef (jk b p)):=by unfold jk;rw[Rt,Rj h,SD,Rj h];rfl
theorem Ef{p:Nat}(h:p<b.cs.length):jk b p∈b.cs:=by unfold jk;rw[SD,Rj h];exact T1 h
theorem D6(p:Nat):Jj (.tuple (b.cs.map ef)) cL (ax (p:Int))=-(.tuple ((b.cs.take p).map ef)):=by show ax (RV.fz (.tuple (kS (b.cs.map ef) cL (ax (p:Int)))))=_;unfold kS;rw[HT.sIx_none,ZZ,HT.sIx_nat,af3,CL,Yf];congr 3;rw[abj];rw[CL];ext
theorem xM:∀L:cM (cM Int),lD.canLayAll0 (L.map kD)=OK
 |[]=>rfl
 |l::r=>by show(lD.canLayAll0 (l.map lD.int)&&lD.canLayAll0 (r.map kD))=OK;rw[Hw,xM r];rfl
theorem wc(w:cM Int):∀L:cM (cM Int),((L.map kD).any λe=>lD.eqv e (kD w))=decide (w∈L)
 |[]=>rfl
 |l::r=>by
  rw[RJ,VN,wc w r,show lD.eqv (kD l) (kD w)=_ from IA l w];by_cases h:l=w
  .subst h;simp
  .have:¬w=l:=λz=>h z.symm;simp[h,this]
theorem Je(w:cM Int):mr (kD w)=OK:=by show(lD.canLayAll0 (w.map lD.int)&&decide (lD.depthAll (w.map lD.int)+1<=64))=OK;rw[Hw,EV];rfl
theorem KT(w:cM Int)(L:cM (cM Int)):lu (kD w) (.list (L.map kD))=-(.bool (decide (w∈L))):=by show(if(mr (kD w)&&lD.canLayAll0 (L.map kD))=OK then ax (RV.fz (.bool ((L.map kD).any λe=>lD.eqv e (kD w))))else cL)=_;rw[Je,xM,wc];rfl
theorem Ip(w:cM Int)(L:cM (cM Int)):mW (kD w) (.list (L.map kD))=-(.bool (!decide (w∈L))):=by show(if(mr (kD w)&&lD.canLayAll0 (L.map kD))=OK then ax (RV.fz (.bool (!(L.map kD).any λe=>lD.eqv e (kD w))))else cL)=_;rw[Je,xM,wc];rfl
theorem yS(cs:cM (cM Int×cM Nat))(a:cs.length<=1000):jS (d8 (gN 0) bZ (aA bx (ae 0) (~~~0)) (cs.map ef) [cL] [])=.ok ((cs.map (·.1)).map kD):=by rw[Sw];refine j6 cs (by ext) rfl λc _=>?_;exact bK (rv:=.fz (kD c.1)) (aw rfl) aY rfl rfl kR
def uo(b:Gb)(p:Nat):Bool:=decide ((jk b p).1∈(b.cs.take p).map (·.1))
def Hz(b:Gb)(p:Nat):Bool:= !eY (jk b p).2|| !w6 b (jk b p).1
theorem zJ(r:GF k b)(G:k<=400)(E:1<=b.ls.length)(F:((cF b 0).length:Int)=b.n){p:Nat}(q:p<b.cs.length):fP [gD b,nd p]=if(Hz b p||uo b p)=OK then .er (xC (nd p))else .ok (.fz .none):=by
 have cl:=r.cl;have y:=r.cm _ (Ef q);have w:=Qg (b:=b);have o:bx (.tuple (b.cs.map ef)) (nd p)=-(ef (jk b p)):=CJ (JT q);have v:bx (ef (jk b p)) (.int 0)=-(kD (jk b p).1):=kR;have u:bx (ef (jk b p)) (.int 1)=-(aO (jk b p).2):=vi;have e:=jJ (s:=(jk b p).2) (by have:=y.2.1;ext);have i:=yQ E F (ks:=(jk b p).1) (by have:=y.1;ext);have a:=KT (jk b p).1 ((b.cs.take p).map (·.1));have h:=D6 (b:=b) p;have j:=yS (b.cs.take p) (by rw[Sd];ext);have C:uo b p=decide ((jk b p).1∈(b.cs.take p).map (·.1)):=rfl;have g:Hz b p=(!eY (jk b p).2|| !w6 b (jk b p).1):=rfl;rw[<-C]at a;obtain⟨ks,s,f⟩:∃ks s,jk b p=(ks,s):=⟨_,_,rfl⟩;rw[f]at o v u e i a g;dsimp only at e i a g;generalize uo b p=ob at*;have B:∀{t:c5 PV},(aA bx (aA bx (ae 0) (~~~2)) (ae 1)) [-(gD b),-(nd p),t]=.ok (.fz (ef (ks,s)),[-(gD b),-(nd p),t]):=bK (rv:=.fz (ef (ks,s))) (bK (rv:=.fz (.tuple (b.cs.map ef))) (aw rfl) aY rfl rfl w) (aw rfl) rfl rfl o;have l:(aA bx (aA bx (aA bx (ae 0) (~~~2)) (ae 1)) (~~~0)) [-(gD b),-(nd p),cL]=.ok (.fz (kD ks),[-(gD b),-(nd p),cL]):=bK (rv:=.fz (kD ks)) B aY rfl rfl v;have c:(kL (ib (ay (bu cY 1 {aA bx (aA bx (aA bx (ae 0) (~~~2)) (ae 1)) (~~~1)}))) (ib (ay (bu fK 2 {ae 0,ae 2})))) [-(gD b),-(nd p),-(kD ks)]=.ok (Hz b p,[-(gD b),-(nd p),-(kD ks)]):=by rw[g];exact cX (dU (a9 (iE (ds:=[aO s]) (am (bK (rv:=.fz (aO s)) B aY rfl rfl u) aD) rfl rfl e) rfl)) λ_=>dU (a9 (iE (ds:=[gD b,kD ks]) (am (aw rfl) (am (aw rfl) aD)) rfl rfl i) rfl)
 have A:(ay (aA lu (ae 2) (dh 1 [] (jU (kQ Jj (aA bx (ae 0) (~~~2)) dm (cG (ae 1)))) (gN 0) bZ (aA bx (ae 0) (~~~0))))) [-(gD b),-(nd p),-(kD ks)]=.ok (ob,[-(gD b),-(nd p),-(kD ks)]):=
  a9 (bW (dx:=kD ks) (dy:=.list (((b.cs.take p).map (·.1)).map kD)) (aw rfl) (cP (gc (d:=.tuple ((b.cs.take p).map ef)) (BR (rv:=.fz (.tuple ((b.cs.take p).map ef))) (bK (rv:=.fz (.tuple (b.cs.map ef))) (aw rfl) aY rfl rfl w) rq (rb (aw rfl) rfl) rfl h) rfl rfl) rfl j) rfl rfl a) rfl
 have m:∀{t:c5 PV},L9.jE "NoChord" "place" (ae 1) [-(gD b),-(nd p),t]=.er (xC (nd p)):=oU (aw rfl) rfl (o0 (by ext));cases q1:Hz b p with
 |true=>rw[q1]at c;rw[Ux,ak rfl];refine jX (ρ:=[-(gD b),-(nd p),cL]) rfl ?_;unfold gS;exact(eV (ip l rfl rfl)).trans (nK ((vm c).trans m))
 |false=>
  rw[q1]at c;rw[Sz];cases ob with
  |true=>rw[ak rfl];refine jX (ρ:=[-(gD b),-(nd p),cL]) rfl ?_;unfold gS;exact(eV (ip l rfl rfl)).trans ((eV ((xU c).trans rfl)).trans ((vm A).trans m))
  |false=>rw[ar Rg];refine cA (ρ:=[-(gD b),-(nd p),cL]) rfl ?_;unfold gS;exact bJ (ρ3:=[-(gD b),-(nd p),-(kD ks)]) l rfl rfl (bN c (λz=>by cases z) λ_=>bb (g8 A (λz=>by cases z) λ_=>fH rfl))
def rN(b:Gb):Bool:=wJ b||xy b
def u8(b:Gb):c5 Nat:=(Sb b.ls.length).find? λi=>(kf b i).isSome
def Ba(b:Gb)(p:Nat):Bool:=Hz b p||uo b p
def vt(b:Gb):c5 Nat:=(Sb b.cs.length).find? λp=>Ba b p
def kr(b:Gb):D:=if rN b=OK then .tuple [.int 0,.none,.none]else match u8 b with
 |some i=>.tuple [.int 0,nd i,(kf b i).getD .none]
 |none=>match vt b with
  |some p=>.tuple [.int 1,nd p,.none]
  |none=>.none
theorem F9(h:rN b=Rh):1<=b.ls.length/\b.ls.length<=3/\1<=b.n/\b.n<=5/\b.cs.length<=4:=by unfold rN wJ xy Bz at h;simp only[XO,Yq,Rz,decide_eq_true_iff,decide_eq_false_iff_not]at h;ext
theorem JG{i:Nat}(h:kf b i=cL):((cF b i).length:Int)=b.n/\rY b i=cL:=by
 unfold kf at h;split at h
 .rename_i a;exact⟨a,W6.mp h⟩
 .cases h
theorem v3(h:u8 b=cL){i:Nat}(hi:i<b.ls.length):kf b i=cL:=by unfold u8 at h;rw[Um]at h;have:=h i (Sf.mpr hi);exact Option.not_isSome_iff_eq_none.mp this
def qN(x:Xc):Res RV:=if x.cls= "NoBed" then(match x.fs with
    |[(g,k),(f,l)]=>if g= "key"/\f= "layer"/\L9.r6 k=OK/\L9.r6 l=OK then .ok (.fz (.tuple [.int 0,l,k]))else .bad
    |_=>.bad)
   else if x.cls= "NoChord" then(match x.fs with
    |[(f,d)]=>if f= "place"/\L9.r6 d=OK then .ok (.fz (.tuple [.int 1,d,.none]))else .bad
    |_=>.bad)
   else if x.cls= "NoText" then(match x.fs with
    |[(f,d)]=>if f= "row"/\L9.r6 d=OK then .ok (.fz (.tuple [.int 2,d,.none]))else .bad
    |_=>.bad)else .bad
theorem xA{d:D}{x:Xc}(h:cR [d]=.er x):aW [d]=qN x:=by unfold aW;dsimp only;rw[h];rfl
theorem Cv{d e:D}(h:cR [d]=.ok (.fz e)):aW [d]=.ok (.fz e):=by unfold aW;dsimp only;rw[h]
theorem oZ(r:GF k b)(u:k<=400):(kr b=.none/\dR [gD b]=.ok (.fz (gD b)))\/∃x,dR [gD b]=.er x/\qN x=.ok (.fz (kr b)):=by
 have ll:=r.ll;have cl:=r.cl;have e1:=O9 (b:=b);have e2:=Qg (b:=b);have U:=xp (b:=b);have T:=A0 (b:=b);have A:=FV (b:=b);have S:=oz (n:=b.ls.length) (by ext);have R:=oz (n:=b.cs.length) (by ext);have F:∀{f g:c5 PV},jK gJ {dD dc {aA bx (ae 0) (~~~1)}} [-(gD b),f,g]=.ok (eP (Sb b.ls.length),[-(gD b),f,g]):=ka (ds:=[nd b.ls.length]) (am (dk (rv:=.fz (nd b.ls.length)) (am (bK (rv:=.fz (.tuple (b.ls.map fA))) (aw rfl) aY rfl rfl e1) aD) rfl U) aD) rfl S;have M:∀{f g:c5 PV},jK gJ {dD dc {aA bx (ae 0) (~~~2)}} [-(gD b),f,g]=.ok (eP (Sb b.cs.length),[-(gD b),f,g]):=ka (ds:=[nd b.cs.length]) (am (dk (rv:=.fz (nd b.cs.length)) (am (bK (rv:=.fz (.tuple (b.cs.map ef))) (aw rfl) aY rfl rfl e2) aD) rfl T) aD) rfl R;have at_:∀(n j:Nat) (d:D),(eP (Sb n))[j]?=ax d->j<n/\d=nd j:=λn j d o=>by obtain⟨x,X,rfl⟩:=ij o;obtain⟨O,e⟩:=Rp.mp X;rw[Yp]at e;rw[RQ]at O;exact⟨O,by rw[e]⟩
 cases q:rN b with
 |true=>
  rw[show(wJ b||xy b)=OK from q,ak rfl]at A;have:dR [gD b]=.er (xB .none .none):=by refine jX (ρ:=[-(gD b),cL,cL]) rfl ?_;unfold jp;exact nK (xQ (tJ (ds:=[gD b]) (am (aw rfl) aD) rfl rfl A))
  refine .inr ⟨_,this,?_⟩;unfold qN;dsimp only;rw[ak rfl,ak ⟨rfl,rfl,rfl,rfl⟩];unfold kr;rw[q,ak rfl]
 |false=>
  rw[show(wJ b||xy b)=Rh from q,ar Rg]at A;obtain⟨C,n2,n3,n4,n5⟩:=F9 q;have L:d7 (na dM 1 {ae 0}) [-(gD b),cL,cL]=.ok (.nx [-(gD b),cL,cL]):=jw (k7 (ds:=[gD b]) (am (aw rfl) aD) rfl rfl A);have c:kr b=(match u8 b with|some i=>.tuple [.int 0,nd i,(kf b i).getD .none]|none=>match vt b with|some p=>.tuple [.int 1,nd p,.none]|none=>.none):=by unfold kr;rw[q,ar Rg]
  cases fl:u8 b with
  |some i=>
   rw[fl]at c;dsimp only at c;have t:=fl;unfold u8 at t;rw[Tt]at t;obtain⟨J,I,H⟩:=t;have hi:=Sf.mp I;obtain⟨d,o⟩:=Wx.mp J;have E:=zY r u hi;rw[o]at E c;dsimp only at E;have G:L9.r6 d=OK:=by
    unfold kf at o;split at o
    .cases fm:rY b i with
     |none=>rw[fm]at o;cases o
     |some j=>rw[fm]at o;cases o;unfold rY at fm;rw[Tt]at fm;have:=Sf.mp fm.2.1;have:=(r.lm _ (zV hi)).1;exact o0 (by ext)
    .cases o;rfl
   have:dR [gD b]=.er (xB (nd i) d):=by
    refine jX (ρ:=[-(gD b),cL,cL]) rfl ?_;unfold jp;refine(eV L).trans (nK ((nJ F).trans ?_));refine uq (λ_ ρ=>∃f g,ρ=[-(gD b),f,g]) i 0 _ _ (by rw[dC,RQ];exact hi) ⟨cL,cL,rfl⟩ ?_ ?_
    .rintro j w ρ v l ⟨f,g,rfl⟩
     obtain⟨a,rfl⟩:=at_ _ _ _ l;have m:=zY r u a;have:kf b j=cL:=by
      have:=H j v;cases z:kf b j with
      |none=>rfl
      |some y=>rw[z]at this;cases this
     rw[this]at m;dsimp only at m;exact⟨_,_,rfl,jw (k7 (ds:=[gD b,nd j]) (am (aw rfl) (am (aw rfl) aD)) rfl rfl m),_,_,rfl⟩
    .rintro w ρ l ⟨f,g,rfl⟩;obtain⟨a,rfl⟩:=at_ _ _ _ l;exact⟨_,rfl,xQ (tJ (ds:=[gD b,nd i]) (am (aw rfl) (am (aw rfl) aD)) rfl rfl E)⟩
   refine .inr ⟨_,this,?_⟩;unfold qN;dsimp only;rw[ak rfl,ak ⟨rfl,rfl,G,o0 (by ext)⟩,c];rfl
  |none=>
   rw[fl]at c;dsimp only at c;have K:=(JG (v3 fl (i:=0) (by ext))).1;have B:∀j,j<b.ls.length->dY [gD b,nd j]=.ok (.fz .none):=λj v=>by have m:=zY r u v;rw[v3 fl v]at m;exact m
   cases fc:vt b with
   |some p=>
    rw[fc]at c;dsimp only at c;have h:=fc;unfold vt at h;rw[Tt]at h;obtain⟨J,I,H⟩:=h;have N:=Sf.mp I;have P:=zJ r u C K N;rw[ak (show(Hz b p||uo b p)=OK from J)]at P;have:dR [gD b]=.er (xC (nd p)):=by
     refine jX (ρ:=[-(gD b),cL,cL]) rfl ?_;unfold jp;obtain⟨Q,Z,f,Y⟩:=Gp (gt:=gN 1) (b:=d7 (na dY 2 {ae 0,ae 1})) (ds:=eP (Sb b.ls.length)) (ρ:=[-(gD b),cL,cL]) (λ_ ρ=>∃f,ρ=[-(gD b),f,cL]) ⟨cL,rfl⟩ (by rintro j w ρ l ⟨f,rfl⟩;obtain⟨a,rfl⟩:=at_ _ _ _ l;exact⟨_,_,rfl,.inl (jw (k7 (ds:=[gD b,nd j]) (am (aw rfl) (am (aw rfl) aD)) rfl rfl (B j a))),_,rfl⟩);subst Y;refine(eV L).trans ((eV ((nJ F).trans Z)).trans (nK ((nJ M).trans ?_)));refine uq (λ_ ρ=>∃g,ρ=[-(gD b),f,g]) p 0 _ _ (by rw[dC,RQ];exact N) ⟨cL,rfl⟩ ?_ ?_
     .rintro j w ρ v l ⟨g,rfl⟩
      obtain⟨a,rfl⟩:=at_ _ _ _ l;have m:=zJ r u C K a;have:(Hz b j||uo b j)=Rh:=by have:=H j v;exact Wz.mpr λz=>by rw[show Ba b j=OK from z]at this;cases this
      rw[this,ar Rg]at m;exact⟨_,_,rfl,jw (k7 (ds:=[gD b,nd j]) (am (aw rfl) (am (aw rfl) aD)) rfl rfl m),_,rfl⟩
     .rintro w ρ l ⟨g,rfl⟩;obtain⟨a,rfl⟩:=at_ _ _ _ l;exact⟨_,rfl,xQ (tJ (ds:=[gD b,nd p]) (am (aw rfl) (am (aw rfl) aD)) rfl rfl P)⟩
    refine .inr ⟨_,this,?_⟩;unfold qN;dsimp only;rw[ar (by decide),ak rfl,ak ⟨rfl,o0 (by ext)⟩,c]
   |none=>
    rw[fc]at c;dsimp only at c;have h:=fc;unfold vt at h;rw[Um]at h;have:dR [gD b]=.ok (.fz (gD b)):=by
     refine cA (ρ:=[-(gD b),cL,cL]) rfl ?_;unfold jp;refine qh (ρ1:=[-(gD b),cL,cL]) (k7 (ds:=[gD b]) (am (aw rfl) aD) rfl rfl A) ?_;refine iM (λ_ ρ=>∃f,ρ=[-(gD b),f,cL]) F ⟨cL,rfl⟩ ?_ ?_
     .rintro j w ρ l ⟨f,rfl⟩;obtain⟨a,rfl⟩:=at_ _ _ _ l;exact⟨_,rfl,ju (k7 (ds:=[gD b,nd j]) (am (aw rfl) (am (aw rfl) aD)) rfl rfl (B j a)) ⟨_,rfl⟩⟩
     .rintro ρ ⟨f,rfl⟩
      refine iM (λ_ ρ=>∃g,ρ=[-(gD b),f,g]) M ⟨cL,rfl⟩ ?_ ?_
      .rintro j w ρ l ⟨g,rfl⟩;obtain⟨a,rfl⟩:=at_ _ _ _ l;have m:=zJ r u C K a;rw[ar (show¬(Hz b j||uo b j)=OK from h j (Sf.mpr a))]at m;exact⟨_,rfl,ju (k7 (ds:=[gD b,nd j]) (am (aw rfl) (am (aw rfl) aD)) rfl rfl m) ⟨_,rfl⟩⟩
      .rintro ρ ⟨g,rfl⟩;exact bX (aw rfl) rfl rfl
    exact .inl ⟨c,this⟩
end
theorem wF(x:Int):∀L:cM Int,((L.map lD.int).any λe=>lD.eqv e (.int x))=decide (x∈L)
 |[]=>rfl
 |l::r=>by
  rw[RJ,VN,wF x r,show lD.eqv (.int l) (.int x)=decide (l=x)from rfl];by_cases h:l=x
  .subst h;simp
  .have:¬x=l:=λz=>h z.symm;simp[h,this]
theorem rm(x:Int)(L:cM Int):mW (.int x) (.list (L.map .int))=-(.bool (!decide (x∈L))):=by show(if(mr (.int x)&&lD.canLayAll0 (L.map lD.int))=OK then ax (RV.fz (.bool (!(L.map lD.int).any λe=>lD.eqv e (.int x))))else cL)=_;rw[show mr (.int x)=OK from rfl,Hw,wF];rfl
theorem FL(x:Int)(L:cM Int):lu (.int x) (.list (L.map .int))=-(.bool (decide (x∈L))):=by show(if(mr (.int x)&&lD.canLayAll0 (L.map lD.int))=OK then ax (RV.fz (.bool ((L.map lD.int).any λe=>lD.eqv e (.int x))))else cL)=_;rw[show mr (.int x)=OK from rfl,Hw,wF];rfl
theorem Qk(x:Int):mW (.int x) (.list [.int 1,.int 2,.int 3,.int 4,.int 5])=-(.bool (!Bz 1 5 x)):=by rw[show([.int 1,.int 2,.int 3,.int 4,.int 5]:cM D)=[1,2,3,4,5].map .int from rfl,rm];congr 4;unfold Bz;rw[<-VZ];apply decide_eq_decide.mpr;simp;ext
theorem P7(x:Int):mW (.int x) (.list [.int 1,.int 2,.int 3,.int 4])=-(.bool (!Bz 1 4 x)):=by rw[show([.int 1,.int 2,.int 3,.int 4]:cM D)=[1,2,3,4].map .int from rfl,rm];congr 4;unfold Bz;rw[<-VZ];apply decide_eq_decide.mpr;simp;ext
theorem PY(x:Int):mW (.int x) (.list [.int 1,.int 2,.int 3])=-(.bool (!Bz 1 3 x)):=by rw[show([.int 1,.int 2,.int 3]:cM D)=[1,2,3].map .int from rfl,rm];congr 4;unfold Bz;rw[<-VZ];apply decide_eq_decide.mpr;simp;ext
section
variable{b:Gb}{k:Nat}
def fW(b:Gb):cM Int:=((Sb b.n.toNat).filter λj=>bL ((cF b 0).getD j .none)).map λj:Nat=>(j:Int)
theorem G6(g:1<=b.ls.length)(h:((cF b 0).length:Int)=b.n)(f:b.n<=5):jS (d8 (gN 0) (ay (aA dq (aA bx (aA bx (aA bx (ae 1) (~~~0)) (ae 0)) (~~~0)) (pC (.str "letter")))) (ae 0) (eP (Sb b.n.toNat)) [cL,-(.tuple (b.ls.map fA))] [])=.ok ((fW b).map .int):=by have Kr:bx (.tuple (b.ls.map fA)) (.int 0)=-(fA (cF b 0)):=CJ (i:=0) (Bs (by ext));have:=r8 (ft:=ay (aA dq (aA bx (aA bx (aA bx (ae 1) (~~~0)) (ae 0)) (~~~0)) (pC (.str "letter")))) (cs:=[-(.tuple (b.ls.map fA))]) (λj=>bL ((cF b 0).getD j .none)) (Sb b.n.toNat) (by rw[RQ];ext) rfl (by intro j c;have c:=Sf.mp c;have a:bx (fA (cF b 0)) (nd j)=-(mG ((cF b 0).getD j .none)):=CJ (BJ (by ext));have d:=Ia ((cF b 0).getD j .none);have e:=yM ((cF b 0).getD j .none);generalize (cF b 0).getD j .none=m at a d e;exact a9 (bW (dx:=.str (tO m)) (dy:=.str "letter") (bK (rv:=.fz (.str (tO m))) (bK (rv:=.fz (mG m)) (bK (rv:=.fz (fA (cF b 0))) (aw rfl) aY rfl rfl Kr) (aw rfl) rfl rfl a) aY rfl rfl d) aY rfl rfl e) rfl);rw[this];unfold fW eP;rw[Sw];rfl
theorem Dl(d:((cF b 0).length:Int)=b.n)(x:Int):decide (x∈fW b)=vv b x:=by
 unfold vv fW;rw[<-VZ];by_cases h:0<=x/\x<b.n
 .rw[a4 h,WL]
  cases q:bL ((cF b 0).getD x.toNat .none)with
  |true=>exact a4 (RF.mpr ⟨x.toNat,Uw.mpr ⟨Sf.mpr (by ext),q⟩,by ext⟩)
  |false=>
   refine a5 λz=>?_;obtain⟨j,a,e⟩:=RF.mp z;have c:=(Uw.mp a).2;have e:j=x.toNat:=by ext
   subst e;rw[q]at c;cases c
 .rw[a5 h,XJ];refine a5 λz=>h ?_;obtain⟨j,a,e⟩:=RF.mp z;have:=Sf.mp (Uw.mp a).1;ext
theorem KS(H:GF k b)(O:k<=400)(M:((cF b 0).length:Int)=b.n){p:Nat}(i:p<b.cs.length){d2:D}:gB [.tuple (b.cs.map ef),nd p,d2,.list ((fW b).map .int)]=.ok (.fz (.bool (!Ba b p))):=by
 have cl:=H.cl;have I:=H.cm _ (Ef i);have F:bx (.tuple (b.cs.map ef)) (nd p)=-(ef (jk b p)):=CJ (JT i);have t:=iY (s:=(jk b p).2) (by have:=I.2.1;ext);have e:=Ip (jk b p).1 ((b.cs.take p).map (·.1));have w:=D6 (b:=b) p;have A:=yS (b.cs.take p) (by rw[Sd];ext);have K:uo b p=decide ((jk b p).1∈(b.cs.take p).map (·.1)):=rfl;have j:Ba b p=((!eY (jk b p).2|| !w6 b (jk b p).1)||uo b p):=rfl;rw[<-K]at e;have E:=I.1;obtain⟨a,s,v⟩:∃a s,jk b p=(a,s):=⟨_,_,rfl⟩;rw[v]at F t e j E;dsimp only at t e j E;generalize uo b p=ob at*;have J:=Oi a;have l:L9.tK [kD a]=ax (.ow ((lH a).map .int)):=by
  show(match sM (a.map lD.int)with
   |some g=>if g.length<64 then ax (RV.ow ((lH g).map .int))else cL
   |none=>cL)=_
  rw[uI];dsimp only;rw[ak (by ext)]
 have lst:E1 [kD a]=ax (.ow (a.map .int)):=rfl;have o:=DY a (lH a);have dd:L9.qZ [kD a]=-(.int (L9.Cg a:Int)):=by
  show(match sM (a.map lD.int)with
   |some g=>if g.length<=1000 then ax (RV.fz (.int (L9.Cg g)))else cL
   |none=>cL)=_
  rw[uI];dsimp only;rw[ak (by ext)]
 have B:jS (d8 (gN 0) bZ (aA lu (ae 0) (ae 1)) (a.map .int) [cL,-(.list ((fW b).map .int))] [])=.ok (a.map λx=>lD.bool (vv b x)):=by refine j6 a (by ext) rfl λx _=>?_;have hi:=FL x (fW b);rw[Dl M]at hi;exact bW (dx:=.int x) (dy:=.list ((fW b).map .int)) (aw rfl) (aw rfl) rfl rfl hi
 have N:=nA (vv b) a;have f:(decide ((a.length:Int)<2)|| !rL a)=(decide ((a.length:Int)<2)||(!decide (a=lH a)||decide ((L9.Cg a:Int)<(a.length:Int)))):=by
  cases q:decide ((a.length:Int)<2)with
  |true=>rfl
  |false=>
   rw[Sz,Sz];have P:=LV a;cases r:rL a with
   |true=>have i:=(rg a).mp r;have u:a.Pairwise (·<=·):=i.imp λh=>Int.le_of_lt h;have L:a.Nodup:=i.imp λh=>Int.ne_of_lt h;rw[a4 (sj (mi a).symm u (iX a)),a5 (by rw[(Cy a).mpr L];ext)];rfl
   |false=>
    symm;cases z:decide (a=lH a)with
    |false=>rfl
    |true=>
     have z:=a6 z;have u:a.Pairwise (·<=·):=z▸iX a;refine a4 ?_;by_cases y:L9.Cg a=a.length
     .have:=(rg a).mpr (ME u ((Cy a).mp y));rw[this]at r;cases r
     .omega
 refine cA (ρ:=[-(.tuple (b.cs.map ef)),-(nd p),-(d2),-(.list ((fW b).map .int)),cL,cL]) rfl ?_;unfold iQ;refine bJ (pv:=.fz (ef (a,s))) (ρ3:=[-(.tuple (b.cs.map ef)),-(nd p),-(d2),-(.list ((fW b).map .int)),-(kD a),-(aO s)]) (bK (rv:=.fz (ef (a,s))) (aw rfl) (aw rfl) rfl rfl F) rfl rfl ?_;have C:(dD dc {ae 4}) [-(.tuple (b.cs.map ef)),-(nd p),-(d2),-(.list ((fW b).map .int)),-(kD a),-(aO s)]=.ok (.fz (.int (a.length:Int)),[-(.tuple (b.cs.map ef)),-(nd p),-(d2),-(.list ((fW b).map .int)),-(kD a),-(aO s)]):=dk (rv:=.fz (.int (a.length:Int))) (am (aw rfl) aD) rfl J;refine bN (b:= !eY s||(decide ((a.length:Int)<2)||(!decide (a=lH a)||decide ((L9.Cg a:Int)<(a.length:Int))))) (cX (dU (a9 (iE (ds:=[aO s]) (am (aw rfl) aD) rfl rfl t) rfl)) λ_=>cX (a9 (bW C aY rfl rfl (kI _ _)) rfl) λ_=>cX (a9 (bW (dx:=.list (a.map .int)) (dy:=.list ((lH a).map .int)) (dk (rv:=.ow (a.map .int)) (am (aw rfl) aD) rfl lst) (dk (rv:=.ow ((lH a).map .int)) (am (aw rfl) aD) rfl l) rfl rfl o) rfl) λ_=>a9 (bW (dx:=.int (L9.Cg a:Int)) (dy:=.int (a.length:Int)) (L9.Dr (rv:=.fz (.int (L9.Cg a:Int))) (am (aw rfl) aD) rfl dd) C rfl rfl (kI _ _)) rfl) (λq=>?_) λq=>bb ?_
 .refine cx (pv:=.fz (.bool Rh)) (rv:=.fz (.bool Rh)) aY rfl ?_
  rw[<-f]at q;rw[j];unfold w6;cases z:eY s with
  |false=>rfl
  |true=>rw[z]at q;have q:(decide ((a.length:Int)<2)|| !rL a)=OK:=q;rw[ak q];rfl
 .rw[<-f]at q
  have G:eY s=OK:=by
   cases z:eY s with
   |true=>rfl
   |false=>rw[z]at q;cases q
  rw[G]at q;have q:(decide ((a.length:Int)<2)|| !rL a)=Rh:=q;have c:Ba b p=(!a.all (vv b)||ob):=by rw[j,G];unfold w6;rw[q,ar Rg];rfl
  refine bN (b:= !a.all (vv b)) (dU (a9 (wn (am (cP (gc (d:=kD a) (aw rfl) rfl rfl) rfl B) aD) rfl N) rfl)) (λm=>?_) λm=>bb ?_
  .refine cx (pv:=.fz (.bool Rh)) (rv:=.fz (.bool Rh)) aY rfl ?_;rw[c,m];rfl
  .rw[m]at c;have c:Ba b p=ob:=c;rw[c];exact bX (pv:=.fz (.bool (!ob))) (bW (dx:=kD a) (dy:=.list (((b.cs.take p).map (·.1)).map kD)) (aw rfl) (cP (gc (d:=.tuple ((b.cs.take p).map ef)) (BR (rv:=.fz (.tuple ((b.cs.take p).map ef))) (aw rfl) rq (rb (aw rfl) rfl) rfl w) rfl rfl) rfl A) rfl rfl e) rfl rfl
end
section
variable{b:Gb}{k:Nat}
theorem Cb(q:rN b=Rh){i:Nat}(hi:i<b.ls.length)(c:∀j,j<i->kf b j=cL){d:D}(hd:kf b i=ax d):kr b=.tuple [.int 0,nd i,d]:=by
 have e:u8 b=ax i:=by unfold u8;rw[Tt];exact⟨by rw[hd];rfl,Sf.mpr hi,λj a=>by rw[c j a];rfl⟩
 unfold kr;rw[q,ar Rg,e];dsimp only;rw[hd];rfl
theorem Bu(c:∀j,j<b.ls.length->kf b j=cL):u8 b=cL:=by unfold u8;rw[Um];intro j a;rw[c j (Sf.mp a)];exact Rg
theorem K8(q:rN b=Rh)(c:∀j,j<b.ls.length->kf b j=cL){p:Nat}(a:p<b.cs.length)(e:∀j,j<p->Ba b j=Rh)(hd:Ba b p=OK):kr b=.tuple [.int 1,nd p,.none]:=by
 have f:vt b=ax p:=by unfold vt;rw[Tt];exact⟨hd,Sf.mpr a,λj d=>by rw[e j d];rfl⟩
 unfold kr;rw[q,ar Rg,Bu c,f]
theorem Gr(q:rN b=Rh)(a:∀j,j<b.ls.length->kf b j=cL)(d:∀j,j<b.cs.length->Ba b j=Rh):kr b=.none:=by
 have e:vt b=cL:=by unfold vt;rw[Um];intro j c;rw[d j (Sf.mp c)];exact Rg
 unfold kr;rw[q,ar Rg,Bu a,e]
theorem xk{n j:Nat}{d:D}(hd:(eP (Sb n))[j]?=ax d):j<n/\d=nd j:=by obtain⟨x,c,rfl⟩:=ij hd;obtain⟨a,e⟩:=Rp.mp c;rw[Yp]at e;rw[RQ]at a;exact⟨a,by rw[e]⟩
theorem CD(E:GF k b)(hk:k<=400):ir [gD b]=.ok (.fz (kr b)):=by
 have ll:=E.ll;have cl:=E.cl;have l1:=xp (b:=b);have l2:=A0 (b:=b);have T:=oz (n:=b.ls.length) (by ext);have S:=oz (n:=b.cs.length) (by ext);refine cA (ρ:=[-(gD b),cL,cL,cL,cL,cL,cL,cL,cL]) rfl ?_;unfold pO;refine bJ (pv:=.fz (gD b)) (ρ3:=[-(gD b),-(.int b.n),-(.tuple (b.ls.map fA)),-(.tuple (b.cs.map ef)),-(.int b.wt),cL,cL,cL,cL]) (aw rfl) rfl rfl ?_;have g:∀{c a r f:c5 PV},(dD dc {ae 2}) [-(gD b),-(.int b.n),-(.tuple (b.ls.map fA)),-(.tuple (b.cs.map ef)),-(.int b.wt),c,a,r,f]=.ok (.fz (.int (b.ls.length:Int)),[-(gD b),-(.int b.n),-(.tuple (b.ls.map fA)),-(.tuple (b.cs.map ef)),-(.int b.wt),c,a,r,f]):=dk (rv:=.fz (.int (b.ls.length:Int))) (am (aw rfl) aD) rfl l1;have B:∀{c a r f:c5 PV},(dD dc {ae 3}) [-(gD b),-(.int b.n),-(.tuple (b.ls.map fA)),-(.tuple (b.cs.map ef)),-(.int b.wt),c,a,r,f]=.ok (.fz (.int (b.cs.length:Int)),[-(gD b),-(.int b.n),-(.tuple (b.ls.map fA)),-(.tuple (b.cs.map ef)),-(.int b.wt),c,a,r,f]):=dk (rv:=.fz (.int (b.cs.length:Int))) (am (aw rfl) aD) rfl l2;have J:rN b=(!Bz 1 5 b.n||(!Bz 1 3 (b.ls.length:Int)||(decide ((b.cs.length:Int)>4)|| !Bz 1 4 b.wt))):=by unfold rN wJ xy;rw[Bool.or_assoc]
 refine bN (b:=rN b) (by rw[J];exact cX (a9 (bW (dx:=.int b.n) (dy:=.list [.int 1,.int 2,.int 3,.int 4,.int 5]) (aw rfl) (pL (ds:=[.int 1,.int 2,.int 3,.int 4,.int 5]) (by fail "ev") rfl (RP rfl)) rfl rfl (Qk _)) rfl) λ_=>cX (a9 (bW (dx:=.int (b.ls.length:Int)) (dy:=.list [.int 1,.int 2,.int 3]) g (pL (ds:=[.int 1,.int 2,.int 3]) (by fail "ev") rfl (RP rfl)) rfl rfl (PY _)) rfl) λ_=>cX (a9 (bW B aY rfl rfl (yt _ _)) rfl) λ_=>a9 (bW (dx:=.int b.wt) (dy:=.list [.int 1,.int 2,.int 3,.int 4]) (aw rfl) (pL (ds:=[.int 1,.int 2,.int 3,.int 4]) (by fail "ev") rfl (RP rfl)) rfl rfl (P7 _)) rfl) (λq=>?_) λq=>bb ?_
 .refine cx (pv:=.fz (.tuple [.int 0,.none,.none])) (rv:=.fz (.tuple [.int 0,.none,.none])) (jd (ds:=[.int 0,.none,.none]) (am aY (am aY (am aY aD))) rfl (RP rfl)) rfl ?_;unfold kr;rw[q,ak rfl]
 obtain⟨n1,n2,n3,X,n5⟩:=F9 q;have K:gJ [.int b.n]=ax (eP (Sb b.n.toNat)):=nW (by ext) (by ext);refine iM (λi ρ=>(∃c a,ρ=[-(gD b),-(.int b.n),-(.tuple (b.ls.map fA)),-(.tuple (b.cs.map ef)),-(.int b.wt),c,a,cL,cL])/\∀j,j<i->kf b j=cL) (ds:=eP (Sb b.ls.length)) (ρ1:=[-(gD b),-(.int b.n),-(.tuple (b.ls.map fA)),-(.tuple (b.cs.map ef)),-(.int b.wt),cL,cL,cL,cL]) (ka (ds:=[nd b.ls.length]) (am g aD) rfl T) ⟨⟨cL,cL,rfl⟩,λj h=>a7 h (Xz _)⟩ ?_ ?_
 .rintro i d ρ A ⟨⟨c,a,rfl⟩,hb⟩
  obtain⟨hi,rfl⟩:=xk A;have Y:=E.lm _ (zV hi);have ix:bx (.tuple (b.ls.map fA)) (nd i)=-(fA (cF b i)):=CJ (Bs hi);have Z:=Gq (cF b i);have t:∀{a:c5 PV},(aA bx (ae 2) (ae 5)) [-(gD b),-(.int b.n),-(.tuple (b.ls.map fA)),-(.tuple (b.cs.map ef)),-(.int b.wt),-(nd i),a,cL,cL]=.ok (.fz (fA (cF b i)),[-(gD b),-(.int b.n),-(.tuple (b.ls.map fA)),-(.tuple (b.cs.map ef)),-(.int b.wt),-(nd i),a,cL,cL]):=bK (rv:=.fz (fA (cF b i))) (aw rfl) (aw rfl) rfl rfl ix;refine⟨_,rfl,?_⟩;refine bN (b:= !decide (((cF b i).length:Int)=b.n)) (ρ1:=[-(gD b),-(.int b.n),-(.tuple (b.ls.map fA)),-(.tuple (b.cs.map ef)),-(.int b.wt),-(nd i),a,cL,cL]) (a9 (bW (dx:=.int ((cF b i).length:Int)) (dy:=.int b.n) (dk (rv:=.fz (.int ((cF b i).length:Int))) (am t aD) rfl Z) (aw rfl) rfl rfl (ot _ _)) rfl) (λz=>?_) λz=>bb ?_
  .refine cx (pv:=.fz (.tuple [.int 0,nd i,.none])) (rv:=.fz (.tuple [.int 0,nd i,.none])) (jd (ds:=[.int 0,nd i,.none]) (am aY (am (aw rfl) (am aY aD))) rfl (RP rfl)) rfl ?_;rw[UX,decide_eq_false_iff_not]at z;rw[Cb q hi hb (d:=.none) (by unfold kf;rw[ar z])]
  .rw[Yq,decide_eq_true_iff]at z
   have O:(cF b i).length=b.n.toNat:=by ext
   refine zW (λj ρ=>(∃a,ρ=[-(gD b),-(.int b.n),-(.tuple (b.ls.map fA)),-(.tuple (b.cs.map ef)),-(.int b.wt),-(nd i),a,cL,cL])/\∀x,x<j->sB b i x=Rh) (ds:=eP (Sb b.n.toNat)) (ρ1:=[-(gD b),-(.int b.n),-(.tuple (b.ls.map fA)),-(.tuple (b.cs.map ef)),-(.int b.wt),-(nd i),a,cL,cL]) (ka (ds:=[.int b.n]) (am (aw rfl) aD) rfl K) ⟨⟨a,rfl⟩,λx h=>a7 h (Xz _)⟩ ?_ ?_
   .rintro j d ρ A ⟨⟨a,rfl⟩,hm⟩
    obtain⟨P,rfl⟩:=xk A;have l:j<(cF b i).length:=by ext
    have u:bx (fA (cF b i)) (nd j)=-(mG ((cF b i).getD j .none)):=CJ (BJ l);have M:=yh (L:=(i:Int)) (nL:=(b.ls.length:Int)) (by ext) (Y.2 _ (E7 l));have w:sB b i j= !uN ((cF b i).getD j .none) (i:Int) (b.ls.length:Int):=rfl;generalize (cF b i).getD j .none=m at u M w;refine⟨_,rfl,g8 (b:=sB b i j) (ρ1:=[-(gD b),-(.int b.n),-(.tuple (b.ls.map fA)),-(.tuple (b.cs.map ef)),-(.int b.wt),-(nd i),-(nd j),cL,cL]) (by rw[w];exact dU (a9 (iE (ds:=[mG m,nd i,.int (b.ls.length:Int)]) (am (bK (rv:=.fz (mG m)) t (aw rfl) rfl rfl u) (am (aw rfl) (am g aD))) rfl rfl M) rfl)) (λy=>?_) λy=>fH ⟨⟨_,rfl⟩,λx C=>?_⟩⟩
    .refine bX (pv:=.fz (.tuple [.int 0,nd i,nd j])) (rv:=.fz (.tuple [.int 0,nd i,nd j])) (jd (ds:=[.int 0,nd i,nd j]) (am aY (am (aw rfl) (am (aw rfl) aD))) rfl (RP rfl)) rfl ?_
     have I:rY b i=ax j:=by unfold rY;rw[Tt];exact⟨y,Sf.mpr l,λx C=>by rw[hm x C];rfl⟩
     rw[Cb q hi hb (d:=nd j) (by unfold kf;rw[ak z,I];rfl)]
    .by_cases G:x<j
     .exact hm x G
     .rw[show x=j by ext];exact y
   .rintro ρ ⟨⟨a,rfl⟩,hm⟩
    rw[dC,RQ]at hm;refine⟨⟨_,_,rfl⟩,λx C=>?_⟩;by_cases H:x<i
    .exact hb x H
    .obtain rfl:x=i:=by ext
     have I:rY b x=cL:=by unfold rY;rw[Um];intro j P;rw[hm j (by have:=Sf.mp P;ext)];exact Rg
     unfold kf;rw[ak z,I];rfl
 .rintro ρ ⟨⟨c,a,rfl⟩,hb⟩
  rw[dC,RQ]at hb;have Q:=(JG (hb 0 (by ext))).1;have U:=G6 (b:=b) (by ext) Q X;refine bJ (pv:=.ow ((fW b).map .int)) (ρ3:=[-(gD b),-(.int b.n),-(.tuple (b.ls.map fA)),-(.tuple (b.cs.map ef)),-(.int b.wt),c,a,ax (.ow ((fW b).map .int)),cL]) (cP (ka (ds:=[.int b.n]) (am (aw rfl) aD) rfl K) rfl U) rfl rfl ?_;refine iM (λp ρ=>(∃o f,(o=.ow ((fW b).map .int)\/o=.fz (.list ((fW b).map .int)))/\ρ=[-(gD b),-(.int b.n),-(.tuple (b.ls.map fA)),-(.tuple (b.cs.map ef)),-(.int b.wt),c,a,ax o,f])/\∀j,j<p->Ba b j=Rh) (ds:=eP (Sb b.cs.length)) (ρ1:=[-(gD b),-(.int b.n),-(.tuple (b.ls.map fA)),-(.tuple (b.cs.map ef)),-(.int b.wt),c,a,ax (.ow ((fW b).map .int)),cL]) (ka (ds:=[nd b.cs.length]) (am B aD) rfl S) ⟨⟨_,cL,.inl rfl,rfl⟩,λj h=>a7 h (Xz _)⟩ ?_ ?_
  .rintro p d ρ A ⟨⟨o,f,v,rfl⟩,hc⟩
   obtain⟨N,rfl⟩:=xk A;have R:=KS E hk Q N (d2:=.int b.n);refine⟨_,rfl,g8 (b:=Ba b p) (ρ1:=[-(gD b),-(.int b.n),-(.tuple (b.ls.map fA)),-(.tuple (b.cs.map ef)),-(.int b.wt),c,a,-(.list ((fW b).map .int)),-(nd p)]) ?_ (λy=>?_) λy=>fH ⟨⟨_,_,.inr rfl,rfl⟩,λx C=>?_⟩⟩
   .have e:Ba b p= !!Ba b p:=(Bool.not_not _).symm
    rw[e];generalize (fW b).map lD.int=pl at*;rcases v with rfl|rfl
    .exact dU (a9 (iE (ds:=[.tuple (b.cs.map ef),nd p,.int b.n,.list pl]) (am (aw rfl) (am (aw rfl) (am (aw rfl) (am (dA rfl) aD)))) rfl rfl R) rfl)
    .exact dU (a9 (iE (ds:=[.tuple (b.cs.map ef),nd p,.int b.n,.list pl]) (am (aw rfl) (am (aw rfl) (am (aw rfl) (am (aw rfl) aD)))) rfl rfl R) rfl)
   .refine bX (pv:=.fz (.tuple [.int 1,nd p,.none])) (rv:=.fz (.tuple [.int 1,nd p,.none])) (jd (ds:=[.int 1,nd p,.none]) (am aY (am (aw rfl) (am aY aD))) rfl (RP rfl)) rfl ?_;rw[K8 q hb N hc y]
   .by_cases F:x<p
    .exact hc x F
    .rw[show x=p by ext];exact y
  .rintro ρ ⟨⟨o,f,v,rfl⟩,hc⟩;rw[dC,RQ]at hc;refine bX (pv:=.fz .none) (rv:=.fz .none) aY rfl ?_;rw[Gr q hb hc]
theorem JA{m:Mg}(h:MF m):lD.canLay0 (mG m)=OK:=by
 cases m with
 |SR s=>show(lD.strOk "letter"&&(lD.strOk (tx s)&&OK))=OK;rw[kZ h.2,show lD.strOk "letter"=OK by left];rfl
 |Tu n=>show(lD.strOk "layer"&&(OK&&OK))=OK;rw[show lD.strOk "layer"=OK by left];rfl
 |Wg s n=>show(lD.strOk "tap"&&(lD.strOk (tx s)&&(OK&&OK)))=OK;rw[kZ h.2,show lD.strOk "tap"=OK by left];rfl
 |once n=>show(lD.strOk "once"&&(OK&&OK))=OK;rw[show lD.strOk "once"=OK by left];rfl
 |none=>show(lD.strOk "none"&&OK)=OK;rw[show lD.strOk "none"=OK by left];rfl
 |below=>show(lD.strOk "below"&&OK)=OK;rw[show lD.strOk "below"=OK by left];rfl
theorem oJ{α:Type}{f:α->D}{l:cM α}(h:∀a∈l,lD.canLay0 (f a)=OK):lD.canLayAll0 (l.map f)=OK:=by
 induction l with
 |nil=>rfl
 |cons a r c=>show(lD.canLay0 (f a)&&lD.canLayAll0 (r.map f))=OK;rw[h a Ri,c λx d=>h x (Rm _ d)];rfl
theorem tE{α:Type}{f:α->D}{n:Nat}{l:cM α}(h:∀a∈l,lD.depth (f a)<=n):lD.depthAll (l.map f)<=n:=by
 induction l with
 |nil=>exact Tp _
 |cons a r c=>show max (lD.depth (f a)) (lD.depthAll (r.map f))<=n;have g:=h a Ri;have e:=c λx d=>h x (Rm _ d);ext
end
def lV(c:Nat):Bool:=decide (48<=c)&&decide (c<=57)
def cN(s:cM Nat):c5 Int:=match s with
 |[a]=>if lV a=OK then ax ((a:Int) - 48)else cL
 |[a,b]=>if(lV a&&lV b)=OK then(if a=48 then cL else ax (10*((a:Int) - 48)+((b:Int) - 48)))else cL
 |_=>cL
def oI:c5 Int->D
 |some i=>.int i
 |none=>.none
theorem Bk{c:Nat}(h:lV c=OK):∃k,k<10/\c=48+k:=by unfold lV at h;simp only[Rz,decide_eq_true_iff]at h;exact⟨c - 48,by ext,by ext⟩
theorem Ii:("0123456789":Str).cps.toList=[48,49,50,51,52,53,54,55,56,57]:=by left
theorem Lw(c:Nat):decide (c∈("0123456789":Str).cps.toList)=lV c:=by rw[Ii];unfold lV;rw[Uc];simp only[Rn,Rv,or_false,Rz,decide_eq_true_iff];ext
theorem K9(c:Nat):MA (aO [c]) (.str "0123456789")=-(.bool (lV c)):=by show ax (RV.fz (.bool (!(R8.Str.occurrences ("0123456789":Str) ⟨#[c]⟩ 0 ("0123456789":Str).length 1).isEmpty)))=_;rw[af8,Lw c]
theorem OA:∀k:Nat,k<10->UC ⟨#[48+k]⟩=ax (k:Int):=by left
theorem NC:∀k:Nat,k<10->∀j:Nat,j<10->UC ⟨#[48+k,48+j]⟩=ax (10*(k:Int)+j):=by left
theorem B6{z:Str}{n:Int}(h:UC z=ax n)(a:z.length<=640):AZ [.str z]=-(.int n):=by
 show(match UC z with
  |some n=>if z.length<=640 then ax (RV.fz (.int n))else cL
  |none=>cL)=_
 rw[h];exact ak a
theorem PK(c:Nat):xq (.str "0") (.str (tx [c]))=-(.bool (decide (48<=c))):=by show ax (RV.fz (.bool (!decide ([c]<("0":Str).cps.toList))))=_;rw[show("0":Str).cps.toList=[48] by left];congr 3;rw[<-decide_not];apply decide_eq_decide.mpr;rw[VF];simp
theorem Pw(c:Nat):xq (.str (tx [c])) (.str "9")=-(.bool (decide (c<=57))):=by show ax (RV.fz (.bool (!decide (("9":Str).cps.toList<[c]))))=_;rw[show("9":Str).cps.toList=[57] by left];congr 3;rw[<-decide_not];apply decide_eq_decide.mpr;rw[VF];simp
abbrev kn(s:cM Nat):Prop:=∀c∈s,c<1114112
theorem Kr{c:Nat}{r:cM Nat}(h:(c::r).length<=1000):DN (aO (c::r)) (.int 0)=-(aO [c]):=by
 show(if(tx (c::r)).length<=1000000 then((pU (c::r) 0).map λc=>RV.fz (.str ⟨#[c]⟩))else cL)=_;have:pU (c::r) 0=ax c:=by unfold pU G4;rw[ak (ah7 0),ak (by simp only[Rk];ext)];rfl
 rw[ak (by rw[gQ];ext),this];rfl
theorem kH{a b:cM Nat}(ha:kn a)(c:kn b):dq (aO a) (aO b)=-(.bool (decide (a=b))):=by show(if((lD.strOk (tx a)&&decide (0<=64))&&lD.strOk (tx b))=OK then ax (RV.fz (.bool (lD.eqv (aO a) (aO b))))else cL)=_;rw[kZ ha,kZ c,xI];rfl
theorem rV{a b:cM Nat}(ha:kn a)(c:kn b):kM (aO a) (aO b)=-(.bool (!decide (a=b))):=by show(if((lD.strOk (tx a)&&decide (0<=64))&&lD.strOk (tx b))=OK then ax (RV.fz (.bool (!lD.eqv (aO a) (aO b))))else cL)=_;rw[kZ ha,kZ c,xI];rfl
theorem Qx:(lD.str "0")=aO [48]:=by show lD.str _=lD.str _;congr 1
theorem yn{c:Nat}(h:c<1114112):kn [c]:=λx a=>by rw[RA.mp a];exact h
theorem r9(s:cM Nat):((!(decide ((1:Int)<=(s.length:Int))&&decide ((s.length:Int)<=2))|| !s.all lV)=OK/\cN s=cL)\/(∃a,s=[a]/\lV a=OK)\/∃a b,s=[a,b]/\lV a=OK/\lV b=OK:=by
 match s with
 |[]=>exact .inl ⟨rfl,rfl⟩
 |[a]=>
  cases q:lV a with
  |true=>exact .inr (.inl ⟨a,rfl,q⟩)
  |false=>exact .inl ⟨by rw[Uz,q];rfl,by show(if lV a=OK then ax ((a:Int) - 48)else cL)=cL;rw[q];rfl⟩
 |[a,b]=>
  cases q:lV a&&lV b with
  |true=>rw[Rz]at q;exact .inr (.inr ⟨a,b,rfl,q⟩)
  |false=>
   refine .inl ⟨?_,?_⟩
   .rw[Uz,Uz,List.all_nil,Yg,q];rfl
   .show(if(lV a&&lV b)=OK then(if a=48 then cL else ax (10*((a:Int) - 48)+((b:Int) - 48)))else cL)=cL;rw[q];rfl
 |a::b::c::r=>refine .inl ⟨?_,rfl⟩;rw[ZH];apply a8;rw[UX,Bool.and_eq_false_iff];right;apply a5;simp only[Rk];ext
theorem OG{c:Nat}(h:lV c=OK):c<1114112:=by obtain⟨k,a,rfl⟩:=Bk h;ext
theorem Js{a:Nat}(h:lV a=OK):AZ [aO [a]]=-(oI (cN [a]))/\cN [a]=ax ((a:Int) - 48):=by
 have e:cN [a]=ax ((a:Int) - 48):=by show(if lV a=OK then ax ((a:Int) - 48)else cL)=_;rw[h];rfl
 obtain⟨k,b,rfl⟩:=Bk h;refine⟨?_,e⟩;rw[e];refine(B6 (z:=tx [48+k]) (OA k b) (by show 1<=640;decide)).trans ?_;show ax (RV.fz (.int _))=ax (RV.fz (.int _));congr 3;ext
theorem FK{a b:Nat}(h:lV a=OK)(h':lV b=OK)(n:a≠48):AZ [aO [a,b]]=-(oI (cN [a,b]))/\cN [a,b]=ax (10*((a:Int) - 48)+((b:Int) - 48)):=by
 have e:cN [a,b]=ax (10*((a:Int) - 48)+((b:Int) - 48)):=by show(if(lV a&&lV b)=OK then(if a=48 then cL else ax (10*((a:Int) - 48)+((b:Int) - 48)))else cL)=_;rw[h,h',Te,ak rfl,ar n]
 obtain⟨k,c,rfl⟩:=Bk h;obtain⟨j,d,rfl⟩:=Bk h';refine⟨?_,e⟩;rw[e];refine(B6 (z:=tx [48+k,48+j]) (NC k c j d) (by show 2<=640;decide)).trans ?_;show ax (RV.fz (.int _))=ax (RV.fz (.int _));congr 3;ext
theorem Jp{b:Nat}:cN [48,b]=cL:=by
 show(if(lV 48&&lV b)=OK then(if 48=48 then cL else ax (10*((48:Int) - 48)+((b:Int) - 48)))else cL)=cL;split
 .rfl
 .rfl
theorem nU{s:cM Nat}(h:s.length<=1000):cT [aO s]=.ok (.fz (oI (cN s))):=by
 have k:=pX h;have all:ay (dD sO {dh 1 [] (pp (ae 0)) (gN 0) bZ (aA MA (ae 0) (pC (.str "0123456789")))}) [-(aO s)]=.ok (s.all lV,[-(aO s)]):=by refine a9 (dk (rv:=.fz (.bool (s.all lV))) (am (cP (yZ (aw rfl) rfl) rfl (j6 (f:=λc=>aO [c]) (g:=λc=>lD.bool (lV c)) s (by ext) rfl λc _=>?_)) aD) rfl (nA lV s)) rfl;exact bK (aw rfl) aY rfl rfl (K9 c)
 refine cA (ρ:=[-(aO s)]) rfl ?_;unfold lB;refine bN (b:= !(decide ((1:Int)<=(s.length:Int))&&decide ((s.length:Int)<=2))|| !s.all lV) (cX (dU (by fail "ev")) λ_=>dU all) (λq=>?_) (λq=>bb ?_)
 .refine cx aY rfl ?_
  rcases r9 s with⟨_,e⟩|⟨a,rfl,e⟩|⟨a,b,rfl,e,d⟩
  .rw[e];rfl
  .rw[Uz,e]at q;cases q
  .rw[Uz,Uz,e,d]at q;cases q
 .rcases r9 s with⟨e,_⟩|⟨a,rfl,e⟩|⟨a,b,rfl,e,d⟩
  .rw[e]at q;cases q
  .have i:=(Js e).1;refine bN (b:=Rh) (dG (a:=Rh) (b:=Rh) (by fail "ev") λz=>by cases z) (λz=>by cases z) λ_=>bb ?_;fail "go";rfl
  .have l:=Kr (c:=a) (r:=[b]) (by show 2<=1000;decide)
   have j:=kH (yn (OG e)) (yn (c:=48) (by decide));rw[<-Qx]at j;refine bN (b:=decide (([a]:cM Nat)=[48])) (dG (a:=OK) (by fail "ev") λ_=>by fail "ev") (λz=>?_) λz=>bb ?_
   .refine cx aY rfl ?_;cases(a6 z);rw[Jp];rfl
   .have i:=(FK e d λy=>of_decide_eq_false z (by rw[y])).1;fail "go";rfl
theorem Nv(x:Int):mW (.int x) (.list [.int 1,.int 2])=-(.bool (!(decide (1<=x)&&decide (x<=2)))):=by refine(rm x [1,2]).trans ?_;congr 4;rw[Uc];simp only[Rn,Rv,or_false,Rz,decide_eq_true_iff];ext
theorem Ej{c:Nat}{a:FE}{ρ:bA}(h:a ρ=.ok (.fz (aO [c]),ρ)):fL xq xq (pC (.str "0")) a (pC (.str "9")) ρ=.ok (.fz (.bool (lV c)),ρ):=
 jT (dy:=aO [c]) aY h aY rfl rfl rfl (PK c) λ_=>Pw c
theorem ko{s:cM Nat}(h:s.length<=1000)(j:kn s):c7 [aO s]=.ok (.fz (oI (cN s))):=by
 have o:=pX h;have n:=Nv (s.length:Int);have all:ay (dD sO {dh 1 [] (pp (ae 0)) (gN 0) bZ (fL xq xq (pC (.str "0")) (ae 0) (pC (.str "9")))}) [-(aO s)]=.ok (s.all lV,[-(aO s)]):=by refine a9 (dk (rv:=.fz (.bool (s.all lV))) (am (cP (yZ (aw rfl) rfl) rfl (j6 (f:=λc=>aO [c]) (g:=λc=>lD.bool (lV c)) s (by ext) rfl λc _=>?_)) aD) rfl (nA lV s)) rfl;exact Ej (aw rfl)
 have m:gw (ay (aA dq (dD rZ {ae 0}) (~~~2))) (ay (aA dq (aA DN (ae 0) (~~~0)) (pC (.str "0")))) [-(aO s)]=.ok (decide ((s.length:Int)=2)&&decide (s.head? =ax 48),[-(aO s)]):=by
  refine dG (by fail "ev") λz=>?_;have z:=a6 z
  match s,z,j with
  |a::r,z,j=>
   have p:=Kr (c:=a) (r:=r) h;have l:=kH (yn (j a Ri)) (yn (c:=48) (by decide));rw[<-Qx]at l;have:decide ((a::r).head? =ax 48)=decide (([a]:cM Nat)=[48]):=by apply decide_eq_decide.mpr;simp
   rw[this];fail "ev"
  |[],z,_=>cases z
 refine cA (ρ:=[-(aO s)]) rfl ?_;unfold kt;refine bN (b:= !(decide ((1:Int)<=(s.length:Int))&&decide ((s.length:Int)<=2))||(decide ((s.length:Int)=2)&&decide (s.head? =ax 48))) (cX (by fail "ev") λ_=>m) (λq=>?_) (λq=>bb (bN (b:= !s.all lV) (dU all) (λd=>?_) (λd=>bb ?_)))
 .refine cx aY rfl ?_
  rcases r9 s with⟨_,e⟩|⟨a,rfl,e⟩|⟨a,b,rfl,e,i⟩
  .rw[e];rfl
  .cases q
  .cases(show ax a=ax 48 by simpa using q);rw[Jp];rfl
 .refine cx aY rfl ?_
  rcases r9 s with⟨_,e⟩|⟨a,rfl,e⟩|⟨a,b,rfl,e,i⟩
  .rw[e];rfl
  .rw[Uz,e]at d;cases d
  .rw[Uz,Uz,e,i]at d;cases d
 .rw[XO]at q
  rcases r9 s with⟨e,_⟩|⟨a,rfl,e⟩|⟨a,b,rfl,e,i⟩
  .rw[q.1,d]at e;cases e
  .have k:=(Js e).1;fail "go";rfl
  .have k:=(FK e i λy=>by subst y;cases q.2).1;fail "go";rfl
theorem Gz(a b n:Nat):R8.Str.strSliceIndices (ax (a:Int)) (ax (b:Int)) 1 n=R8.Str.strSliceIndices (ax (ab6 (min a n):Int)) (ax (ab6 (min b n):Int)) 1 n:=by
 unfold R8.Str.strSliceIndices;dsimp only;rw[ar (show¬(a:Int)<0 by ext),ar (show¬(b:Int)<0 by ext),ar (show¬(ab6 (min a n):Int)<0 by ext),ar (show¬(ab6 (min b n):Int)<0 by ext)];congr 1
 .rw[ak (by decide),ak (by decide)];ext
 .rw[ak (by decide),ak (by decide)];ext
theorem tF{w:cM Nat}(h:w.length<=1000){a b:Nat}(f:a<=b):bT (.str (tx w)) (ax (a:Int)) (ax (b:Int))=-(.str (tx ((w.drop a).take (b - a)))):=by
 have c:=gQ w;have d:Txt.slice (tx w) (ax (a:Int)) (ax (b:Int))=tx ((w.drop a).take (b - a)):=by
  have e:=af9 (tx w) (a:=min a w.length) (b:=min b w.length) (by ext) (by rw[c];ext);rw[c,<-Gz]at e;have g:((tx w).cps.toList.drop (min a w.length)).take (min b w.length - min a w.length)=(w.drop a).take (b - a):=by
   show(w.drop (min a w.length)).take (min b w.length - min a w.length)=_;by_cases q:a<=w.length
   .rw[ZQ q,abj,Sl];ext
   .rw[Ui (by ext),Ui (by ext),aaB,aaB]
  rw[g]at e;unfold Txt.slice;rw[c];split
  .rename_i z
   rw[Rz]at z;have z:=eq_of_beq z.2;have k:=PySem.sliceIndices_le (ax (a:Int)) (ax (b:Int)) w.length;have j:(Z5 (λi=>(tx w).cps[i]?) (R8.Str.strSliceIndices (ax (a:Int)) (ax (b:Int)) 1 w.length)).length=((w.drop a).take (b - a)).length:=by rw[e]
   rw[Gz,aga (by ext) (by ext),CL,RQ]at z;rw[Th (by rw[Sl];ext)];by_cases q:a=0
   .rw[q];rfl
   .rw[List.length_eq_zero_iff.mp (show w.length=0 by ext),List.drop_nil]
  .show(⟨(Z5 (λi=>(tx w).cps[i]?) _).toArray⟩:Str)=_;rw[e];rfl
 show(if(tx w).length<=1000000 then ax (RV.fz (.str (Txt.slice (tx w) (ax (a:Int)) (ax (b:Int)))))else cL)=_;rw[c,ak (by ext),d]
theorem NF(b:Int)(n:Nat):R8.Str.strSliceIndices cL (ax b) 1 n=R8.Str.strSliceIndices (ax ((0:Nat):Int)) (ax b) 1 n:=by
 unfold R8.Str.strSliceIndices;simp;congr 1
 try ext
theorem NW(a:Nat)(n:Nat):R8.Str.strSliceIndices (ax (a:Int)) cL 1 n=R8.Str.strSliceIndices (ax (a:Int)) (ax (n:Int)) 1 n:=by
 unfold R8.Str.strSliceIndices;simp;rw[ar (show¬(n:Int)<0 by ext)];congr 1
 try ext
theorem Eb{x:Str}{lo hi a b:c5 Int}(h:R8.Str.strSliceIndices lo hi 1 x.length=R8.Str.strSliceIndices a b 1 x.length):bT (.str x) lo hi=bT (.str x) a b:=by show(if x.length<=1000000 then ax (RV.fz (.str (Txt.slice x lo hi)))else cL)=(if x.length<=1000000 then ax (RV.fz (.str (Txt.slice x a b)))else cL);unfold Txt.slice;rw[h]
theorem lK{w:cM Nat}(h:w.length<=1000)(b:Nat):bT (aO w) cL (ax (b:Int))=-(aO (w.take b)):=by rw[Eb (NF _ _),tF h (Tp b)];rfl
theorem iq{w:cM Nat}(h:w.length<=1000)(a:Nat):bT (aO w) (ax (a:Int)) cL=-(aO (w.drop a)):=by
 rw[Eb (NW _ _),gQ];have e:=Eb (x:=tx w) (Gz a w.length (tx w).length);rw[gQ]at e;rw[e,tF h (by ext)];congr 4;by_cases q:a<=w.length
 .rw[ZQ q,Th (by rw[Sl];ext)]
 .rw[Ui (by ext),Ui (i:=a) (by ext),aaB]
theorem x9(c:Nat)(w:cM Nat):qp (tx w) [aO [c]]=-(.bool (decide (w[0]?=ax c))):=by show ax (RV.fz (.bool (decide (0+(tx [c]).length<=(tx w).length)&&R8.Str.subAt (tx w) (tx [c]) 0)))=_;congr 3;rw[Uc,Rz,decide_eq_true_iff,decide_eq_true_iff];exact V2 (tx w) c 0
theorem LO(c:Nat)(w:cM Nat):∃m:Int,CA (tx w) [aO [c]]=-(.int m)/\((m= -1/\∀i:Nat,¬w[i]?=ax c)\/∃i:Nat,m=i/\w[i]?=ax c):=by
 refine⟨_,rfl,?_⟩;unfold Txt.find;rcases agb (tx w) (tx [c]) 1 (Rr 1)with⟨e,n⟩|⟨i,r,e,n,_⟩
 .rw[e];exact .inl ⟨rfl,λi hi=>n i ((V2 (tx w) c i).mpr hi)⟩
 .rw[e];exact .inr ⟨i,rfl,(V2 (tx w) c i).mp n⟩
def lC(s:cM Nat):c5 Mg:=if s=[46]then ax .none else if s=[95]then ax .below else if eY s=OK then ax (.SR s)else if s[0]?=ax 126 then(cN (s.drop 1)).map .once else if s[0]?=ax 62 then(cN (s.drop 1)).map .Tu else if(eY (s.take 1)&&decide ((s.drop 1).take 1=[62]))=OK then(cN (s.drop 2)).map (.Wg (s.take 1))else cL
def oM:c5 Mg->D
 |some m=>mG m
 |none=>.none
theorem Ju:lD.str "."=aO [46]:=by show lD.str _=lD.str _;congr 1
theorem Gd:lD.str "_"=aO [95]:=by show lD.str _=lD.str _;congr 1
theorem vZ:lD.str "~"=aO [126]:=by show lD.str _=lD.str _;congr 1
theorem JL:lD.str ">"=aO [62]:=by show lD.str _=lD.str _;congr 1
theorem jH{f:Str->cM D->c5 RV}{a:FE}{b:FA}{ρ ρ1 ρ2:bA}{pv:PV}{z:Str}{ps:cM PV}{ds:cM D}{rv:RV}(d:a ρ=.ok (pv,ρ1))(c:vN pv=ax z)(ha:b ρ1=.ok (ps,ρ2))(hd:mS ρ2 ps=ax ds)(e:f z ds=ax rv):pT f a b ρ=.ok (rv.pv,ρ2):=by unfold pT;rw[d,fu];dsimp only;rw[c,aR,fu,ha,fu,hd,aR,fu,e,aR,fu]
theorem jc{ds:cM D}(a:lD.canLayAll0 ds=OK):de [.list ds]=.ok (.fz (if(ds.any λe=>lD.eqv e .none)=OK then .none else .tuple ds)):=by
 have c:lu .none (.list ds)=-(.bool (ds.any λe=>lD.eqv e .none)):=by show(if(mr .none&&lD.canLayAll0 ds)=OK then ax (RV.fz (.bool (ds.any λe=>lD.eqv e .none)))else cL)=_;rw[a,show mr .none=OK from rfl,Te,ak rfl]
 refine cA (ρ:=[-(.list ds)]) rfl ?_;unfold lZ;refine bN (b:=ds.any λe=>lD.eqv e .none) (by fail "ev") (λq=>cx aY rfl (by rw[q];rfl)) (λq=>bb ?_);rw[q];fail "go";rfl
theorem Gj{w:Str}(a:lD.strOk w=OK)(o:c5 Int):de [.list [.str w,oI o]]=.ok (.fz (match o with|some n=>.tuple [.str w,.int n]|none=>.none)):=by
 cases o with
 |none=>exact jc (by show(lD.strOk w&&OK)=OK;rw[a];rfl)
 |some n=>exact jc (by show(lD.strOk w&&OK)=OK;rw[a];rfl)
theorem L5{w z:Str}(b:lD.strOk w=OK)(a:lD.strOk z=OK)(o:c5 Int):de [.list [.str w,.str z,oI o]]=.ok (.fz (match o with|some n=>.tuple [.str w,.str z,.int n]|none=>.none)):=by
 cases o with
 |none=>exact jc (by show(lD.strOk w&&(lD.strOk z&&OK))=OK;rw[b,a];rfl)
 |some n=>exact jc (by show(lD.strOk w&&(lD.strOk z&&OK))=OK;rw[b,a];rfl)
theorem uS{s:cM Nat}(h:kn s)(n:Nat):kn (s.drop n):=λc a=>h c (VV a)
theorem nI{s:cM Nat}(h:kn s)(n:Nat):kn (s.take n):=λc a=>h c (U3 a)
theorem Dz{s:cM Nat}(h:s.length<=1000)(d:kn s):gO [aO s]=.ok (.fz (oM (lC s))):=by
 have j:=kH d (yn (c:=46) (by decide));have i:=kH d (yn (c:=95) (by decide));have p:=jJ h;have f:=x9 126 s;have e:=x9 62 s;have v:bT (aO s) (ax 1) cL=-(aO (s.drop 1)):=iq h 1;have u:bT (aO s) (ax 2) cL=-(aO (s.drop 2)):=iq h 2;have l:bT (aO s) cL (ax 1)=-(aO (s.take 1)):=lK h 1;have k:bT (aO s) (ax 1) (ax 2)=-(aO ((s.drop 1).take 1)):=tF h (show 1<=2 by decide);have n:=nU (s:=s.drop 1) (by rw[Sl];ext);have m:=nU (s:=s.drop 2) (by rw[Sl];ext);have o:=jJ (s:=s.take 1) (by rw[Sd];ext);have g:=kH (nI (uS d 1) 1) (yn (c:=62) (by decide));have B:=Gj (w:= "once") (by left) (cN (s.drop 1));have A:=Gj (w:= "layer") (by left) (cN (s.drop 1));rw[<-Ju]at j;rw[<-Gd]at i;rw[<-vZ]at f;rw[<-JL]at e g;refine cA (ρ:=[-(aO s)]) rfl ?_;unfold kE;unfold lC;refine bN (by fail "ev") (λq=>?_) (λq=>bb ?_)
 .rw[ak (a6 q)];fail "go";rfl
 rw[ar (of_decide_eq_false q)];refine bN (by fail "ev") (λq=>?_) (λq=>bb ?_)
 .rw[ak (a6 q)];fail "go";rfl
 rw[ar (of_decide_eq_false q)];refine bN (by fail "ev") (λq=>?_) (λq=>bb ?_)
 .rw[ak q];fail "go";rfl
 rw[ar (by rw[q];exact Rg)];refine bN (a9 (jH (aw rfl) rfl (am aY aD) rfl f) rfl) (λq=>?_) (λq=>bb ?_)
 .rw[ak (a6 q)];fail "go";cases cN (s.drop 1)<;>rfl
 rw[ar (of_decide_eq_false q)];refine bN (a9 (jH (aw rfl) rfl (am aY aD) rfl e) rfl) (λq=>?_) (λq=>bb ?_)
 .rw[ak (a6 q)];fail "go";cases cN (s.drop 1)<;>rfl
 rw[ar (of_decide_eq_false q)];refine bN (b:=eY (s.take 1)&&decide ((s.drop 1).take 1=[62])) (dG (by fail "ev") λ_=>by fail "ev") (λq=>?_) (λq=>bb ?_)
 .rw[ak q]
  rw[Rz]at q;cases s with
  |nil=>exact a7 q.1 (by decide)
  |cons a r=>have t:=Kr (c:=a) (r:=r) h;have y:=L5 (w:= "tap") (z:=tx [a]) (by left) (kZ (yn (d a Ri))) (cN ((a::r).drop 2));fail "go";cases cN ((a::r).drop 2)<;>rfl
 .rw[ar (by rw[q];exact Rg)];fail "go";rfl
theorem Ph{s:cM Nat}(b:kn s):lu (aO s) (.list [.str ".",.str "_"])=-(.bool (decide (s∈[[46],[95]]))):=by
 rw[Ju,Gd];exact J5 (L:=[[46],[95]]) b λl a=>by
  simp only[Rn,Rv,or_false]at a;rcases a with rfl|rfl
  .exact yn (by decide)
  .exact yn (by decide)
theorem FD{r:cM Nat}{j:Nat}(h:r[j]?=ax 62):cN r=cL:=by
 rcases r9 r with⟨_,e⟩|⟨a,rfl,e⟩|⟨a,b,rfl,e,c⟩
 .exact e
 .match j,h with
  |0,h=>cases h;cases e
 .match j,h with
  |0,h=>cases h;cases e
  |1,h=>cases h;cases c
theorem LI{r:cM Nat}{j:Nat}(h:r[j]?=ax 62):eY r=Rh:=by
 cases q:eY r with
 |false=>rfl
 |true=>
  unfold eY at q;rw[Rz]at q;obtain⟨c,rfl⟩:=wg (a6 q.1)
  match j,h with
  |0,h=>cases h;cases q.2
theorem QN{s:cM Nat}{i:Nat}(h:s[i]?=ax 62):lC s=if i=0 then(cN (s.drop 1)).map .Tu else if eY (s.take i)=OK then(cN (s.drop (i+1))).map (.Wg (s.take i))else cL:=by
 have l:¬s=[46]:=λz=>by subst z;match i,h with|0,h=>cases h
 have k:¬s=[95]:=λz=>by subst z;match i,h with|0,h=>cases h
 unfold lC;rw[ar l,ar k,ar (by rw[LI h];exact Rg)];cases i with
 |zero=>rw[ak rfl,ar (by rw[h];exact λz=>by cases z),ak h]
 |succ i=>
  rw[ar (adA i)];have e:cN (s.drop 1)=cL:=FD (j:=i) (by rw[Wi,YW];exact h);rw[e];cases s with
  |nil=>cases h
  |cons a r=>
   by_cases q:eY ((a::r).take (i+1))=OK
   .rw[ak q]
    unfold eY at q;rw[Rz]at q;obtain⟨c,z⟩:=wg (a6 q.1);have hi:i<r.length:=by obtain⟨g,_⟩:=Rp.mp h;simp only[Rk]at g;ext
    have d:=e9 Za z;rw[Sd,Rk,S0]at d;obtain rfl:i=0:=by ext
    cases r with
    |nil=>cases hi
    |cons b r=>
     cases h;have lt:Ey a=OK:=by simpa using q.2
     have f:eY [a]=OK:=by unfold eY;rw[Rz];exact⟨rfl,by simpa using lt⟩
     rw[ar (show¬(a::62::r)[0]?=ax 126 from λz=>by cases z;cases lt),ar (show¬(a::62::r)[0]?=ax 62 from λz=>by cases z;cases lt),ak (show(eY ((a::62::r).take 1)&&decide (((a::62::r).drop 1).take 1=[62]))=OK by rw[Rz];exact⟨f,a4 rfl⟩)]
   .rw[ar q]
    split
    .rfl
    .split
     .rfl
     .split
      .rename_i z
       rw[Rz]at z;have m:=a6 z.2;cases i with
       |zero=>exact a7 z.1 q
       |succ i=>rw[FD (r:=(a::r).drop 2) (j:=i) (by rw[Wi,YW];exact h)];rfl
      .rfl
theorem QP{s:cM Nat}(h:∀i:Nat,¬s[i]?=ax 62)(a:¬s∈[[46],[95]])(e:eY s=Rh):lC s=if s[0]?=ax 126 then(cN (s.drop 1)).map .once else cL:=by
 have d:¬s=[46]:=λz=>a (by rw[z];exact Ri);have c:¬s=[95]:=λz=>a (by rw[z];exact Rm _ Ri);unfold lC;rw[ar d,ar c,ar (by rw[e];exact Rg),ar (h 0)];congr 1;apply ar;rw[Rz];intro z;have b:=a6 z.2;refine h 1 ?_;have:((s.drop 1).take 1)[0]?=ax 62:=by rw[b];rfl
 rw[List.getElem?_take,ak (by decide),Wi]at this;exact this
theorem JH:lD.str ""=aO []:=by show lD.str _=lD.str _;congr 1
theorem NL(o:c5 Int):lw (oI o) .none=-(.bool o.isNone):=by cases o<;>rfl
def yN:FS:=(aF (dJ (kL (ay (aA lw (ae 3) (pC .none))) (kL (gw (ay (aA kM (ae 2) (pC (.str "")))) (gw (ay (aA kM (ae 2) (pC (.str "~")))) (ib (ay (bu bS 1 {ae 2}))))) (gw (ay (aA dq (ae 2) (pC (.str "~")))) (ay (aA HB (ae 1) (~~~0)))))) (bG (pC .none)) bq)
 (aF (dJ (gw (ay (aA sw (ae 1) (~~~0))) (ay (aA kM (ae 2) (pC (.str "~"))))) (bG (pC .none)) bq)
 (aF (dJ (ay (aA dq (ae 2) (pC (.str "~")))) (bG (cU {pC (.str "once"),ae 3})) bq)
 (aF (dJ (ay (aA dq (ae 2) (pC (.str "")))) (bG (cU {pC (.str "layer"),ae 3})) bq)
 (bG (cU {pC (.str "tap"),ae 2,ae 3}))))))
def Jc(m:Int)(hd:cM Nat)(o:c5 Int):D:=match o with
 |none=>.none
 |some n=>if((decide (hd≠[])&&(decide (hd≠[126])&& !eY hd))||(decide (hd=[126])&&decide (m≥0)))=OK then .none else if(decide (m<0)&&decide (hd≠[126]))=OK then .none else if hd=[126]then .tuple [.str "once",.int n]else if hd=[]then .tuple [.str "layer",.int n]else .tuple [.str "tap",aO hd,.int n]
theorem wD{d:D}{m:Int}{hd:cM Nat}(f:hd.length<=1000)(a:kn hd)(o:c5 Int){N C:bA->Prop}:Go (yN [-(d),-(.int m),-(aO hd),-(oI o)]) N C (λr=>r=.fz (Jc m hd o)):=by
 have g:=NL o;have i:kM (aO hd) (.str "")=-(.bool (decide (hd≠[]))):=by rw[JH,rV a (λc e=>by cases e),decide_not]
 have h:kM (aO hd) (.str "~")=-(.bool (decide (hd≠[126]))):=by rw[vZ,rV a (yn (by decide)),decide_not]
 have l:dq (aO hd) (.str "")=-(.bool (decide (hd=[]))):=by rw[JH,kH a (λc e=>by cases e)]
 have k:dq (aO hd) (.str "~")=-(.bool (decide (hd=[126]))):=by rw[vZ,kH a (yn (by decide))]
 have j:=iY f;unfold yN;refine bN (b:=o.isNone||((decide (hd≠[])&&(decide (hd≠[126])&& !eY hd))||(decide (hd=[126])&&decide (m≥0)))) (cX (by fail "ev") λ_=>cX (dG (by fail "ev") λ_=>dG (by fail "ev") λ_=>dU (by fail "ev")) λ_=>dG (by fail "ev") λ_=>by fail "ev") (λq=>?_) (λq=>bb ?_)
 .refine cx aY rfl ?_
  cases o with
  |none=>rfl
  |some n=>unfold Jc;dsimp only;rw[ak (by simpa using q)]
 rw[XO]at q;cases o with
 |none=>cases q.1
 |some n=>
  unfold Jc;dsimp only;rw[ar (by rw[q.2];exact Rg)];refine bN (b:=decide (m<0)&&decide (hd≠[126])) (dG (by fail "ev") λ_=>by fail "ev") (λq=>cx aY rfl ?_) (λq=>bb ?_)
  .rw[ak q]
  rw[ar (by rw[q];exact Rg)];refine bN (b:=decide (hd=[126])) (by fail "ev") (λq=>?_) (λq=>bb ?_)
  .rw[ak (a6 q)];fail "go";rfl
  rw[ar (of_decide_eq_false q)];refine bN (b:=decide (hd=[])) (by fail "ev") (λq=>?_) (λq=>bb ?_)
  .rw[ak (a6 q)];fail "go";rfl
  rw[ar (of_decide_eq_false q)];fail "go";rfl
theorem Nz{s:cM Nat}{c:Nat}(h:s.take 1=[c]):s[0]?=ax c:=by
 cases s with
 |nil=>cases h
 |cons a r=>cases h;rfl
theorem HW{s:cM Nat}(h:s.length<=1000)(d:kn s):iJ [aO s]=.ok (.fz (oM (lC s))):=by
 have E:=Ph d;have v:=kH d (yn (c:=95) (by decide));have I:=iY h;rw[<-Gd]at v;refine cA (ρ:=[-(aO s),cL,cL,cL]) rfl ?_;unfold l7;refine bN (b:=decide (s∈[[46],[95]])) (by fail "ev") (λq=>?_) (λq=>bb ?_)
 .have z:=a6 q
  simp only[Rn,Rv,or_false]at z;rcases z with rfl|rfl
  .refine cx (pv:=.fz (.tuple [.str "none"])) (bK (rv:=.fz (.tuple [.str "none"])) (by fail "ev") (dk (rv:=.fz (.int 0)) (am (by fail "ev") aD) rfl rfl) rfl rfl rR) rfl rfl
  .refine cx (pv:=.fz (.tuple [.str "below"])) (bK (rv:=.fz (.tuple [.str "below"])) (by fail "ev") (dk (rv:=.fz (.int 1)) (am (by fail "ev") aD) rfl rfl) rfl rfl Ap) rfl rfl
 have g:=of_decide_eq_false q;refine bN (b:=eY s) (by fail "ev") (λq=>?_) (λq=>bb ?_)
 .have:lC s=ax (.SR s):=by
   unfold lC;rw[ar (λz=>g (by rw[z];exact Ri)),ar (λz=>g (by rw[z];exact Rm _ Ri)),ak q]
  rw[this];fail "go";rfl
 obtain⟨m,p,B⟩:=LO 62 s;rw[<-JL]at p;refine bJ (ρ3:=[-(aO s),-(.int m),cL,cL]) (jH (aw rfl) rfl (am aY aD) rfl p) rfl rfl ?_;rcases B with⟨rfl,l⟩|⟨i,rfl,hi⟩
 .have A:mJ [.int 0,.int (-1)]=-(.int 0):=rfl
  have u:bT (aO s) cL (ax 0)=-(aO []):=lK h 0;have C:bT (aO s) (ax 0) cL=-(aO s):=iq h 0;have w:=ko h d;have t:bT (aO s) cL (ax 1)=-(aO (s.take 1)):=lK h 1;have j:=kH (nI d 1) (yn (c:=126) (by decide));rw[<-vZ]at j;have F:bM (.int (-1)) (.int 1)=-(.int 0):=rfl;refine bJ (ρ3:=[-(aO s),-(.int (-1)),-(aO []),cL]) (by fail "ev") rfl rfl ?_;refine bJ (ρ3:=[-(aO s),-(.int (-1)),-(aO []),-(oI (cN s))]) (by fail "ev") rfl rfl ?_;refine bN (b:=decide (s.take 1=[126])&&OK) (dG (by fail "ev") λ_=>by fail "ev") (λz=>?_) (λz=>bb ?_)
  .have G:=ko (s:=s.drop 1) (by rw[Sl];ext) (uS d 1)
   have J:bT (aO s) (ax 1) cL=-(aO (s.drop 1)):=iq h 1;refine ia (bJ (ρ3:=[-(aO s),-(.int (-1)),-(aO []),-(oI (cN (s.drop 1)))]) (by fail "ev") rfl rfl (bJ (ρ3:=[-(aO s),-(.int (-1)),-(aO [126]),-(oI (cN (s.drop 1)))]) aY (by rw[vZ];rfl) rfl ?_));have e:oM (lC s)=Jc (-1) [126] (cN (s.drop 1)):=by rw[QP l g q,ak (Nz (by rw[Yg]at z;exact a6 z))];cases cN (s.drop 1)<;>rfl
   rw[e];exact wD (by decide) (yn (by decide)) _
  .have e:oM (lC s)=Jc (-1) [] (cN s):=by
    rw[QP l g q,ar (λy=>by
     rw[Yg]at z;refine of_decide_eq_false z ?_;cases s with
     |nil=>cases y
     |cons a r=>cases y;rfl)]
    cases cN s<;>rfl
   rw[e];exact wD (by decide) (λc d=>by cases d) _
 .have A:mJ [.int 0,.int (i:Int)]=-(.int (i:Int)):=by
   show ax (RV.fz (.int (if(i:Int)>0 then(i:Int)else 0)))=_;congr 3;split<;>ext
  have u:=lK h i;have C:bT (aO s) (ax ((i:Int)+1)) cL=-(aO (s.drop (i+1))):=iq h (i+1);have w:=ko (s:=s.drop (i+1)) (by rw[Sl];ext) (uS d (i+1));have t:bT (aO s) cL (ax 1)=-(aO (s.take 1)):=lK h 1;have j:=kH (nI d 1) (yn (c:=126) (by decide));rw[<-vZ]at j;refine bJ (ρ3:=[-(aO s),-(.int i),-(aO (s.take i)),cL]) (by fail "ev") rfl rfl ?_;refine bJ (ρ3:=[-(aO s),-(.int i),-(aO (s.take i)),-(oI (cN (s.drop (i+1))))]) (by fail "ev") rfl rfl ?_;refine bN (b:=decide (s.take 1=[126])&&decide ((i:Int)<0)) (dG (by fail "ev") λ_=>by fail "ev") (λz=>?_) (λz=>bb ?_)
  .rw[Rz]at z;have:=a6 z.2;ext
  have e:oM (lC s)=Jc i (s.take i) (cN (s.drop (i+1))):=by
   rw[QN hi];cases i with
   |zero=>rw[ak rfl];show oM ((cN (s.drop 1)).map .Tu)=Jc 0 [] (cN (s.drop 1));cases cN (s.drop 1)<;>rfl
   |succ i=>
    rw[ar (adA i)];have k:s.take (i+1)≠[]:=λz=>by
     cases s with
     |nil=>cases hi
     |cons a r=>cases z
    generalize s.take (i+1)=hd at k;generalize cN (s.drop (i+1+1))=o;have H:¬((i+1:Nat):Int)<0:=by ext
    cases o with
    |none=>split<;>rfl
    |some n=>
     unfold Jc;dsimp only;cases lb:eY hd with
     |true=>
      have f:hd≠[126]:=λz=>by subst z;cases lb
      rw[ak rfl,ar (by simp[f]),ar (by simp[f];ext),ar f,ar k];rfl
     |false=>
      rw[ar Rg,ak ?_]
      .rfl
      .by_cases f:hd=[126]
       .simp[f];ext
       .simp[f,k]
  rw[e];exact wD (by rw[Sd];ext) (nI d i) _
def cK(c:Nat):cM Nat->cM (cM Nat)
 |[]=>[[]]
 |a::r=>if a=c then[]::cK c r else match cK c r with
  |[]=>[[a]]
  |w::ws=>(a::w)::ws
theorem hW(c:Nat)(l:cM Nat):∃w ws,cK c l=w::ws:=by
 cases l with
 |nil=>exact⟨[],[],rfl⟩
 |cons a r=>
  unfold cK;split
  .exact⟨_,_,rfl⟩
  .split
   .exact⟨_,_,rfl⟩
   .exact⟨_,_,rfl⟩
theorem gM{c a:Nat}{r w:cM Nat}{ws:cM (cM Nat)}(n:a≠c)(h:cK c r=w::ws):cK c (a::r)=(a::w)::ws:=by
 show(if a=c then[]::cK c r else match cK c r with
  |[]=>[[a]]
  |w::ws=>(a::w)::ws)=_
 rw[ar n,h]
theorem nt{c:Nat}{r:cM Nat}:cK c (c::r)=[]::cK c r:=by show(if c=c then[]::cK c r else _)=_;rw[ak rfl]
theorem Gk(c:Nat):∀l:cM Nat,Rx ⟨#[c]⟩ ((cK c l).map tx)=tx l:=by
 intro l
 induction l with
 |nil=>rfl
 |cons a r b=>
  obtain⟨w,d,e⟩:=hW c r;rw[e]at b;by_cases n:a=c
  .subst n;rw[nt,e];show(tx []++tx [a])++Rx ⟨#[a]⟩ ((w::d).map tx)=_;rw[b,pz,pz];rfl
  .rw[gM n e]
   cases d with
   |nil=>rw[EF (show tx w=tx r from b)];rfl
   |cons v vs=>show tx (a::w)++tx [c]++Rx ⟨#[c]⟩ ((v::vs).map tx)=_;have b:tx w++tx [c]++Rx ⟨#[c]⟩ ((v::vs).map tx)=tx r:=b;rw[show tx (a::w)=tx [a]++tx w from(pz [a] w).symm,show tx (a::r)=tx [a]++tx r from(pz [a] r).symm,<-b,Vm,Vm,Vm]
theorem e8(c:Nat):∀l:cM Nat,(∀w∈cK c l,c∉w/\w.length<=l.length/\∀x∈w,x∈l)/\(cK c l).length<=l.length+1:=by
 intro l
 induction l with
 |nil=>exact⟨λw i=>by cases(RA.mp i);exact⟨(λz=>by cases z),Rr _,(λ_ z=>by cases z)⟩,Rr _⟩
 |cons a r d=>
  obtain⟨w,j,e⟩:=hW c r;have g:∀v∈cK c r,c∉v/\v.length<=(a::r).length/\∀x∈v,x∈a::r:=λv b=>⟨(d.1 v b).1,by have:=(d.1 v b).2.1;rw[Rk];ext,λx f=>Rm _ ((d.1 v b).2.2 x f)⟩;have h:=d.2;by_cases n:a=c
  .subst n
   rw[nt];refine⟨λv b=>?_,by rw[Rk,Rk];ext⟩;rcases Rn.mp b with rfl|b
   .exact⟨(λz=>by cases z),Tp _,(λ_ z=>by cases z)⟩
   .exact g v b
  .rw[gM n e]
   rw[e]at g d h;refine⟨λv b=>?_,by rw[Rk]at h⊢;rw[Rk];ext⟩;rcases Rn.mp b with rfl|b
   .have z:=d.1 w Ri
    refine⟨λy=>?_,by rw[Rk,Rk];have:=z.2.1;ext,λx f=>?_⟩
    .rcases Rn.mp y with y|y
     .exact n y.symm
     .exact z.1 y
    .rcases Rn.mp f with rfl|f
     .exact Ri
     .exact Rm _ (z.2.2 x f)
   .exact g v (Rm _ b)
theorem kb{c:Nat}{l:cM Nat}(h:l.length<=1000):fX (tx l) [aO [c]]=ax (.ow ((cK c l).map aO)):=by obtain⟨w,ws,e⟩:=hW c l;have a:=e8 c l;have j:=Gk c l;have:=vP (c:=c) (ws:=(cK c l).map tx) (by rw[e];exact λz=>by cases z) (λw b=>by obtain⟨v,d,rfl⟩:=RF.mp b;exact(a.1 v d).1) (by rw[j,gQ];ext) (by rw[CL];have:=a.2;ext);rw[j,Sw]at this;exact this
abbrev wK:cM Nat:=[107,101,121,115]
abbrev wW:cM Nat:=[119,97,105,116]
abbrev wL:cM Nat:=[108,97,121,101,114]
abbrev wC:cM Nat:=[99,104,111,114,100]
theorem La:lD.str "keys"=aO wK:=by show lD.str _=lD.str _;congr 1
theorem LW:lD.str "wait"=aO wW:=by show lD.str _=lD.str _;congr 1
theorem Cn:lD.str "layer"=aO wL:=by show lD.str _=lD.str _;congr 1
theorem II:lD.str "chord"=aO wC:=by show lD.str _=lD.str _;congr 1
theorem zk:kn wK/\kn wW/\kn wL/\kn wC:=by refine⟨?_,?_,?_,?_⟩<;>(intro c a;simp only[Rn,Rv,or_false]at a;ext)
def JC(ws:cM (cM Nat)):Prop:=ws.length<=1000/\∀w∈ws,w.length<=1000/\kn w
theorem NY{w:cM Nat}(h:kn w):kM (aO w) (.str "keys")=-(.bool (!decide (w=wK))):=by rw[La,rV h zk.1]
theorem NK{w:cM Nat}(h:kn w):kM (aO w) (.str "wait")=-(.bool (!decide (w=wW))):=by rw[LW,rV h zk.2.1]
theorem PZ{w:cM Nat}(h:kn w):kM (aO w) (.str "layer")=-(.bool (!decide (w=wL))):=by rw[Cn,rV h zk.2.2.1]
theorem NP{w:cM Nat}(h:kn w):kM (aO w) (.str "chord")=-(.bool (!decide (w=wC))):=by rw[II,rV h zk.2.2.2]
theorem Ou{w:cM Nat}(h:kn w):dq (aO w) (.str "layer")=-(.bool (decide (w=wL))):=by rw[Cn,kH h zk.2.2.1]
theorem sg(ws:cM (cM Nat)):dc [.list (ws.map aO)]=-(.int (ws.length:Int)):=by show ax (RV.fz (.int ((ws.map aO).length:Int)))=_;rw[CL]
def fT:cM (cM Nat)->c5 (c5 Int×c5 Int)
 |[k,a,w,b]=>if(!decide (k=wK)|| !decide (w=wW))=OK then cL else ax (cN a,cN b)
 |_=>cL
def Mu:c5 (c5 Int×c5 Int)->D
 |some (ax x,ax y)=>.tuple [.int x,.int y]
 |_=>.none
theorem uK{k a w b:cM Nat}:fT [k,a,w,b]=if(!decide (k=wK)|| !decide (w=wW))=OK then cL else ax (cN a,cN b):=rfl
theorem BM(a b:Int):kM (.int a) (.int b)=-(.bool (!decide (a=b))):=rfl
theorem Bm{ws:cM (cM Nat)}(h:¬ws.length=4):fT ws=cL:=by
 unfold fT;split
 .exact a7 rfl h
 .rfl
theorem Ob{ws:cM (cM Nat)}(h:ws.length=4):∃k a w b,ws=[k,a,w,b]:=by
 match ws,h with
 |[k,a,w,b],_=>exact⟨k,a,w,b,rfl⟩
theorem Dw{ws:cM (cM Nat)}(h:JC ws):gP [.list (ws.map aO)]=.ok (.fz (Mu (fT ws))):=by
 have l:=sg ws;refine cA (ρ:=[-(.list (ws.map aO))]) rfl ?_;unfold iW;by_cases c:ws.length=4
 .obtain⟨k,a,w,b,rfl⟩:=Ob c
  have f:=h.2 k (by simp);have ha:=h.2 a (by simp);have e:=h.2 w (by simp);have g:=h.2 b (by simp);have p:bx (.list ([k,a,w,b].map aO)) (.int 0)=-(aO k):=rR;have o:bx (.list ([k,a,w,b].map aO)) (.int 1)=-(aO a):=Ap;have n:bx (.list ([k,a,w,b].map aO)) (.int 2)=-(aO w):=nw (by decide) rfl;have m:bx (.list ([k,a,w,b].map aO)) (.int 3)=-(aO b):=nw (by decide) rfl;have t:=NY f.2;have r:=NK e.2;have j:=nU ha.1;have i:=nU g.1;refine bN (b:=Rh||(!decide (k=wK)|| !decide (w=wW))) (cX (by fail "ev") λ_=>cX (by fail "ev") λ_=>by fail "ev") (λq=>cx aY rfl ?_) (λq=>bb ?_)
  .rw[Sz]at q;rw[uK,ak q];rfl
  .rw[Sz]at q;rw[uK,ar (by rw[q];exact Rg)];have u:=jc (ds:=[oI (cN a),oI (cN b)]) (by cases cN a<;>cases cN b<;>rfl);fail "go";cases cN a<;>cases cN b<;>rfl
 .have d:=BM (ws.length:Int) 4;rw[a5 (by ext)]at d;refine bN (b:=OK) (cX (a:=OK) (b:=OK) (by fail "ev") λz=>by cases z) (λq=>cx aY rfl ?_) (λq=>by cases q);rw[Bm c];rfl
def hJ{α:Type}:cM (c5 α)->c5 (cM α)
 |[]=>ax []
 |none::_=>cL
 |some a::r=>(hJ r).map (a::·)
def mK{α:Type}(f:α->D):c5 α->D
 |some a=>f a
 |none=>lD.none
theorem Jt:oI=mK lD.int:=by funext o;cases o<;>rfl
theorem JO:oM=mK mG:=by funext o;cases o<;>rfl
def lY{α:Type}(f:α->D):c5 (cM α)->D
 |some l=>lD.tuple (l.map f)
 |none=>lD.none
theorem N3{α:Type}{f:α->D}(c:∀a,lD.eqv (f a) .none=Rh)(l:cM (c5 α)):(if((l.map (mK f)).any λe=>lD.eqv e .none)=OK then lD.none else lD.tuple (l.map (mK f)))=lY f (hJ l):=by
 induction l with
 |nil=>rfl
 |cons o r b=>
  cases o with
  |none=>rfl
  |some a=>
   rw[RJ,VN,show lD.eqv (mK f (ax a)) .none=Rh from c a,Sz];show _=lY f ((hJ r).map (a::·));cases q:hJ r with
   |none=>
    rw[q]at b;split at b
    .rename_i z;rw[ak z];rfl
    .cases b
   |some l=>
    rw[q]at b;split at b
    .cases b
    .rename_i z;rw[ar z,lD.tuple.inj b];rfl
theorem MQ{α:Type}{f:α->D}(l:cM (c5 α))(h:∀a,ax a∈l->lD.canLay0 (f a)=OK):lD.canLayAll0 (l.map (mK f))=OK:=oJ λo b=>by
 cases o with
 |none=>rfl
 |some a=>exact h a b
theorem yp{α:Type}{f:α->D}(b:∀a,lD.eqv (f a) .none=Rh){l:cM (c5 α)}(h:∀a,ax a∈l->lD.canLay0 (f a)=OK):de [.list (l.map (mK f))]=.ok (.fz (lY f (hJ l))):=by rw[jc (MQ l h),N3 b]
theorem GP(m:Mg):lD.eqv (mG m) .none=Rh:=by cases m<;>rfl
theorem F8{w:cM Nat}{m:Mg}(h:lC w=ax m)(a:kn w):lD.canLay0 (mG m)=OK/\MF m:=by
 have:MF m:=by
  unfold lC at h;split at h
  .cases h;trivial
  split at h
  .cases h;trivial
  split at h
  .rename_i q;cases h;unfold eY at q;rw[Rz]at q;have:=a6 q.1;exact⟨by ext,a⟩
  split at h
  .obtain⟨n,_,rfl⟩:=TJ.mp h;trivial
  split at h
  .obtain⟨n,_,rfl⟩:=TJ.mp h;trivial
  split at h
  .obtain⟨n,_,rfl⟩:=TJ.mp h;exact⟨by rw[Sd];ext,nI a 1⟩
  .cases h
 exact⟨JA this,this⟩
def ja(ws:cM (cM Nat)):c5 (cM Mg):=match ws with
 |w::v::r=>if w=wL then hJ ((v::r).map lC)else cL
 |_=>cL
theorem Ly{d:D}{r:cM D}:wm (.list (d::r)) (ax 1) cL=ax (.ow r):=by
 show ax (RV.ow (kS (d::r) (ax 1) cL))=_;have a:HT.sIx (d::r).length 0 (ax 1)=1:=by have:=HT.sIx_nat (d::r).length 0 1;rw[show((1:Nat):Int)=1 from rfl,Rk]at this;rw[Rk];ext
 unfold kS;rw[a,HT.sIx_none,List.drop_succ_cons,ZZ,Th (by rw[Rk];ext)]
theorem IC{ws:cM (cM Nat)}(h:JC ws)(k:1<=ws.length):iB [.list (ws.map aO)]=.ok (.fz (lY mG (ja ws))):=by
 have n:=sg ws;refine cA (ρ:=[-(.list (ws.map aO))]) rfl ?_;unfold mw
 match ws,k with
 |[w],_=>refine bN (b:=OK) (cX (a:=OK) (b:=OK) (by fail "ev") λz=>by cases z) (λq=>cx aY rfl rfl) (λq=>by cases q)
 |w::v::r,_=>
  have j:=h.2 w Ri;have o:bx (.list ((w::v::r).map aO)) (.int 0)=-(aO w):=rR;have p:=PZ j.2;have lt:sw (.int ((w::v::r).length:Int)) (.int 2)=-(.bool Rh):=by show ax (RV.fz (.bool (decide (((w::v::r).length:Int)<2))))=_;rw[a5 (by simp only[Rk];ext)]
  refine bN (b:=Rh|| !decide (w=wL)) (cX (by fail "ev") λ_=>by fail "ev") (λq=>cx aY rfl ?_) (λq=>bb ?_)
  .rw[Sz,UX]at q;show _=RV.fz (lY mG (if w=wL then hJ ((v::r).map lC)else cL));rw[ar (of_decide_eq_false q)];rfl
  .rw[Sz,Yq]at q
   show Go _ _ _ (λx=>x=RV.fz (lY mG (if w=wL then hJ ((v::r).map lC)else cL)));rw[ak (a6 q)];have t:wm (.list ((w::v::r).map aO)) (ax 1) cL=ax (.ow ((v::r).map aO)):=Ly;have m:jS (d8 (gN 0) bZ (bu gO 1 {ae 0}) ((v::r).map aO) [cL] [])=.ok ((v::r).map λx=>mK mG (lC x)):=j6 (f:=aO) (g:=λx=>mK mG (lC x)) (v::r) (by have:=h.1;simp only[Rk]at this⊢;ext) rfl λx c=>by have c:=h.2 x (Rm _ c);have e:=Dz c.1 c.2;rw[JO]at e;exact hV (rv:=.fz (mK mG (lC x))) (by fail "ev") rfl rfl e
   have i:=yp (f:=mG) GP (l:=(v::r).map lC) λa ha=>by obtain⟨x,c,e⟩:=RF.mp ha;exact(F8 e (h.2 x (Rm _ c)).2).1
   rw[Sw]at i;exact bX (hV (rv:=.fz (lY mG (hJ ((v::r).map lC)))) (am (cP (gc (d:=.list ((v::r).map aO)) (by fail "ev") rfl rfl) rfl m) aD) rfl rfl i) rfl rfl
theorem Cm(i:Int):lD.eqv (.int i) .none=Rh:=rfl
theorem D0{w:cM Nat}(h:w.length<=1000):jC [aO w,.str "+"]=.ok (.fz (lY lD.int (hJ ((cK 43 w).map cN)))):=by
 have b:lD.str "+"=aO [43]:=by show lD.str _=lD.str _;congr 1
 have j:=kb (c:=43) h;have a:=e8 43 w;rw[b];have m:jS (d8 (gN 0) bZ (bu cT 1 {ae 0}) ((cK 43 w).map aO) [cL] [])=.ok ((cK 43 w).map λx=>mK lD.int (cN x)):=j6 (f:=aO) (g:=λx=>mK lD.int (cN x)) (cK 43 w) (by have:=a.2;ext) rfl λx k=>by have e:=nU (s:=x) (by have:=(a.1 x k).2.1;ext);rw[Jt]at e;exact hV (rv:=.fz (mK lD.int (cN x))) (by fail "ev") rfl rfl e
 have i:=yp (f:=lD.int) Cm (l:=(cK 43 w).map cN) λa ha=>rfl;rw[Sw]at i;refine cA (ρ:=[-(aO w),-(aO [43])]) rfl ?_;unfold li;exact bX (hV (rv:=.fz (lY lD.int (hJ ((cK 43 w).map cN)))) (am (cP (gc (d:=.list ((cK 43 w).map aO)) (jH (aw rfl) rfl (am (aw rfl) aD) rfl j) rfl rfl) rfl m) aD) rfl rfl i) rfl rfl
def jP:cM (cM Nat)->c5 (cM Int×cM Nat)
 |[c,k,l]=>if(!decide (c=wC)|| !eY l)=OK then cL else(hJ ((cK 43 k).map cN)).map λa=>(a,l)
 |_=>cL
theorem Ew{c k l:cM Nat}:jP [c,k,l]=if(!decide (c=wC)|| !eY l)=OK then cL else(hJ ((cK 43 k).map cN)).map λks=>(ks,l):=rfl
theorem ED{ws:cM (cM Nat)}(h:¬ws.length=3):jP ws=cL:=by
 unfold jP;split
 .exact a7 rfl h
 .rfl
theorem Jn{ws:cM (cM Nat)}(h:ws.length=3):∃c k l,ws=[c,k,l]:=by
 match ws,h with
 |[c,k,l],_=>exact⟨c,k,l,rfl⟩
theorem OH{α:Type}{f:α->D}(o:c5 (cM α)):lw (lY f o) .none=-(.bool o.isNone):=by cases o<;>rfl
theorem HS{ws:cM (cM Nat)}(h:JC ws):i4 [.list (ws.map aO)]=.ok (.fz (mK ef (jP ws))):=by
 have n:=sg ws;refine cA (ρ:=[-(.list (ws.map aO)),cL]) rfl ?_;unfold j9;by_cases d:ws.length=3
 .obtain⟨c,k,l,rfl⟩:=Jn d
  have j:=h.2 c (by simp);have i:=h.2 k (by simp);have g:=h.2 l (by simp);have u:bx (.list ([c,k,l].map aO)) (.int 0)=-(aO c):=rR;have t:bx (.list ([c,k,l].map aO)) (.int 1)=-(aO k):=Ap;have r:bx (.list ([c,k,l].map aO)) (.int 2)=-(aO l):=nw (by decide) rfl;have w:=NP j.2;have v:=jJ g.1;have m:=D0 i.1;refine bN (b:=Rh||(!decide (c=wC)|| !eY l)) (cX (by fail "ev") λ_=>cX (by fail "ev") λ_=>dU (by fail "ev")) (λq=>cx aY rfl ?_) (λq=>bb ?_)
  .rw[Sz]at q;rw[Ew,ak q];rfl
  .rw[Sz]at q
   rw[Ew,ar (by rw[q];exact Rg)];refine bJ (ρ3:=[-(.list ([c,k,l].map aO)),-(lY lD.int (hJ ((cK 43 k).map cN)))]) (by fail "ev") rfl rfl ?_;generalize hJ ((cK 43 k).map cN)=o;have z:=OH (f:=lD.int) o;refine bN (b:=o.isNone) (by fail "ev") (λq=>cx aY rfl ?_) (λq=>bb ?_)
   .cases o with
    |none=>rfl
    |some _=>cases q
   .cases o with
    |none=>cases q
    |some p=>fail "go";rfl
 .have e:=BM (ws.length:Int) 3;rw[a5 (by ext)]at e;refine bN (b:=OK) (cX (a:=OK) (b:=OK) (by fail "ev") λz=>by cases z) (λq=>cx aY rfl ?_) (λq=>by cases q);rw[ED d];rfl
def zC:c5 (c5 Int×c5 Int)->D
 |some (x,y)=>lD.tuple [oI x,oI y]
 |none=>lD.none
theorem v8{ws:cM (cM Nat)}(h:JC ws):io [.list (ws.map aO),.bool OK]=.ok (.fz (zC (fT ws))):=by
 have l:=sg ws;refine cA (ρ:=[-(.list (ws.map aO)),-(.bool OK)]) rfl ?_;unfold mE;refine bN (b:=OK) (by fail "ev") (λ_=>ia ?_) (λq=>by cases q);by_cases c:ws.length=4
 .obtain⟨k,a,w,b,rfl⟩:=Ob c
  have g:=h.2 k (by simp);have ha:=h.2 a (by simp);have f:=h.2 w (by simp);have d:=h.2 b (by simp);have p:bx (.list ([k,a,w,b].map aO)) (.int 0)=-(aO k):=rR;have o:bx (.list ([k,a,w,b].map aO)) (.int 1)=-(aO a):=Ap;have n:bx (.list ([k,a,w,b].map aO)) (.int 2)=-(aO w):=nw (by decide) rfl;have m:bx (.list ([k,a,w,b].map aO)) (.int 3)=-(aO b):=nw (by decide) rfl;have t:=NY g.2;have r:=NK f.2;have j:=ko ha.1 ha.2;have i:=ko d.1 d.2;refine bN (b:=Rh||(!decide (k=wK)|| !decide (w=wW))) (cX (by fail "ev") λ_=>cX (by fail "ev") λ_=>by fail "ev") (λq=>cx aY rfl ?_) (λq=>bb ?_)
  .rw[Sz]at q;rw[uK,ak q];rfl
  .rw[Sz]at q;rw[uK,ar (by rw[q];exact Rg)];fail "go";rfl
 .have e:=BM (ws.length:Int) 4;rw[a5 (by ext)]at e;refine bN (b:=OK) (cX (a:=OK) (b:=OK) (by fail "ev") λz=>by cases z) (λq=>cx aY rfl ?_) (λq=>by cases q);rw[Bm c];rfl
def kA(w:cM Nat)(r:cM (cM Nat)):D:=if w=wL then lD.tuple (r.map λx=>mK mG (lC x))else match r with
 |[k,l]=>if(!decide (w=wC)|| !eY l)=OK then lD.none else lD.tuple ((cK 43 k).map λx=>mK lD.int (cN x))
 |_=>lD.none
theorem two{r:cM (cM Nat)}(h:r.length=2):∃k l,r=[k,l]:=by
 match r,h with
 |[k,l],_=>exact⟨k,l,rfl⟩
theorem CY{w:cM Nat}{r:cM (cM Nat)}(h:JC (w::r)):io [.list ((w::r).map aO),.bool Rh]=.ok (.fz (kA w r)):=by
 have A:=sg (w::r);have t:=h.2 w Ri;have E:bx (.list ((w::r).map aO)) (.int 0)=-(aO w):=rR;have H:=Ou t.2;have G:=NP t.2;refine cA (ρ:=[-(.list ((w::r).map aO)),-(.bool Rh)]) rfl ?_;unfold mE;refine bN (b:=Rh) (by fail "ev") (λq=>by cases q) (λ_=>bb ?_);unfold kA;refine bN (b:=decide (w=wL)) (by fail "ev") (λq=>?_) (λq=>bb ?_)
 .rw[ak (a6 q)]
  have I:wm (.list ((w::r).map aO)) (ax 1) cL=ax (.ow (r.map aO)):=Ly;have m:jS (d8 (gN 0) bZ (bu iJ 1 {ae 0}) (r.map aO) [cL] [])=.ok (r.map λx=>mK mG (lC x)):=j6 (f:=aO) (g:=λx=>mK mG (lC x)) r (by have:=h.1;simp only[Rk]at this;ext) rfl λx i=>by have i:=h.2 x (Rm _ i);have e:=HW i.1 i.2;rw[JO]at e;exact hV (rv:=.fz (mK mG (lC x))) (by fail "ev") rfl rfl e
  exact cx (dk (rv:=.fz (lD.tuple (r.map λx=>mK mG (lC x)))) (am (cP (gc (d:=.list (r.map aO)) (by fail "ev") rfl rfl) rfl m) aD) rfl rfl) rfl rfl
 .rw[ar (of_decide_eq_false q)]
  by_cases p:r.length=2
  .obtain⟨k,l,rfl⟩:=two p
   have j:=h.2 k (by simp);have v:=h.2 l (by simp);have C:bx (.list ([w,k,l].map aO)) (.int 1)=-(aO k):=Ap;have B:bx (.list ([w,k,l].map aO)) (.int 2)=-(aO l):=nw (by decide) rfl;have F:=iY v.1;have n:lD.str "+"=aO [43]:=by show lD.str _=lD.str _;congr 1
   have o:=kb (c:=43) j.1;rw[<-n]at o;have a:=e8 43 k;refine bN (b:= !decide (w=wC)||(Rh|| !eY l)) (cX (by fail "ev") λ_=>cX (by fail "ev") λ_=>dU (by fail "ev")) (λq=>cx aY rfl ?_) (λq=>bb ?_)
   .rw[Sz]at q;dsimp only;rw[ak q]
   .rw[Sz]at q
    dsimp only;rw[ar (by rw[q];exact Rg)];have m:jS (d8 (gN 0) bZ (bu c7 1 {ae 0}) ((cK 43 k).map aO) [cL] [])=.ok ((cK 43 k).map λx=>mK lD.int (cN x)):=j6 (f:=aO) (g:=λx=>mK lD.int (cN x)) (cK 43 k) (by have:=a.2;have:=j.1;ext) rfl λx i=>by have e:=ko (s:=x) (by have:=(a.1 x i).2.1;have:=j.1;ext) (λc y=>j.2 c ((a.1 x i).2.2 c y));rw[Jt]at e;exact hV (rv:=.fz (mK lD.int (cN x))) (by fail "ev") rfl rfl e
    exact bX (dk (rv:=.fz (lD.tuple ((cK 43 k).map λx=>mK lD.int (cN x)))) (am (cP (gc (d:=.list ((cK 43 k).map aO)) (jH (by fail "ev") rfl (am aY aD) rfl o) rfl rfl) rfl m) aD) rfl rfl) rfl rfl
  .have u:=BM ((w::r).length:Int) 3
   rw[a5 (by simp only[Rk];ext)]at u;refine bN (b:= !decide (w=wC)||(OK||true)) (cX (by fail "ev") λ_=>cX (b:=OK) (by fail "ev") λz=>by cases z) (λq=>cx aY rfl ?_) (λq=>by simp at q);split
   .exact a7 rfl p
   .rfl
theorem xH{α:Type}{l:cM (c5 α)}{r:cM α}(h:hJ l=ax r):l=r.map ax:=by
 induction l generalizing r with
 |nil=>cases h;rfl
 |cons o l b=>
  cases o with
  |none=>cases h
  |some a=>have h:(hJ l).map (a::·)=ax r:=h;obtain⟨s,c,rfl⟩:=TJ.mp h;rw[RJ,b c]
abbrev Ps:=cM (cM Mg)×cM (cM Int×cM Nat)
def iz(st:Ps)(row:cM Nat):c5 Ps:=match ja (cK 32 row),st.2 with
 |some l,[]=>ax (st.1++[l],[])
 |_,_=>(jP (cK 32 row)).map λc=>(st.1,st.2++[c])
def ic(rows:cM (cM Nat)):c5 Ps:=rows.foldlM iz ([],[])
theorem iV(rs:cM (cM Nat))(r:cM Nat):ic (rs++[r])=(ic rs).bind λst=>iz st r:=by unfold ic;rw[Yr];show(agc iz ([],[]) rs>>=λst=>(iz st r).bind ax)=_;congr 1;funext st;cases iz st r<;>rfl
theorem DC(rows:cM (cM Nat)):∀n,n<=rows.length->(∃st,ic (rows.take n)=ax st)\/∃k st r,k<n/\rows[k]?=ax r/\ic (rows.take k)=ax st/\iz st r=cL:=by
 intro n
 induction n with
 |zero=>intro _;exact .inl ⟨([],[]),rfl⟩
 |succ n b=>
  intro hn;rcases b (by ext)with⟨st,e⟩|⟨k,st,r,f,c⟩
  .obtain⟨r,a⟩:∃r,rows[n]?=ax r:=⟨_,Rj (by ext)⟩
   have t:rows.take (n+1)=rows.take n++[r]:=by rw[Tc,a];rfl
   cases q:iz st r with
   |none=>exact .inr ⟨n,st,r,by ext,a,e,q⟩
   |some d=>exact .inl ⟨d,by rw[t,iV,e];exact q⟩
  .exact .inr ⟨k,st,r,by ext,c⟩
def Ms:FS:=(aF (bp (pT fX (ae 6) {pC (.str " ")}) (gN 7))
 (aF (bp (bu iB 1 {ae 7}) (gN 8))
 (aF (bp (bu i4 1 {ae 7}) (gN 9))
 (dJ (gw (ay (aA wk (ae 8) (pC .none))) (ay (aA dq (ae 4) (cH aj)))) (d7 (lx 3 (ae 8))) (dJ (ay (aA wk (ae 9) (pC .none))) (d7 (lx 4 (ae 9))) (L9.jE "NoText" "row" (ae 5)))))))
abbrev eR(a b c:c5 PV)(ls:cM (cM Mg))(cs:cM (cM Int×cM Nat))(e d o7 o8 o9:c5 PV):bA:=[a,b,c,ax (.ow (ls.map fA)),ax (.ow (cs.map ef)),e,d,o7,o8,o9]
theorem Ku{c:cM Int×cM Nat}(h:kn c.2):lD.canLay0 (ef c)=OK:=by show(lD.canLayAll0 (c.1.map lD.int)&&(lD.strOk (tx c.2)&&OK))=OK;rw[Hw,kZ h];rfl
theorem Lu{cs:cM (cM Int×cM Nat)}(h:∀c∈cs,kn c.2):dq (.list (cs.map ef)) (.list [])=-(.bool (decide (cs=[]))):=by
 have b:lD.canLayAll0 (cs.map ef)=OK:=oJ λc a=>Ku (h c a);have d:lD.depthAll (cs.map ef)<=2:=tE λc a=>by
  show max (lD.depth (kD c.1)) (max 0 0)+1<=2;have:lD.depth (kD c.1)<=1:=by show lD.depthAll (c.1.map lD.int)+1<=1;rw[EV];ext
  ext
 have ok:mr (.list (cs.map ef))=OK:=by unfold mr;rw[show lD.canLay0 (.list (cs.map ef))=lD.canLayAll0 (cs.map ef)from rfl,b,WL];exact a4 (by show lD.depthAll (cs.map ef)+1<=64;ext)
 show(if(mr (.list (cs.map ef))&&OK)=OK then ax (RV.fz (.bool (lD.eqv (.list (cs.map ef)) (.list []))))else cL)=_;rw[ok];cases cs<;>rfl
theorem M8{a b c f d o7 o8 o9:c5 PV}{ls:cM (cM Mg)}{cs:cM (cM Int×cM Nat)}{e:cM Int×cM Nat}:(eR a b c ls cs f d o7 o8 o9).set 4 (ax (.ow (cs.map ef++[ef e])))=eR a b c ls (cs++[e]) f d o7 o8 o9:=by unfold eR;rw[S6];rfl
theorem P2{a b c e d o7 o8 o9:c5 PV}{ls:cM (cM Mg)}{cs:cM (cM Int×cM Nat)}{l:cM Mg}:(eR a b c ls cs e d o7 o8 o9).set 3 (ax (.ow (ls.map fA++[fA l])))=eR a b c (ls++[l]) cs e d o7 o8 o9:=by unfold eR;rw[S6];rfl
theorem HC{a b c o7 o8 o9:c5 PV}{ls:cM (cM Mg)}{cs:cM (cM Int×cM Nat)}(F:ls.length<=1000)(hs:cs.length<=1000)(v:∀c∈cs,kn c.2){p:Nat}(n:p<=1000){row:cM Nat}(E:row.length<=900)(u:kn row):
  Ms (eR a b c ls cs (-(nd p)) (-(aO row)) o7 o8 o9)=match iz (ls,cs) row with
   |some j=>.ok (.nx (eR a b c j.1 j.2 (-(nd p)) (-(aO row)) (-(.list ((cK 32 row).map aO))) (-(lY mG (ja (cK 32 row)))) (-(mK ef (jP (cK 32 row))))))
   |none=>.er ⟨"NoText",[("row",nd p)]⟩:=by
 have i:lD.str " "=aO [32]:=by show lD.str _=lD.str _;congr 1
 have k:=kb (c:=32) (l:=row) (by ext);rw[<-i]at k;have h:=e8 32 row;have f:JC (cK 32 row):=⟨by have:=h.2;ext,λw m=>⟨by have:=(h.1 w m).2.1;ext,λx t=>u x ((h.1 w m).2.2 x t)⟩⟩;obtain⟨C,B,y⟩:=hW 32 row;have r:=IC f (by rw[y,Rk];ext);have A:=HS f;unfold Ms;refine(eV (ip (ρ3:=eR a b c ls cs (-(nd p)) (-(aO row)) (ax (.ow ((cK 32 row).map aO))) o8 o9) (jH (aw rfl) rfl (am aY aD) rfl k) rfl rfl)).trans ?_;refine(eV (ip (pv:=.fz (lY mG (ja (cK 32 row)))) (ρ1:=eR a b c ls cs (-(nd p)) (-(aO row)) (-(.list ((cK 32 row).map aO))) o8 o9) (ρ3:=eR a b c ls cs (-(nd p)) (-(aO row)) (-(.list ((cK 32 row).map aO))) (-(lY mG (ja (cK 32 row)))) o9) (hV (rv:=.fz (lY mG (ja (cK 32 row)))) (am (dA rfl) aD) rfl rfl r) rfl rfl)).trans ?_;refine(eV (ip (ρ3:=eR a b c ls cs (-(nd p)) (-(aO row)) (-(.list ((cK 32 row).map aO))) (-(lY mG (ja (cK 32 row)))) (-(mK ef (jP (cK 32 row))))) (hV (rv:=.fz (mK ef (jP (cK 32 row)))) (am (aw rfl) aD) rfl rfl A) rfl rfl)).trans ?_;have q:wk (lY mG (ja (cK 32 row))) .none=-(.bool (ja (cK 32 row)).isSome):=by cases ja (cK 32 row)<;>rfl
 have g:wk (mK ef (jP (cK 32 row))) .none=-(.bool (jP (cK 32 row)).isSome):=by cases jP (cK 32 row)<;>rfl
 have z:=Lu v;unfold iz;generalize ja (cK 32 row)=ly at q;generalize jP (cK 32 row)=ch at g;have d:gw (ay (aA wk (ae 8) (pC .none))) (ay (aA dq (ae 4) (cH aj))) (eR a b c ls cs (-(nd p)) (-(aO row)) (-(.list ((cK 32 row).map aO))) (-(lY mG ly)) (-(mK ef ch)))=.ok (ly.isSome&&decide (cs=[]),eR a b c ls cs (-(nd p)) (-(aO row)) (-(.list ((cK 32 row).map aO))) (-(lY mG ly)) (-(mK ef ch))):=by refine dG (by fail "ev") λ_=>?_;exact a9 (bW (dx:=.list (cs.map ef)) (dy:=.list []) (dA rfl) (by fail "ev") rfl rfl z) rfl
 cases ly with
 |none=>
  refine(xU d).trans ?_;cases ch with
  |none=>refine(xU (a9 (bW (aw rfl) aY rfl rfl g) rfl)).trans ?_;exact oU (aw rfl) rfl (o0 n)
  |some e=>refine(vm (a9 (bW (aw rfl) aY rfl rfl g) rfl)).trans ?_;exact jw (kF (es:=cs.map ef) (ds:=cs.map ef) rfl (aw rfl) rfl rfl (by rw[CL];ext) M8)
 |some l=>
  cases cs with
  |nil=>refine(vm d).trans ?_;exact jw (kF (es:=ls.map fA) (ds:=ls.map fA) rfl (aw rfl) rfl rfl (by rw[CL];ext) P2)
  |cons c0 o=>
   refine(xU d).trans ?_;cases ch with
   |none=>refine(xU (a9 (bW (aw rfl) aY rfl rfl g) rfl)).trans ?_;exact oU (aw rfl) rfl (o0 n)
   |some e=>refine(vm (a9 (bW (aw rfl) aY rfl rfl g) rfl)).trans ?_;exact jw (kF (es:=(c0::o).map ef) (ds:=(c0::o).map ef) rfl (aw rfl) rfl rfl (by rw[CL];ext) M8)
theorem yG{P:Ps->Prop}:∀(rows:cM (cM Nat)) (a st:Ps),(∀s r s',r∈rows->P s->iz s r=ax s'->P s')->P a->rows.foldlM iz a=ax st->P st:=by
 intro rows
 induction rows with
 |nil=>intro a st _ b e;cases e;exact b
 |cons r f h=>
  intro a st d b e;have e:(iz a r).bind (λs=>f.foldlM iz s)=ax st:=e;cases q:iz a r with
  |none=>rw[q]at e;cases e
  |some c=>rw[q]at e;exact h c st (λs g s' i=>d s g s' (Rm _ i)) (d a r c Ri b q) e
theorem Ae{s a:Ps}{r:cM Nat}(h:iz s r=ax a):(∃l,ja (cK 32 r)=ax l/\a=(s.1++[l],s.2))\/∃c,jP (cK 32 r)=ax c/\a=(s.1,s.2++[c]):=by
 unfold iz at h;split at h
 .rename_i l d b;cases h;exact .inl ⟨l,d,by rw[b]⟩
 .obtain⟨c,e,rfl⟩:=TJ.mp h;exact .inr ⟨c,e,rfl⟩
theorem Fg:∀(rows:cM (cM Nat)) (a st:Ps),rows.foldlM iz a=ax st->st.1.length+st.2.length=a.1.length+a.2.length+rows.length:=by
 intro rows
 induction rows with
 |nil=>intro a st e;cases e;rfl
 |cons r d f=>
  intro a st e;have e:(iz a r).bind (λs=>d.foldlM iz s)=ax st:=e;cases q:iz a r with
  |none=>rw[q]at e;cases e
  |some b=>
   rw[q]at e;have:=f b st e;rcases Ae q with⟨l,_,rfl⟩|⟨c,_,rfl⟩
   .simp only[Ry,Rk,TR]at this⊢;ext
   .simp only[Ry,Rk,TR]at this⊢;ext
theorem JQ{ws:cM (cM Nat)}{c:cM Int×cM Nat}(h:jP ws=ax c):∃w k,ws=[w,k,c.2]/\eY c.2=OK/\hJ ((cK 43 k).map cN)=ax c.1:=by
 by_cases a:ws.length=3
 .obtain⟨w,k,l,rfl⟩:=Jn a
  rw[Ew]at h;split at h
  .cases h
  .rename_i q;obtain⟨b,e,rfl⟩:=TJ.mp h;simp only[ZH,UX,not_or,Bool.not_eq_false]at q;exact⟨w,k,rfl,q.2,e⟩
 .rw[ED a]at h;cases h
structure Yj(rows:cM (cM Nat)):Prop where
 n:rows.length<=300
 r:∀x∈rows,x.length<=390/\kn x
theorem uD{rows:cM (cM Nat)}(h:Yj rows){st:Ps}(e:ic rows=ax st):st.1.length+st.2.length=rows.length/\∀c∈st.2,kn c.2:=by
 refine⟨by have:=Fg rows _ st e;simpa using this,?_⟩;refine yG (P:=λst=>∀c∈st.2,kn c.2) rows _ st (λs r n g b q=>?_) (λc i=>by cases i) e;rcases Ae q with⟨l,_,rfl⟩|⟨c,m,rfl⟩
 .exact b
 .intro d a
  rcases Sv.mp a with a|a
  .exact b d a
  .obtain rfl:=RA.mp a;obtain⟨w,k,j,_⟩:=JQ m;exact λx f=>(h.r r g).2 x (((e8 32 r).1 d.2 (by rw[j];simp)).2.2 x f)
theorem Yj.take{rows:cM (cM Nat)}(h:Yj rows)(n:Nat):Yj (rows.take n):=⟨by rw[Sd];have:=h.n;ext,λx a=>h.r x (U3 a)⟩
theorem Dt{a:FA}{es:cM D}{ρ ρ1 ρ2:bA}{ps:cM PV}{d:D}(ha:a ρ=.ok (ps,ρ1))(hd:lN ρ1 ps=ax ([d],ρ2))(hs:g9 d=ax es):uF a ρ=.ok (cB 1 es,ρ2):=by unfold uF;rw[ha,fu,hd,aR,fu];dsimp only;rw[hs,aR,fu]
theorem yF{rs:cM (cM Nat)}{i:Nat}{d:D}(h:(cB 1 (rs.map aO))[i]?=ax d):∃r,rs[i]?=ax r/\d=.tuple [nd (1+i),aO r]:=by obtain⟨x,a,rfl⟩:=wZ _ _ _ _ h;rw[Rt]at a;obtain⟨r,b,rfl⟩:=TJ.mp a;exact⟨r,b,rfl⟩
theorem vS(rs:cM (cM Nat)):(cB 1 (rs.map aO)).length=rs.length:=by
 apply Nat.le_antisymm
 .apply Ze;intro h;obtain⟨d,b⟩:∃d,(cB 1 (rs.map aO))[rs.length]?=ax d:=⟨_,Rj h⟩;obtain⟨r,a,_⟩:=yF b;obtain⟨c,_⟩:=Rp.mp a;ext
 .apply Ze;intro h;have:(cB 1 (rs.map aO))[(cB 1 (rs.map aO)).length]?=cL:=UT (Rr _);rw[iO,Rt,Rj h]at this;cases this
section
variable{t r0:cM Nat}{rs:cM (cM Nat)}
abbrev eT(t r0:cM Nat)(rs:cM (cM Nat))(nm b a:c5 PV):bA:=[-(aO t),ax (.ow ((r0::rs).map aO)),nm,b,a,cL,cL,cL,cL,cL]
theorem wx(r:t.length<=900)(o:kn t)(e:cK 10 t=r0::rs){g:FS}:aF (bp (pT fX (ae 0) {pC (.str "\n")}) (gN 1)) (aF (bp (bu gP 1 {pT fX (aA bx (ae 1) (~~~0)) {pC (.str " ")}}) (gN 2)) g) [-(aO t),cL,cL,cL,cL,cL,cL,cL,cL,cL]=g (eT t r0 rs (-(Mu (fT (cK 32 r0)))) cL cL):=by
 have b:lD.str "\n"=aO [10]:=by show lD.str _=lD.str _;congr 1
 have d:lD.str " "=aO [32]:=by show lD.str _=lD.str _;congr 1
 have q:=e8 10 t;have p:=q.1 r0 (by rw[e];exact Ri);have h:=kb (c:=10) (l:=t) (by ext);rw[e,<-b]at h;have f:=kb (c:=32) (l:=r0) (by ext);rw[<-d]at f;have a:=e8 32 r0;have j:=Dw (ws:=cK 32 r0) ⟨by have:=a.2;ext,λw i=>⟨by have:=(a.1 w i).2.1;ext,λx m=>o x (p.2.2 x ((a.1 w i).2.2 x m))⟩⟩;have k:bx (.list ((r0::rs).map aO)) (.int 0)=-(aO r0):=rR;refine(eV (ip (ρ3:=eT t r0 rs cL cL cL) (jH (rv:=.ow ((r0::rs).map aO)) (aw rfl) rfl (am aY aD) rfl h) rfl rfl)).trans ?_;exact eV (ip (ρ3:=eT t r0 rs (-(Mu (fT (cK 32 r0)))) cL cL) (hV (rv:=.fz (Mu (fT (cK 32 r0)))) (am (jH (rv:=.ow ((cK 32 r0).map aO)) (bK (rv:=.fz (aO r0)) (dA rfl) aY rfl rfl k) rfl (am aY aD) rfl f) aD) rfl rfl j) rfl rfl)
theorem Eh(a:t.length<=900)(b:kn t)(e:cK 10 t=r0::rs)(hn:Mu (fT (cK 32 r0))=.none):cR [aO t]=.er ⟨"NoText",[("row",nd 0)]⟩:=by refine jX (ρ:=[-(aO t),cL,cL,cL,cL,cL,cL,cL,cL,cL]) rfl ?_;unfold iv;refine(wx a b e).trans ?_;rw[hn];exact nK ((vm (a9 (bW (aw rfl) aY rfl rfl (show lw .none .none=-(.bool OK)from rfl)) rfl)).trans (oU aY rfl rfl))
end
section
variable{t r0:cM Nat}{rs:cM (cM Nat)}
abbrev eL(t r0:cM Nat)(rs:cM (cM Nat))(x y:Int)(ls:cM (cM Mg))(cs:cM (cM Int×cM Nat))(b a o7 o8 o9:c5 PV):bA:=eR (-(aO t)) (ax (.ow ((r0::rs).map aO))) (-(.tuple [.int x,.int y])) ls cs b a o7 o8 o9
def IL(t r0:cM Nat)(rs:cM (cM Nat))(x y:Int)(i:Nat)(ρ:bA):Prop:=∃ls cs o5 o6 o7 o8 o9,ρ=eL t r0 rs x y ls cs o5 o6 o7 o8 o9/\ic (rs.take i)=ax (ls,cs)
abbrev P0:FG:=gT 2 (rD (gN 5) (rD (gN 6) B8))
theorem xw{x y:Int}{b a o7 o8 o9:c5 PV}:uF {kQ Jj (ae 1) (cG (~~~1)) dm} (eL t r0 rs x y [] [] b a o7 o8 o9)=.ok (cB 1 (rs.map aO),eL t r0 rs x y [] [] b a o7 o8 o9):=by have c:Jj (.list ((r0::rs).map aO)) (ax 1) cL=ax (.ow (rs.map aO)):=Ly;exact Dt (d:=.list (rs.map aO)) (by fail "ev") rfl rfl
theorem Fa(h:Yj rs){x y:Int}{i:Nat}{d:D}{ρ:bA}(hd:(cB 1 (rs.map aO))[i]?=ax d)(o:IL t r0 rs x y i ρ):∃ρ1 r ls cs,P0 (.fz d) ρ=.ok ρ1/\rs[i]?=ax r/\ic (rs.take i)=ax (ls,cs)/\((∃ρ2,Ms ρ1=.ok (.nx ρ2)/\IL t r0 rs x y (i+1) ρ2)\/(iz (ls,cs) r=cL/\Ms ρ1=.er ⟨"NoText",[("row",nd (1+i))]⟩)):=by
 obtain⟨r,e,rfl⟩:=yF hd;obtain⟨ls,cs,v,u,o7,o8,o9,rfl,j⟩:=o;have hi:i<rs.length:=(Rp.mp e).1;have hn:=h.n;have g:=uD (h.take i) j;have lt:=Sd (i:=i) (l:=rs);have m:=h.r r (RU e);have f:=HC (a:=-(aO t)) (b:=ax (.ow ((r0::rs).map aO))) (c:=-(.tuple [.int x,.int y])) (o7:=o7) (o8:=o8) (o9:=o9) (ls:=ls) (cs:=cs) (by have:=g.1;dsimp only at this;ext) (by have:=g.1;dsimp only at this;ext) g.2 (p:=1+i) (by ext) (row:=r) (by ext) m.2;refine⟨eL t r0 rs x y ls cs (-(nd (1+i))) (-(aO r)) o7 o8 o9,r,ls,cs,rfl,e,j,?_⟩;cases q:iz (ls,cs) r with
 |none=>rw[q]at f;exact .inr ⟨rfl,f⟩
 |some k=>rw[q]at f;refine .inl ⟨_,f,k.1,k.2,_,_,_,_,_,rfl,?_⟩;rw[Tc,e];show ic (rs.take i++[r])=_;rw[iV,j];exact q
theorem AI{x y:Int}{g:FS}:aF (dJ (ay (aA lw (ae 2) (pC .none))) (L9.jE "NoText" "row" (~~~0)) bq) (aF (bp (cH aj) (gN 3)) (aF (bp (cH aj) (gN 4)) g)) (eT t r0 rs (-(.tuple [.int x,.int y])) cL cL)=g (eL t r0 rs x y [] [] cL cL cL cL cL):=by refine(eV ((xU (a9 (bW (aw rfl) aY rfl rfl (show lw (.tuple [.int x,.int y]) .none=-(.bool Rh)from rfl)) rfl)).trans rfl)).trans ?_;refine(eV (ip (ρ3:=eT t r0 rs (-(.tuple [.int x,.int y])) (ax (.ow [])) cL) (by fail "ev") rfl rfl)).trans ?_;exact eV (ip (by fail "ev") rfl rfl)
theorem qw{i k:Nat}(hi:i<=k){st:Ps}(h:ic (rs.take k)=ax st):∃s,ic (rs.take i)=ax s:=by
 have e:rs.take k=rs.take i++(rs.take k).drop i:=by have:=(TY i (rs.take k)).symm;rwa [List.take_take,ZQ hi]at this
 rw[e]at h;unfold ic at h⊢;rw[Yr]at h;cases q:agc iz ([],[]) (rs.take i)with
 |none=>rw[q]at h;cases h
 |some s=>exact⟨s,rfl⟩
theorem El(E:t.length<=900)(F:kn t)(e:cK 10 t=r0::rs)(A:Yj rs){x y:Int}(hn:fT (cK 32 r0)=ax (ax x,ax y)){k:Nat}{st:Ps}{r:cM Nat}(p:rs[k]?=ax r)(z:ic (rs.take k)=ax st)(C:iz st r=cL):cR [aO t]=.er ⟨"NoText",[("row",nd (1+k))]⟩:=by
 refine jX (ρ:=[-(aO t),cL,cL,cL,cL,cL,cL,cL,cL,cL]) rfl ?_;unfold iv;refine(wx E F e).trans ?_;rw[hn];refine AI.trans (nK ((nJ xw).trans ?_));refine uq (IL t r0 rs x y) k 0 _ _ (by rw[vS];exact(Rp.mp p).1) ⟨[],[],_,_,_,_,_,rfl,rfl⟩ ?_ ?_
 .intro i d ρ hi q g
  rw[Wf]at g⊢;obtain⟨a,l,f,h,v,n,m,u⟩:=Fa A q g;rcases u with⟨c,j,b2⟩|⟨j,b2⟩
  .exact⟨a,c,v,j,b2⟩
  .exfalso;obtain⟨B,b⟩:=qw (i:=i+1) (by ext) z;rw[Tc,n]at b;have b:ic (rs.take i++[l])=ax B:=b;rw[iV,m]at b;rw[show(ax (f,h)).bind (λst=>iz st l)=iz (f,h) l from rfl,j]at b;cases b
 .intro d ρ q g
  rw[Wf]at g;obtain⟨a,l,f,h,v,n,m,u⟩:=Fa A q g;rw[p]at n;cases n;rw[z]at m;cases m;rcases u with⟨c,j,o,w,_,_,_,_,_,rfl,b2⟩|⟨j,b2⟩
  .exfalso;rw[Tc,p]at b2;have b2:ic (rs.take k++[r])=ax (o,w):=b2;rw[iV,z]at b2;rw[show(ax (f,h)).bind (λst=>iz st r)=iz (f,h) r from rfl,C]at b2;cases b2
  .exact⟨a,v,b2⟩
theorem Bl(r:Yj rs){x y:Int}{st:Ps}(n:ic rs=ax st):∃o5 o6 o7 o8 o9,sW P0 Ms (cB 1 (rs.map aO)) (eL t r0 rs x y [] [] cL cL cL cL cL)=.ok (.nx (eL t r0 rs x y st.1 st.2 o5 o6 o7 o8 o9)):=by
 obtain⟨o,A,g,h,o5,o6,o7,o8,o9,rfl,m⟩:=Gp (gt:=P0) (b:=Ms) (ds:=cB 1 (rs.map aO)) (ρ:=eL t r0 rs x y [] [] cL cL cL cL cL) (IL t r0 rs x y) ⟨[],[],_,_,_,_,_,rfl,rfl⟩ (by
  intro i d ρ q u;obtain⟨e,f,g,h,z,l,w,v⟩:=Fa r q u;rcases v with⟨c,j,b2⟩|⟨j,b2⟩
  .exact⟨e,c,z,.inl j,b2⟩
  .exfalso;have B:=(Rp.mp l).1;obtain⟨p,a⟩:=qw (rs:=rs) (i:=i+1) (k:=rs.length) (by ext) (by rw[UD];exact n);rw[Tc,l]at a;have a:ic (rs.take i++[f])=ax p:=a;rw[iV,w]at a;rw[show(ax (g,h)).bind (λst=>iz st f)=iz (g,h) f from rfl,j]at a;cases a)
 rw[vS,UD,n]at m;cases m;exact⟨o5,o6,o7,o8,o9,A⟩
theorem DT{x y:Int}{ls:cM (cM Mg)}{cs:cM (cM Int×cM Nat)}{b a o7 o8 o9:c5 PV}:{cU {aA bx (ae 2) (~~~0),dD kN {ae 3},dD kN {ae 4},aA bx (ae 2) (~~~1)}} (eL t r0 rs x y ls cs b a o7 o8 o9)=.ok ([.fz (gD ⟨x,ls,cs,y⟩)],eL t r0 rs x y ls cs b a o7 o8 o9):=by have d:bx (.tuple [.int x,.int y]) (.int 0)=-(.int x):=kR;have c:bx (.tuple [.int x,.int y]) (.int 1)=-(.int y):=vi;exact am (jd (am (bK (rv:=.fz (.int x)) (aw rfl) aY rfl rfl d) (am (dk (rv:=.fz (.tuple (ls.map fA))) (am (dA rfl) aD) rfl rfl) (am (dk (rv:=.fz (.tuple (cs.map ef))) (am (dA rfl) aD) rfl rfl) (am (bK (rv:=.fz (.int y)) (aw rfl) aY rfl rfl c) aD)))) rfl (show 4<=1000 by decide)) aD
theorem Ka{fe:FE}{ρ:bA}{x:Xc}(h:fe ρ=.er x):bG fe ρ=.er x:=by unfold bG;rw[h];rfl
theorem HH(b:t.length<=900)(c:kn t)(e:cK 10 t=r0::rs)(d:Yj rs){x y:Int}(hn:fT (cK 32 r0)=ax (ax x,ax y)){st:Ps}(f:ic rs=ax st){v:Xc}(a:dR [gD ⟨x,st.1,st.2,y⟩]=.er v):cR [aO t]=.er v:=by refine jX (ρ:=[-(aO t),cL,cL,cL,cL,cL,cL,cL,cL,cL]) rfl ?_;unfold iv;refine(wx b c e).trans ?_;rw[hn];obtain⟨k,j,i,h,g,lp⟩:=Bl (t:=t) (r0:=r0) d (x:=x) (y:=y) f;refine AI.trans ((eV ((nJ xw).trans lp)).trans ?_);exact Ka (tJ (ds:=[gD ⟨x,st.1,st.2,y⟩]) DT rfl rfl a)
theorem Bw(b:t.length<=900)(c:kn t)(e:cK 10 t=r0::rs)(f:Yj rs){x y:Int}(hn:fT (cK 32 r0)=ax (ax x,ax y)){st:Ps}(g:ic rs=ax st){d:D}(a:dR [gD ⟨x,st.1,st.2,y⟩]=.ok (.fz d)):cR [aO t]=.ok (.fz d):=by refine cA (ρ:=[-(aO t),cL,cL,cL,cL,cL,cL,cL,cL,cL]) rfl ?_;unfold iv;refine .eq (wx b c e) ?_;rw[hn];obtain⟨l,k,j,i,h,lp⟩:=Bl (t:=t) (r0:=r0) f (x:=x) (y:=y) g;refine .eq (AI.trans (eV ((nJ xw).trans lp))) ?_;exact bX (k7 (ds:=[gD ⟨x,st.1,st.2,y⟩]) DT rfl rfl a) rfl rfl
end
def MS:FS:=(aF (bp (bu io 2 {aA bx (ae 1) (ae 4),aA dq (ae 4) (~~~0)}) (gN 5))
 (aF (dJ (kL (ay (aA lw (ae 5) (pC .none))) (kL (ay (aA lu (pC .none) (ae 5))) (ay (aA dq (dD dc {ae 5}) (~~~0))))) (bG (cU {~~~2,ae 4,pC .none})) bq)
 (dJ (gw (ay (aA ug (ae 4) (~~~0))) (ay (aA dq (aA bx (aA bx (ae 1) (ae 4)) (~~~0)) (pC (.str "layer"))))) (aF (dJ (ay (aA ug (dD dc {ae 3}) (~~~0))) (bG (cU {~~~2,ae 4,pC .none})) bq)
 (d7 (lx 2 (ae 5)))) (dJ (ay (aA ug (ae 4) (~~~0))) (d7 (lx 3 (cU {ae 5,aA bx (aA bx (ae 1) (ae 4)) (~~~2)}))) bq))))
def Ar(r:cM Nat):D:=.list ((cK 32 r).map aO)
abbrev eQ(t r0:cM Nat)(rs:cM (cM Nat))(ls:cM (cM Mg))(cs:cM (cM Int×cM Nat))(b a:c5 PV):bA:=[-(aO t),ax (.ow ((r0::rs).map Ar)),ax (.ow (ls.map fA)),ax (.ow (cs.map ef)),b,a,cL,cL]
def mz:D->Bool
 |.tuple ds=>(ds.any λe=>lD.eqv e .none)||decide ((ds.length:Int)=0)
 |_=>OK
def Mi(d:D):Prop:=d=.none\/∃ds,d=.tuple ds/\lD.canLayAll0 ds=OK
theorem Ee{d:D}(h:Mi d){ρ:bA}(c:ρ[5]?=ax (-(d))):kL (ay (aA lw (ae 5) (pC .none))) (kL (ay (aA lu (pC .none) (ae 5))) (ay (aA dq (dD dc {ae 5}) (~~~0)))) ρ=.ok (mz d,ρ):=by
 rcases h with rfl|⟨ds,rfl,hl⟩
 .exact cX (a:=OK) (b:=OK) (a9 (bW (aw c) aY rfl rfl (show lw .none .none=-(.bool OK)from rfl)) rfl) λz=>by cases z
 .have f:lu .none (.tuple ds)=-(.bool (ds.any λe=>lD.eqv e .none)):=by
   show(if(mr .none&&lD.canLayAll0 ds)=OK then ax (RV.fz (.bool (ds.any λe=>lD.eqv e .none)))else cL)=_;rw[hl,show mr .none=OK from rfl,Te,ak rfl]
  refine cX (a:=Rh) (b:=mz (.tuple ds)) (a9 (bW (aw c) aY rfl rfl (show lw (.tuple ds) .none=-(.bool Rh)from rfl)) rfl) λ_=>?_;exact cX (a9 (bW aY (aw c) rfl rfl f) rfl) λ_=>a9 (bW (dx:=.int (ds.length:Int)) (dy:=.int 0) (dk (rv:=.fz (.int (ds.length:Int))) (am (aw c) aD) rfl rfl) aY rfl rfl (jA _ _)) rfl
theorem Op(o:c5 (c5 Int×c5 Int)):Mi (zC o):=by
 cases o with
 |none=>exact .inl rfl
 |some p=>exact .inr ⟨_,rfl,by rcases p with⟨x,y⟩;cases x<;>cases y<;>rfl⟩
theorem EA{α:Type}{f:α->D}{c:Type}{g:c->c5 α}{l:cM c}(h:∀b∈l,∀a,g b=ax a->lD.canLay0 (f a)=OK):lD.canLayAll0 (l.map λb=>mK f (g b))=OK:=oJ λb d=>by
 cases q:g b with
 |none=>rfl
 |some a=>exact h b d a q
theorem Lr{w:cM Nat}{r:cM (cM Nat)}(h:JC (w::r)):Mi (kA w r):=by
 unfold kA;split
 .exact .inr ⟨_,rfl,EA λb c a e=>(F8 e (h.2 b (Rm _ c)).2).1⟩
 .split
  .split
   .exact .inl rfl
   .exact .inr ⟨_,rfl,EA λb c a e=>rfl⟩
  .exact .inl rfl
theorem EH{α:Type}{f:α->D}(h:∀a,lD.eqv (f a) .none=Rh){c:Type}(g:c->c5 α)(l:cM c):((l.map λb=>mK f (g b)).any λe=>lD.eqv e .none)=(hJ (l.map g)).isNone:=by
 induction l with
 |nil=>rfl
 |cons b r d=>
  rw[RJ,VN,d,RJ];cases g b with
  |none=>rfl
  |some a=>rw[show lD.eqv (mK f (ax a)) .none=Rh from h a,Sz];show _=((hJ (r.map g)).map (a::·)).isNone;cases hJ (r.map g)<;>rfl
theorem Ct{α:Type}{f:α->D}{a:Type}{g:a->c5 α}{l:cM a}{s:cM α}(h:hJ (l.map g)=ax s):(l.map λb=>mK f (g b))=s.map f:=by have:=xH h;rw[show(l.map λb=>mK f (g b))=(l.map g).map (mK f) by rw[Sw];rfl,this,Sw];rfl
theorem tj(ds:cM D):mz (.tuple ds)=((ds.any λe=>lD.eqv e .none)||decide ((ds.length:Int)=0)):=rfl
theorem Ig{w v:cM Nat}{a:cM (cM Nat)}:ja (w::v::a)=if w=wL then hJ ((v::a).map lC)else cL:=rfl
theorem MV{w k l:cM Nat}(q:¬w=wL):kA w [k,l]=if(!decide (w=wC)|| !eY l)=OK then lD.none else lD.tuple ((cK 43 k).map λx=>mK lD.int (cN x)):=by unfold kA;rw[ar q]
theorem Cs{w:cM Nat}{a:cM (cM Nat)}{r:cM Nat}(e:cK 32 r=w::a)(st:Ps):
  (mz (kA w a)=OK/\iz st r=cL)\/
  (mz (kA w a)=Rh/\w=wL/\∃l,kA w a=fA l/\((st.2=[]/\iz st r=ax (st.1++[l],[]))\/(st.2≠[]/\iz st r=cL)))\/
  (mz (kA w a)=Rh/\w≠wL/\∃c k,a=[k,c.2]/\kA w a=kD c.1/\iz st r=ax (st.1,st.2++[c])):=by
 unfold iz;rw[e];by_cases q:w=wL
 .have m:jP (w::a)=cL:=by
   unfold jP;split
   .rename_i c k l z;cases z;rw[ak (by rw[q];rfl)]
   .rfl
  have h:kA w a=lD.tuple (a.map λx=>mK mG (lC x)):=by unfold kA;rw[ak q]
  rw[m,h];cases a with
  |nil=>exact .inl ⟨rfl,by unfold ja;rfl⟩
  |cons v b=>
   have g:ja (w::v::b)=hJ ((v::b).map lC):=by rw[Ig,ak q]
   rw[g];have d:=EH (f:=mG) GP lC (v::b);cases al:hJ ((v::b).map lC)with
   |none=>exact .inl ⟨by rw[tj,d,al];rfl,rfl⟩
   |some l=>
    right;apply a8;refine⟨?_,q,l,by rw[Ct al];rfl,?_⟩
    .rw[tj,d,al,CL,Rk];show(Rh||decide (((b.length+1:Nat):Int)=0))=Rh;rw[a5 (by ext)];rfl
    .cases z:st.2 with
     |nil=>exact .inl ⟨rfl,rfl⟩
     |cons c0 t=>exact .inr ⟨(λy=>by cases y),rfl⟩
 .have g:ja (w::a)=cL:=by
   cases a with
   |nil=>rfl
   |cons v b=>rw[Ig,ar q]
  rw[g];by_cases i:a.length=2
  .obtain⟨k,l,rfl⟩:=two i
   rw[MV q,Ew];cases z:(!decide (w=wC)|| !eY l)with
   |true=>exact .inl ⟨rfl,rfl⟩
   |false=>
    rw[ar Rg,ar Rg];have d:=EH (f:=lD.int) Cm cN (cK 43 k);obtain⟨p,j,o⟩:=hW 43 k;cases al:hJ ((cK 43 k).map cN)with
    |none=>exact .inl ⟨by rw[tj,d,al];rfl,rfl⟩
    |some n=>right;right;refine⟨?_,q,(n,l),k,rfl,by rw[Ct al];rfl,rfl⟩;rw[tj,d,al,CL,o,Rk];show(Rh||decide (((j.length+1:Nat):Int)=0))=Rh;rw[a5 (by ext)];rfl
  .have h:kA w a=.none:=by
    unfold kA;rw[ar q];split
    .exact a7 rfl i
    .rfl
   rw[h,ED (by rw[Rk];ext)];exact .inl ⟨rfl,rfl⟩
section
variable{t r0:cM Nat}{rs:cM (cM Nat)}
theorem zN{r:cM Nat}(h:r.length<=900)(d:kn r):JC (cK 32 r):=by have a:=e8 32 r;exact⟨by have:=a.2;ext,λw b=>⟨by have:=(a.1 w b).2.1;ext,λx c=>d x ((a.1 w b).2.2 x c)⟩⟩
theorem zQ{k:Nat}{r:cM Nat}(h:(r0::rs)[k]?=ax r):bx (.list ((r0::rs).map Ar)) (nd k)=-(Ar r):=OY (by rw[Rt,h];rfl)
theorem PL{ls:cM (cM Mg)}{cs:cM (cM Int×cM Nat)}{c:cM Int×cM Nat}{b a:c5 PV}:(eQ t r0 rs ls cs b a).set 3 (ax (.ow (cs.map ef++[ef c])))=eQ t r0 rs ls (cs++[c]) b a:=by unfold eQ;rw[S6];rfl
theorem MU{ls:cM (cM Mg)}{cs:cM (cM Int×cM Nat)}{l:cM Mg}{b a:c5 PV}:(eQ t r0 rs ls cs b a).set 2 (ax (.ow (ls.map fA++[fA l])))=eQ t r0 rs (ls++[l]) cs b a:=by unfold eQ;rw[S6];rfl
theorem Bt(k:Nat):ug (nd k) (.int 0)=-(.bool (decide (0<k))):=by show ax (RV.fz (.bool (decide ((k:Int)>0))))=_;congr 3;apply decide_eq_decide.mpr;ext
theorem QR{ls:cM (cM Mg)}{cs:cM (cM Int×cM Nat)}{c:c5 PV}(i:r0.length<=900)(f:kn r0){N C:bA->Prop}{T:RV->Prop}(g:mz (zC (fT (cK 32 r0)))=OK->T (.fz (.tuple [.int 2,nd 0,.none])))(h:mz (zC (fT (cK 32 r0)))=Rh->∀c,N (eQ t r0 rs ls cs (-(nd 0)) c)):Go (MS (eQ t r0 rs ls cs (-(nd 0)) c)) N C T:=by have d:=v8 (zN i f);have e:=zQ (r0:=r0) (rs:=rs) (k:=0) rfl;unfold MS;refine bJ (ρ3:=eQ t r0 rs ls cs (-(nd 0)) (-(zC (fT (cK 32 r0))))) (hV (rv:=.fz (zC (fT (cK 32 r0)))) (am (bK (rv:=.fz (Ar r0)) (dA rfl) (aw rfl) rfl rfl e) (am (bK (rv:=.fz (.bool OK)) (aw rfl) aY rfl rfl (A2 0 0)) aD)) rfl rfl d) rfl rfl ?_;refine bN (b:=mz (zC (fT (cK 32 r0)))) (Ee (Op _) rfl) (λq=>cx (pv:=.fz (.tuple [.int 2,nd 0,.none])) (jd (am aY (am (aw rfl) (am aY aD))) rfl (show 3<=1000 by decide)) rfl (g q)) (λq=>bb ?_);refine g8 (b:=Rh) (dG (a:=Rh) (b:=Rh) (a9 (bW (aw rfl) aY rfl rfl (Bt 0)) rfl) λz=>by cases z) (λz=>by cases z) (λ_=>?_);exact g8 (b:=Rh) (a9 (bW (aw rfl) aY rfl rfl (Bt 0)) rfl) (λz=>by cases z) (λ_=>fH (h q _))
theorem Q7{i:Nat}{r:cM Nat}(H:rs[i]?=ax r)(I:r.length<=900)(J:kn r){ls:cM (cM Mg)}{cs:cM (cM Int×cM Nat)}(Q:ls.length<=1000)(P:cs.length<=1000){m:c5 PV}{N C:bA->Prop}{T:RV->Prop}(u:iz (ls,cs) r=cL->T (.fz (.tuple [.int 2,nd (i+1),.none])))(v:∀st,iz (ls,cs) r=ax st->∀m,N (eQ t r0 rs st.1 st.2 (-(nd (i+1))) m)):Go (MS (eQ t r0 rs ls cs (-(nd (i+1))) m)) N C T:=by
 obtain⟨w,a,e⟩:=hW 32 r;have ow:=zN I J;rw[e]at ow;have E:=CY ow;have j:=zQ (r0:=r0) (rs:=rs) (k:=i+1) (r:=r) H;have A:Ar r=.list ((w::a).map aO):=by unfold Ar;rw[e]
 rw[A]at j;have eq:dq (nd (i+1)) (nd 0)=-(.bool Rh):=by rw[A2,a5 (by ext)]
 have K:ug (nd (i+1)) (.int 0)=-(.bool OK):=by rw[Bt,a4 (by ext)]
 have G:bx (.list ((w::a).map aO)) (.int 0)=-(aO w):=rR;have L:=Ou (ow.2 w Ri).2;unfold MS;refine bJ (ρ3:=eQ t r0 rs ls cs (-(nd (i+1))) (-(kA w a))) (hV (rv:=.fz (kA w a)) (am (bK (rv:=.fz (.list ((w::a).map aO))) (dA rfl) (aw rfl) rfl rfl j) (am (bK (rv:=.fz (.bool Rh)) (aw rfl) aY rfl rfl eq) aD)) rfl rfl E) rfl rfl ?_;have tup:∀{ρ:bA},ρ[4]?=ax (-(nd (i+1)))->cU {~~~2,ae 4,pC .none} ρ=.ok (.fz (.tuple [.int 2,nd (i+1),.none]),ρ):=λh=>jd (am aY (am (aw h) (am aY aD))) rfl (show 3<=1000 by decide);have g:ay (aA dq (aA bx (aA bx (ae 1) (ae 4)) (~~~0)) (pC (.str "layer"))) (eQ t r0 rs ls cs (-(nd (i+1))) (-(kA w a)))=.ok (decide (w=wL),eQ t r0 rs ls cs (-(nd (i+1))) (-(kA w a))):=a9 (bW (dx:=aO w) (bK (rv:=.fz (aO w)) (bK (rv:=.fz (.list ((w::a).map aO))) (dA rfl) (aw rfl) rfl rfl j) aY rfl rfl G) aY rfl rfl L) rfl;have o:ay (aA ug (ae 4) (~~~0)) (eQ t r0 rs ls cs (-(nd (i+1))) (-(kA w a)))=.ok (OK,eQ t r0 rs ls cs (-(nd (i+1))) (-(kA w a))):=a9 (bW (aw rfl) aY rfl rfl K) rfl;refine bN (b:=mz (kA w a)) (Ee (Lr ow) rfl) (λq=>cx (tup rfl) rfl ?_) (λq=>bb ?_)
 .rcases Cs e (ls,cs)with⟨_,z⟩|⟨z,_⟩|⟨z,_⟩
  .exact u z
  .rw[z]at q;cases q
  .rw[z]at q;cases q
 .rcases Cs e (ls,cs)with⟨z,_⟩|⟨_,n,l,p,z⟩|⟨_,n,c,k,M,O,z⟩
  .rw[z]at q;cases q
  .refine g8 (b:=OK) (dG o λ_=>by rw[g,a4 n]) (λ_=>?_) (λz=>by cases z)
   have B:dc [.list (cs.map ef)]=-(nd cs.length):=by show ax (RV.fz (.int ((cs.map ef).length:Int)))=_;rw[CL]
   refine bN (b:=decide (0<cs.length)) (a9 (bW (dx:=nd cs.length) (dk (rv:=.fz (nd cs.length)) (am (dA rfl) aD) rfl B) aY rfl rfl (Bt _)) rfl) (λy=>cx (tup rfl) rfl ?_) (λy=>bb ?_)
   .rcases z with⟨f,z⟩|⟨f,z⟩
    .have f:cs=[]:=f;rw[f]at y;cases y
    .exact u z
   .rcases z with⟨f,z⟩|⟨f,z⟩
    .have f:cs=[]:=f;subst f;refine ju (kF (es:=ls.map fA) (ds:=ls.map fA) (d:=fA l) rfl (aw rfl) (by rw[p];rfl) rfl (by rw[CL];ext) MU) (v _ z _)
    .exact a7 (show cs=[]from List.eq_nil_of_length_eq_zero (by have:=of_decide_eq_false y;ext)) f
  .refine g8 (b:=Rh) (dG o λ_=>by rw[g,a5 n]) (λz=>by cases z) (λ_=>?_)
   refine g8 (b:=OK) o (λ_=>?_) (λz=>by cases z);have F:bx (.list ((w::a).map aO)) (.int 2)=-(aO c.2):=by rw[M];exact nw (by decide) rfl
   refine ju (kF (es:=cs.map ef) (ds:=cs.map ef) (d:=ef c) rfl (jd (ds:=[kA w a,aO c.2]) (am (aw rfl) (am (bK (rv:=.fz (aO c.2)) (bK (rv:=.fz (.list ((w::a).map aO))) (dA rfl) (aw rfl) rfl rfl j) aY rfl rfl F) aD)) rfl (show 2<=1000 by decide)) (by rw[O];rfl) rfl (by rw[CL];ext) PL) (v _ z _)
def IQ(t r0:cM Nat)(rs:cM (cM Nat))(i:Nat)(ρ:bA):Prop:=∃ls cs o4 o5,ρ=eQ t r0 rs ls cs o4 o5/\match i with
 |0=>ls=[]/\cs=[]
 |j+1=>mz (zC (fT (cK 32 r0)))=Rh/\ic (rs.take j)=ax (ls,cs)
theorem GD(A:r0.length<=900)(u:kn r0)(e:Yj rs){v:D}(h:mz (zC (fT (cK 32 r0)))=OK->v=.tuple [.int 2,nd 0,.none])(f:∀k st r,mz (zC (fT (cK 32 r0)))=Rh->rs[k]?=ax r->ic (rs.take k)=ax st->iz st r=cL->v=.tuple [.int 2,nd (k+1),.none]){N C:bA->Prop}{g:FS}(y:∀ls cs o4 o5,mz (zC (fT (cK 32 r0)))=Rh->ic rs=ax (ls,cs)->Go (g (eQ t r0 rs ls cs o4 o5)) N C (λr=>r=.fz v)):Go (aF (jZ (jK gJ {dD dc {ae 1}}) (gN 4) MS) g (eQ t r0 rs [] [] cL cL)) N C (λr=>r=.fz v):=by
 have o:dc [.list ((r0::rs).map Ar)]=-(nd (r0::rs).length):=by show ax (RV.fz (.int (((r0::rs).map Ar).length:Int)))=_;rw[CL]
 have hn:=e.n;refine iM (IQ t r0 rs) (ka (ds:=[nd (r0::rs).length]) (am (dk (rv:=.fz (nd (r0::rs).length)) (am (dA rfl) aD) rfl o) aD) rfl (oz (n:=(r0::rs).length) (by rw[Rk];ext))) ⟨[],[],cL,cL,rfl,rfl,rfl⟩ ?_ ?_
 .intro i d ρ w a
  obtain⟨hi,rfl⟩:=xk w;obtain⟨ls,cs,o4,o5,rfl,a⟩:=a;refine⟨eQ t r0 rs ls cs (-(nd i)) o5,rfl,?_⟩;cases i with
  |zero=>obtain⟨rfl,rfl⟩:=a;exact QR A u (λq=>by rw[h q]) λq o5=>⟨[],[],_,_,rfl,q,rfl⟩
  |succ j=>obtain⟨q,b⟩:=a;rw[Rk]at hi;obtain⟨r,c⟩:∃r,rs[j]?=ax r:=⟨_,Rj (by ext)⟩;have p:=e.r r (RU c);have m:=(uD (e.take j) b).1;have lt:=Sd (i:=j) (l:=rs);dsimp only at m;refine Q7 c (by ext) p.2 (by ext) (by ext) (λz=>by rw[f j (ls,cs) r q c b z]) λst z o5=>⟨st.1,st.2,_,_,rfl,q,?_⟩;rw[Tc,c];show ic (rs.take j++[r])=_;rw[iV,b];exact z
 .rintro ρ ⟨ls,cs,o4,o5,rfl,a⟩;rw[dC,RQ,Rk]at a;obtain⟨q,b⟩:=a;rw[UD]at b;exact y ls cs o4 o5 q b
end
theorem v7{o:c5 (c5 Int×c5 Int)}(h:mz (zC o)=Rh):∃x y,o=ax (ax x,ax y):=by
 cases o with
 |none=>cases h
 |some p=>
  obtain⟨x,y⟩:=p;cases x with
  |none=>cases h
  |some x=>cases y with
   |none=>cases h
   |some y=>exact⟨x,y,rfl⟩
theorem GU{o:c5 (c5 Int×c5 Int)}(h:mz (zC o)=OK):Mu o=.none:=by
 cases o with
 |none=>rfl
 |some p=>
  obtain⟨x,y⟩:=p;cases x with
  |none=>rfl
  |some x=>cases y with
   |none=>rfl
   |some y=>cases h
section
variable{t r0:cM Nat}{rs:cM (cM Nat)}
theorem CS(p:t.length<=900)(e:cK 10 t=r0::rs):dh 1 [] (jU (pT fX (ae 0) {pC (.str "\n")})) (gN 0) bZ (pT fX (ae 0) {pC (.str " ")}) [-(aO t),cL,cL,cL,cL,cL,cL,cL]=.ok (.ow ((r0::rs).map Ar),[-(aO t),cL,cL,cL,cL,cL,cL,cL]):=by
 have b:lD.str "\n"=aO [10]:=by show lD.str _=lD.str _;congr 1
 have h:lD.str " "=aO [32]:=by show lD.str _=lD.str _;congr 1
 have a:=e8 10 t;have j:=kb (c:=10) (l:=t) (by ext);rw[e,<-b]at j;rw[e]at a;have m:jS (d8 (gN 0) bZ (pT fX (ae 0) {pC (.str " ")}) ((r0::rs).map aO) [cL] [])=.ok ((r0::rs).map Ar):=wA (f:=aO) (g:=Ar) (λρ=>∃o,ρ=[o]) (r0::rs) (by have:=a.2;ext) ⟨cL,rfl⟩ (by rintro r k ρ ⟨o,rfl⟩;have i:=kb (c:=32) (l:=r) (by have:=(a.1 r k).2.1;ext);rw[<-h]at i;exact⟨_,pZ rfl rfl (jH (rv:=.ow ((cK 32 r).map aO)) (aw rfl) rfl (am aY aD) rfl i) rfl rfl,_,rfl⟩);exact cP (gc (d:=.list ((r0::rs).map aO)) (jH (rv:=.ow ((r0::rs).map aO)) (aw rfl) rfl (am aY aD) rfl j) rfl rfl) rfl m
theorem rF(n:t.length<=900)(o:kn t)(e:cK 10 t=r0::rs)(p:Yj rs){v:D}(h:mz (zC (fT (cK 32 r0)))=OK->v=.tuple [.int 2,nd 0,.none])(f:∀k st r,mz (zC (fT (cK 32 r0)))=Rh->rs[k]?=ax r->ic (rs.take k)=ax st->iz st r=cL->v=.tuple [.int 2,nd (k+1),.none])(g:∀x y st,fT (cK 32 r0)=ax (ax x,ax y)->ic rs=ax st->v=gD ⟨x,st.1,st.2,y⟩):dX [aO t]=.ok (.fz v):=by have u:=(e8 10 t).1 r0 (by rw[e];exact Ri);have a:kn r0:=λx m=>o x (u.2.2 x m);refine cA (ρ:=[-(aO t),cL,cL,cL,cL,cL,cL,cL]) rfl ?_;unfold kK;refine bJ (ρ3:=[-(aO t),ax (.ow ((r0::rs).map Ar)),cL,cL,cL,cL,cL,cL]) (CS n e) rfl rfl ?_;refine bJ (ρ3:=[-(aO t),ax (.ow ((r0::rs).map Ar)),ax (.ow []),cL,cL,cL,cL,cL]) (by fail "ev") rfl rfl ?_;refine bJ (ρ3:=eQ t r0 rs [] [] cL cL) (by fail "ev") rfl rfl ?_;refine GD (by ext) a p h f λb c j i q w=>?_;obtain⟨x,y,hn⟩:=v7 q;have d:=v8 (zN (r:=r0) (by ext) a);rw[hn]at d;have l:=zQ (r0:=r0) (rs:=rs) (k:=0) rfl;refine bJ (ρ3:=[-(aO t),ax (.ow ((r0::rs).map Ar)),ax (.ow (b.map fA)),ax (.ow (c.map ef)),j,i,-(.int x),-(.int y)]) (hV (rv:=.fz (.tuple [.int x,.int y])) (am (bK (rv:=.fz (Ar r0)) (dA rfl) aY rfl rfl l) (am aY aD)) rfl rfl d) rfl rfl ?_;rw[g x y (b,c) hn w];exact bX (jd (ds:=[.int x,.tuple (b.map fA),.tuple (c.map ef),.int y]) (am (aw rfl) (am (dk (rv:=.fz (.tuple (b.map fA))) (am (dA rfl) aD) rfl rfl) (am (dk (rv:=.fz (.tuple (c.map ef))) (am (dA rfl) aD) rfl rfl) (am (aw rfl) aD)))) rfl (show 4<=1000 by decide)) rfl rfl
end
theorem kW(c:Nat):∀l:cM Nat,(∀w∈cK c l,w.Sublist l)/\(cK c l).length=l.count c+1:=by
 intro l
 induction l with
 |nil=>exact⟨λw f=>by cases(RA.mp f);exact XA _,rfl⟩
 |cons a r d=>
  obtain⟨w,g,e⟩:=hW c r;by_cases n:a=c
  .subst n
   rw[nt];refine⟨λv b=>?_,by rw[Rk,d.2,List.count_cons_self]⟩;rcases Rn.mp b with rfl|b
   .exact List.nil_sublist _
   .exact(d.1 v b).cons a
  .rw[gM n e]
   rw[e]at d;refine⟨λv b=>?_,by rw[abk n,<-d.2];rfl⟩;rcases Rn.mp b with rfl|b
   .exact(d.1 w Ri).cons_cons a
   .exact(d.1 v (Rm _ b)).cons a
theorem yO{α:Type}{l:cM (c5 α)}{r:cM α}(h:hJ l=ax r):r.length=l.length:=by rw[xH h,CL]
theorem Mf{rows:cM (cM Nat)}(h:Yj rows)(K:∀x∈rows,x.count 43<=50){st:Ps}(e:ic rows=ax st)(x y:Int):GF 400 ⟨x,st.1,st.2,y⟩:=by
 have R:=(uD h e).1;have hn:=h.n;have f:(∀l∈st.1,l.length<=405/\∀m∈l,MF m)/\∀c∈st.2,c.1.length<=55/\IZ c.2:=by
  refine yG (P:=λst=>(∀l∈st.1,l.length<=405/\∀m∈l,MF m)/\∀c∈st.2,c.1.length<=55/\IZ c.2) rows _ st (λs r Q E i q=>?_) ⟨(λl j=>by cases j),(λc o=>by cases o)⟩ e;have C:=h.r r E;have t:=e8 32 r;rcases Ae q with⟨l,g,rfl⟩|⟨c,M,rfl⟩
  .refine⟨λJ a=>?_,i.2⟩
   rcases Sv.mp a with a|a
   .exact i.1 J a
   .obtain rfl:=RA.mp a
    obtain⟨w,G,p⟩:=hW 32 r;rw[p]at g t;cases G with
    |nil=>cases g
    |cons v H=>
     rw[Ig]at g;split at g
     .have u:=yO g
      have ne:=xH g;rw[CL]at u;refine⟨by have:=t.2;rw[Rk]at this;ext,λm hm=>?_⟩;have:ax m∈(v::H).map lC:=by rw[ne];exact RF.mpr ⟨m,hm,rfl⟩
      obtain⟨b,L,N⟩:=RF.mp this;exact(F8 N (λz B=>C.2 z ((t.1 b (Rm _ L)).2.2 z B))).2
     .cases g
  .refine⟨i.1,λF d=>?_⟩
   rcases Sv.mp d with d|d
   .exact i.2 F d
   .obtain rfl:=RA.mp d;obtain⟨w,k,p,A,O⟩:=JQ M;have I:=(kW 32 r).1 k (by rw[p];simp);have u:=yO O;rw[CL,(kW 43 k).2]at u;have:=I.count_le 43;have:=K r E;refine⟨by ext,?_,λz B=>C.2 z ((t.1 F.2 (by rw[p];simp)).2.2 z B)⟩;unfold eY at A;rw[Rz]at A;have:=a6 A.1;ext
 refine⟨by show st.1.length<=_;ext,λl j=>?_,by show st.2.length<=_;ext,λc o=>?_⟩
 .exact⟨by have:=(f.1 l j).1;ext,(f.1 l j).2⟩
 .exact⟨by have:=(f.2 c o).1;ext,(f.2 c o).2⟩
theorem FX{rs:cM (cM Nat)}{k m:Nat}{s st:Ps}{r:cM Nat}(hm:ic (rs.take m)=ax s)(f:k<m)(e:rs[k]?=ax r)(d:ic (rs.take k)=ax st)(c:iz st r=cL):False:=by obtain⟨b,a⟩:=qw (rs:=rs) (i:=k+1) (k:=m) (by ext) hm;rw[Tc,e]at a;have a:ic (rs.take k++[r])=ax b:=a;rw[iV,d]at a;rw[show(ax st).bind (λst=>iz st r)=iz st r from rfl,c]at a;cases a
structure ac4(t:cM Nat):Prop where
 l:t.length<=900
 c:kn t
 n:(cK 10 t).length<=300
 r:∀x∈cK 10 t,x.length<=390/\x.count 43<=50
theorem E6{k:Nat}(h:k<=1000):qN ⟨"NoText",[("row",nd k)]⟩=.ok (.fz (.tuple [.int 2,nd k,.none])):=by unfold qN;dsimp only;rw[ar (by decide),ar (by decide),ak rfl,ak ⟨rfl,o0 h⟩]
theorem Cu{x:Xc}:qN x≠.ok (.fz .none):=by
 intro h;unfold qN at h;split at h
 .split at h
  .split at h<;>cases h
  .cases h
 .split at h
  .split at h
   .split at h<;>cases h
   .cases h
  .split at h
   .split at h
    .split at h<;>cases h
    .cases h
   .cases h
theorem Pu{t:cM Nat}(h:ac4 t):(∃k,dX [aO t]=.ok (.fz (.tuple [.int 2,nd k,.none]))/\aW [aO t]=.ok (.fz (.tuple [.int 2,nd k,.none])))\/
  ∃b,GF 400 b/\dX [aO t]=.ok (.fz (gD b))/\ir [gD b]=.ok (.fz (kr b))/\((kr b=.none/\aW [aO t]=.ok (.fz (gD b)))\/(kr b≠.none/\aW [aO t]=.ok (.fz (kr b)))):=by
 obtain⟨P,rs,e⟩:=hW 10 t;have j:=h.l;have hn:=h.n;have B:=h.r;have J:=(e8 10 t).1;rw[e]at hn B J;rw[Rk]at hn;have o:Yj rs:=⟨by ext,λx f=>⟨(B x (Rm _ f)).1,λz Q=>h.c z ((J x (Rm _ f)).2.2 z Q)⟩⟩;have R:∀x∈rs,x.count 43<=50:=λx f=>(B x (Rm _ f)).2;cases q:mz (zC (fT (cK 32 P)))with
 |true=>
  refine .inl ⟨0,?_,?_⟩
  .refine rF j h.c e o (λ_=>rfl) (λk d r z=>?_) (λx y d z=>?_)
   .rw[q]at z;cases z
   .rw[z]at q;cases q
  .rw[xA (Eh j h.c e (GU q)),E6 (by ext)]
 |false=>
  obtain⟨x,y,f⟩:=v7 q;rcases DC rs rs.length (Rr _)with⟨d,p⟩|⟨k,d,r,U,E,v,C⟩
  .rw[UD]at p
   right;have F:=Mf o R p x y;refine⟨⟨x,d.1,d.2,y⟩,F,?_,CD F (by ext),?_⟩
   .refine rF j h.c e o (λz=>?_) (λk u r z m g G=>?_) (λO M u m g=>?_)
    .rw[q]at z;cases z
    .exfalso;have j:=(Rp.mp m).1;obtain⟨w,a⟩:=qw (rs:=rs) (i:=k+1) (k:=rs.length) (by ext) (by rw[UD];exact p);rw[Tc,m]at a;have a:ic (rs.take k++[r])=ax w:=a;rw[iV,g]at a;rw[show(ax u).bind (λd=>iz d r)=iz u r from rfl,G]at a;cases a
    .rw[f]at m;cases m;rw[p]at g;cases g;rfl
   .rcases oZ F (by ext)with⟨S,H⟩|⟨N,H,I⟩
    .exact .inl ⟨S,Cv (Bw j h.c e o f p H)⟩
    .exact .inr ⟨λz=>Cu (x:=N) (by rw[I,z]),by rw[xA (HH j h.c e o f p H),I]⟩
  .refine .inl ⟨1+k,?_,?_⟩
   .refine rF j h.c e o (λz=>?_) (λA u T z m g G=>?_) (λO M u m g=>?_)
    .rw[q]at z;cases z
    .by_cases L:A<k
     .exact(FX v L m g G).elim
     .by_cases K:k<A
      .exact(FX g K E v C).elim
      .rw[show A+1=1+k by ext]
    .exfalso;obtain⟨w,a⟩:=qw (rs:=rs) (i:=k+1) (k:=rs.length) (by ext) (by rw[UD];exact g);rw[Tc,E]at a;have a:ic (rs.take k++[r])=ax w:=a;rw[iV,v]at a;rw[show(ax d).bind (λd=>iz d r)=iz d r from rfl,C]at a;cases a
   .rw[xA (El j h.c e o f E v C),E6 (by ext)]
def kq(k:Nat):Str:=⟨#[48+k]⟩
theorem Kd:∀k:Nat,k<10->Ue (toString (k:Int))=kq k:=by left
theorem mY{i:Int}(b:0<=i)(a:i<=9):pW [.int i]=-(.str (kq i.toNat)):=by
 show(if i.natAbs<10^30 then ax (RV.fz (.str (Ue (toString i))))else cL)=_;have e:i=((i.toNat:Nat):Int):=by ext
 rw[ak (by ext)]
 conv=>lhs;rw[e]
 rw[Kd _ (by ext)]
def wS:Mn->Str
 |.SR c=>lU c
 |.Tu n=>⟨#[62,48+n.toNat]⟩
 |.Wg c n=>⟨#[97+c,62,48+n.toNat]⟩
 |.once n=>⟨#[126,48+n.toNat]⟩
 |.none=>⟨#[46]⟩
 |.below=>⟨#[95]⟩
theorem Lf:(">":Str)=⟨#[62]⟩:=by left
theorem P9:("~":Str)=⟨#[126]⟩:=by left
theorem PX:(".":Str)=⟨#[46]⟩:=by left
theorem Qm:("_":Str)=⟨#[95]⟩:=by left
theorem N8:("":Str)=⟨#[]⟩:=by left
theorem jv{a b c:Str}(e:a++b=c)(h:a.length+b.length<=1000):fQ (.str a) (.str b)=-(.str c):=by show(if a.length+b.length<=1000000 then ax (RV.fz (.str (a++b)))else cL)=_;rw[ak (by ext),e]
theorem HR{a b:Str}(ha:lD.strOk a=OK)(c:lD.strOk b=OK)(h:(a==b)=Rh):dq (.str a) (.str b)=-(.bool Rh):=ig ha c h
theorem zy{b:Bool}{x:Bool}(h:b=x):ax (RV.fz (.bool b))=-(.bool x):=by rw[h]
theorem uZ{xs:cM D}(h:∀(i:Nat) (x:D),xs[i]?=ax x->x=.bool OK):sO [.list xs]=-(.bool OK):=by
 have:sV xs=ax (RH xs.length OK):=by
  induction xs with
  |nil=>rfl
  |cons x r a=>have e:x=.bool OK:=h 0 x rfl;subst e;show(sV r).map (OK::·)=_;rw[a λi y c=>h (i+1) y (by simpa using c)];rfl
 show(sV xs).map (λbs=>RV.fz (.bool (bs.all id)))=_;rw[this];show ax (RV.fz (.bool _))=_;congr 3;rw[U7];intro b d;rw[(List.mem_replicate.mp d).2];rfl
section
variable{b:Bd}
theorem Qw:bx (bD b) (.int 0)=-(.int b.n):=kR
theorem Qq:bx (bD b) (.int 1)=-(.tuple (b.ls.map u9)):=vi
theorem QZ:bx (bD b) (.int 2)=-(.tuple (b.cs.map wN)):=Hn
theorem Q6:bx (bD b) (.int 3)=-(.int b.wt):=Kw (by decide) rfl
end
def Fl:Nat->FN
 |0=>J9
 |n+1=>dI 2 (cZ (Fl n))
inductive Lk:Nat->D->Prop
 |str {n:Nat} {x:Str}:lD.strOk x=OK->Lk (n+1) (.str x)
 |int {n:Nat} {i:Int}:Lk (n+1) (.int i)
 |tup {n:Nat} {ds:cM D}:ds.length<=1000->(∀d∈ds,Lk n d)->Lk (n+1) (.tuple ds)
theorem GL(i:Int):eA [.int i]=.ok (.fz (.bool OK)):=by refine cA (ρ:=[-(.int i)]) rfl ?_;unfold l9;fail "go";rfl
theorem w9:∀(n:Nat) (d:D),Lk n d->Fl n [d,d]=.ok (.fz (.bool OK))
 |0,d,h=>by cases h
 |n+1,d,h=>by
  refine cA (ρ:=[-(d),-(d)]) rfl ?_;unfold cZ;cases h with
  | @str _ x hx=>
   have eq:=ub hx;fail "go"
   .intro q;cases q
   intro _;fail "go"
   .intro _;fail "go";rfl
   .intro q;cases q
  | @int _ i=>
   have k:=GL i;have eq:dq (.int i) (.int i)=-(.bool OK):=by rw[jA];exact zy (a4 rfl)
   fail "go"
   .intro q;cases q
   intro _;fail "go"
   .intro q;cases q
   intro _;fail "go";rfl
  | @tup _ ds hl hd=>
   have l:kM (nd ds.length) (nd ds.length)=-(.bool Rh):=by rw[Es];exact zy (by rw[a4 rfl];rfl)
   obtain⟨f,c,m,b⟩:=gW (gt:=gT 2 (rD (gN 0) (rD (gN 1) B8))) (ft:=bZ) (fe:=bu (Fl n) 2 {ae 0,ae 1}) (ds:=mQ ds ds) (ρ:=[cL,cL]) (λρ=>∃o p,ρ=[o,p]) (λ_ x=>x=.bool OK) ⟨cL,cL,rfl⟩ (by rw[pY];ext) (by
    rintro j d a ρ ⟨o,p,rfl⟩;rw[qW]at a;cases q1:ds[j]? with
    |none=>rw[q1]at a;cases a
    |some x=>rw[q1]at a;cases a;have g:=w9 n x (hd x (RU q1));exact⟨_,_,pZ rfl rfl (by fail "ev") rfl rfl,⟨_,_,rfl⟩,rfl⟩)
   have e:=uZ b;fail "go"
   .intro _
    fail "go"
    .intro q;cases q
    intro _;refine bb ?_;exact cx (dk (am (cP (by fail "ev") rfl c) aD) rfl e) rfl rfl
   .intro q;cases q
theorem AJ(c:Nat)(h:c<26):lD.strOk (lU c)=OK:=by
 have:∀c,c<26->lD.strOk (lU c)=OK:=by left
 exact this c h
theorem Pq{L nL:Int}{m:Mn}(n:Nat)(h:VM L nL m):Lk (n+2) (mD m):=by
 cases m with
 |SR c=>
   refine .tup (by show 2<=1000;decide) λd a=>?_;simp only[Rn,Rv,or_false]at a;rcases a with rfl|rfl
   .exact .str (by left)
   .exact .str (AJ c h)
 |Tu k=>
   refine .tup (by show 2<=1000;decide) λd a=>?_;simp only[Rn,Rv,or_false]at a;rcases a with rfl|rfl
   .exact .str (by left)
   .exact .int
 |once k=>
   refine .tup (by show 2<=1000;decide) λd a=>?_;simp only[Rn,Rv,or_false]at a;rcases a with rfl|rfl
   .exact .str (by left)
   .exact .int
 |Wg c k=>
   refine .tup (by show 3<=1000;decide) λd a=>?_;simp only[Rn,Rv,or_false]at a;rcases a with rfl|rfl|rfl
   .exact .str (by left)
   .exact .str (AJ c h.1)
   .exact .int
 |none=>refine .tup (by show 1<=1000;decide) λd a=>?_;simp only[Rn,Rv,or_false]at a;subst a;exact .str (by left)
 |below=>refine .tup (by show 1<=1000;decide) λd a=>?_;simp only[Rn,Rv,or_false]at a;subst a;exact .str (by left)
theorem Mo{n:Nat}{s:cM Nat}(h:s.length<=1000):Lk (n+2) (.tuple (eP s)):=.tup (by rw[dC];exact h) λd a=>by obtain⟨k,_,rfl⟩:=RF.mp a;exact .int
theorem GB{a:cM Mn}{c:cM Nat×Nat}(h:VC a c):c.1.length<=a.length:=by
 refine xb h.2.1 λk hm=>?_;have:=h.2.2.1 k hm;unfold zB at this;cases q:a[k]? with
 |none=>rw[q]at this;cases this
 |some m=>exact(Rp.mp q).1
theorem Lp{b:Bd}(h:VB b):Lk 6 (bD b):=by
 refine .tup (by show 4<=1000;decide) λd a=>?_;have n:=h.n5;have o:=h.l3;have p:=h.c4;simp only[Rn,Rv,or_false]at a;rcases a with rfl|rfl|rfl|rfl
 .exact .int
 .refine .tup (by rw[CL];ext) λd a=>?_;obtain⟨l,g,rfl⟩:=RF.mp a;obtain⟨i,hi⟩:=Tr.mp g;obtain⟨k,f⟩:=h.vl i l hi;refine .tup (by rw[CL];ext) λd a=>?_;obtain⟨m,hm,rfl⟩:=RF.mp a;exact Pq 1 (f m hm)
 .refine .tup (by rw[CL];ext) λd a=>?_
  obtain⟨c,j,rfl⟩:=RF.mp a;have v:=h.vc c j;refine .tup (by show 2<=1000;decide) λd a=>?_;simp only[Rn,Rv,or_false]at a;rcases a with rfl|rfl
  .refine Mo ?_
   have:=GB v;have:(b.ls.headD []).length<=5:=by
    cases q:b.ls with
    |nil=>show 0<=5;decide
    |cons e r=>have:=(h.vl 0 e (by rw[q];rfl)).1;show e.length<=5;ext
   ext
  .exact .str (AJ _ v.2.2.2)
 .exact .int
theorem Kj{T:cM (lD×lD)}{fb:FE}{ρ ρ1:bA}{pv:PV}{d:D}{rv:RV}(h:fb ρ=.ok (pv,ρ1))(hd:lc ρ1 pv=ax d)(a:OW T d=ax rv):Ma T fb ρ=.ok (rv.pv,ρ1):=by unfold Ma;rw[h,fu,hd,aR,fu,a,aR,fu]
def QE:cM (lD×lD):=[(lD.str "layer",lD.str ">"),(lD.str "once",lD.str "~"),(lD.str "none",lD.str "."),(lD.str "below",lD.str "_")]
def nS:Mn->cM Int
 |.Tu n=>[n]
 |.once n=>[n]
 |_=>[]
theorem jz{m:Mn}{w z:Str}(hm:m=.none\/m=.below\/(∃n,m=.Tu n/\0<=n/\n<=9)\/∃n,m=.once n/\0<=n/\n<=9)(c:bx (mD m) (.int 0)=-(.str w))(hd:OW QE (.str w)=-(.str z))
  (hs:wm (mD m) (ax 1) cL=-(.tuple ((nS m).map .int))) (e:z++Rx ⟨#[]⟩ ((nS m).map λn=>kq n.toNat)=wS m) (A:z.length<=10):
  aA fQ (Ma QE (aA bx (ae 0) (~~~0))) (pT i9 (pC (.str "")) {dh 1 [] (jU (kQ wm (ae 0) (cG (~~~1)) dm)) (gN 0) bZ (dD pW {ae 0})}) [-(mD m)]=.ok (.fz (.str (wS m)),[-(mD m)]):=by
 have hn:∀n∈nS m,0<=n/\n<=9:=by
  rcases hm with rfl|rfl|⟨n,rfl,h⟩|⟨n,rfl,h⟩
  .intro n z;cases z
  .intro n z;cases z
  .intro k z;rw[RA.mp z];exact h
  .intro k z;rw[RA.mp z];exact h
 have f:(nS m).length<=1:=by
  rcases hm with rfl|rfl|⟨n,rfl,h⟩|⟨n,rfl,h⟩
  .exact Tp _
  .exact Tp _
  .exact Rr 1
  .exact Rr 1
 obtain⟨xs,v,u,t⟩:=gW (gt:=gN 0) (ft:=bZ) (fe:=dD pW {ae 0}) (ds:=(nS m).map .int) (ρ:=[cL]) (λρ=>∃o,ρ=[o]) (λi x=>∃n,(nS m)[i]?=ax n/\x=.str (kq n.toNat)) ⟨cL,rfl⟩ (by rw[CL];ext) (by
  rintro j d a ρ ⟨o,rfl⟩;rw[Rt]at a;cases q:(nS m)[j]? with
  |none=>rw[q]at a;cases a
  |some n=>rw[q]at a;cases a;have g:=hn n (RU q);have C:=mY g.1 g.2;exact⟨_,_,pZ rfl rfl (by fail "ev") rfl rfl,⟨_,rfl⟩,n,rfl,rfl⟩)
 have r:xs=((nS m).map λn=>kq n.toNat).map .str:=by
  refine WB λi=>?_;rw[Sw,Rt];cases q:xs[i]? with
  |none=>
   have:(nS m).length<=i:=by have:=Va.mp q;rw[u,CL]at this;exact this
   rw[UT this];rfl
  |some x=>obtain⟨n,p,rfl⟩:=t i x q;rw[p];rfl
 subst r;have l:∀w∈(nS m).map (λn=>kq n.toNat),w.length<=1:=λw c=>by obtain⟨n,_,rfl⟩:=RF.mp c;exact Rr _
 have a:i9 "" [.list (((nS m).map λn=>kq n.toNat).map .str)]=-(.str (Rx ⟨#[]⟩ ((nS m).map λn=>kq n.toNat))):=by
  show(match vn (((nS m).map λn=>kq n.toNat).map .str)with
   |some b=>if Zh "" b=OK then ax (RV.fz (.str (Txt.join "" b)))else cL
   |none=>cL)=_
  rw[ym];dsimp only;have ok:Zh "" ((nS m).map λn=>kq n.toNat)=OK:=by unfold Zh;have:=YZ (sep:= "") (texts:=(nS m).map λn=>kq n.toNat) (B:=1) l (by rw[CL,N8];show _+_*0<=_;ext);rw[this];rfl
  rw[ak ok,show Txt.join "" ((nS m).map λn=>kq n.toNat)=Rx "" ((nS m).map λn=>kq n.toNat)from Yc _ _,N8]
 have y:(Rx ⟨#[]⟩ ((nS m).map λn=>kq n.toNat)).length<=5:=by
  rcases hm with rfl|rfl|⟨n,rfl,h⟩|⟨n,rfl,h⟩
  .exact Tp _
  .exact Tp _
  .show 1<=5;decide
  .show 1<=5;decide
 have ha:fQ (.str z) (.str (Rx ⟨#[]⟩ ((nS m).map λn=>kq n.toNat)))=-(.str (wS m)):=jv e (by ext);refine bK (rv:=.fz (.str (wS m))) (Kj (rv:=.fz (.str z)) (by fail "ev") rfl hd) (jH (rv:=.fz (.str _)) aY rfl (am (cP (gc (by fail "ev") rfl rfl) rfl v) aD) rfl a) rfl rfl ha
theorem yi{L nL:Int}{m:Mn}(h:VM L nL m)(g:nL<=3):iy [mD m]=.ok (.fz (.str (wS m))):=by
 refine cA (ρ:=[-(mD m)]) rfl ?_;unfold oi;cases m with
 |SR c=>
  have a:bx (mD (.SR c)) (.int 0)=-(.str "letter"):=kR;have e:bx (mD (.SR c)) (.int 1)=-(.str (lU c)):=vi;have b:dq (.str "letter") (.str "letter")=-(.bool OK):=ub (by left);fail "go"
  .intro _;fail "go";rfl
  .intro q;cases q
 |Wg c n=>
  have hn:1<=n/\n<nL:=h.2;have a:bx (mD (.Wg c n)) (.int 0)=-(.str "tap"):=kR;have j:bx (mD (.Wg c n)) (.int 1)=-(.str (lU c)):=vi;have e:bx (mD (.Wg c n)) (.int 2)=-(.int n):=Hn;have b:dq (.str "tap") (.str "letter")=-(.bool Rh):=HR (by left) (by left) (by left);have d:dq (.str "tap") (.str "tap")=-(.bool OK):=ub (by left);have l:=mY (i:=n) (by ext) (by ext);have f:fQ (.str (lU c)) (.str ">")=-(.str ⟨#[97+c,62]⟩):=jv (by rw[Lf];rfl) (by rw[Lf];show 1+1<=1000;decide);have k:fQ (.str ⟨#[97+c,62]⟩) (.str (kq n.toNat))=-(.str (wS (.Wg c n))):=jv rfl (by show 2+1<=1000;decide);fail "go"
  .intro q;cases q
  intro _;fail "go"
  .intro _;fail "go";rfl
  .intro q;cases q
 |none=>
  have a:bx (mD .none) (.int 0)=-(.str "none"):=kR;have b:dq (.str "none") (.str "letter")=-(.bool Rh):=HR (by left) (by left) (by left);have d:dq (.str "none") (.str "tap")=-(.bool Rh):=HR (by left) (by left) (by left);have t:=jz (m:=.none) (w:= "none") (z:=⟨#[46]⟩) (.inl rfl) a (by rw[<-PX];rfl) rfl rfl (by show 1<=10;decide);fail "go"
  .intro q;cases q
  intro _;fail "go"
  .intro q;cases q
  intro _;refine bb (bX t rfl rfl)
 |below=>
  have a:bx (mD .below) (.int 0)=-(.str "below"):=kR;have b:dq (.str "below") (.str "letter")=-(.bool Rh):=HR (by left) (by left) (by left);have d:dq (.str "below") (.str "tap")=-(.bool Rh):=HR (by left) (by left) (by left);have t:=jz (m:=.below) (w:= "below") (z:=⟨#[95]⟩) (.inr (.inl rfl)) a (by rw[<-Qm];rfl) rfl rfl (by show 1<=10;decide);fail "go"
  .intro q;cases q
  intro _;fail "go"
  .intro q;cases q
  intro _;refine bb (bX t rfl rfl)
 |Tu n=>
  have hn:1<=n/\n<nL:=h;have a:bx (mD (.Tu n)) (.int 0)=-(.str "layer"):=kR;have b:dq (.str "layer") (.str "letter")=-(.bool Rh):=HR (by left) (by left) (by left);have d:dq (.str "layer") (.str "tap")=-(.bool Rh):=HR (by left) (by left) (by left);have t:=jz (m:=.Tu n) (w:= "layer") (z:=⟨#[62]⟩) (.inr (.inr (.inl ⟨n,rfl,by ext,by ext⟩))) a (by rw[<-Lf];rfl) rfl rfl (by show 1<=10;decide);fail "go"
  .intro q;cases q
  intro _;fail "go"
  .intro q;cases q
  intro _;refine bb (bX t rfl rfl)
 |once n=>
  have hn:1<=n/\n<nL:=h;have a:bx (mD (.once n)) (.int 0)=-(.str "once"):=kR;have b:dq (.str "once") (.str "letter")=-(.bool Rh):=HR (by left) (by left) (by left);have d:dq (.str "once") (.str "tap")=-(.bool Rh):=HR (by left) (by left) (by left);have t:=jz (m:=.once n) (w:= "once") (z:=⟨#[126]⟩) (.inr (.inr (.inr ⟨n,rfl,by ext,by ext⟩))) a (by rw[<-P9];rfl) rfl rfl (by show 1<=10;decide);fail "go"
  .intro q;cases q
  intro _;fail "go"
  .intro q;cases q
  intro _;refine bb (bX t rfl rfl)
theorem vH{α:Type}{f g:α->D}{fe:FE}{cp:bA}(xs:cM α)(b:xs.length<=1000000)(e:dL cp=cp)(c:∀x∈xs,fe (-(f x)::cp)=.ok (.fz (g x),-(f x)::cp)):jS (d8 (gN 0) bZ fe (xs.map f) (cL::cp) [])=.ok (xs.map g):=by
 obtain⟨a,l,k,j⟩:=gW (gt:=gN 0) (ft:=bZ) (fe:=fe) (ds:=xs.map f) (ρ:=cL::cp) (λρ=>∃o,ρ=o::cp) (λi y=>∃x,xs[i]?=ax x/\y=g x) ⟨cL,rfl⟩ (by rw[CL];exact b) (by
  rintro i d hi ρ ⟨o,rfl⟩;rw[Rt]at hi;cases q:xs[i]? with
  |none=>rw[q]at hi;cases hi
  |some x=>
   obtain rfl:d=f x:=by rw[q]at hi;exact(R9 hi).symm
   have m:dL (ax (PV.fz (f x))::cp)=-(f x)::cp:=by show vU _::dL cp=_;rw[e];rfl
   exact⟨_,_,pZ rfl rfl (c x (RU q)) rfl m,⟨_,rfl⟩,x,rfl,rfl⟩)
 rw[l];congr 1;refine WB λi=>?_;rw[Rt];cases q:a[i]? with
 |none=>
  have:xs.length<=i:=by have:=Va.mp q;rw[k,CL]at this;exact this
  rw[UT this];rfl
 |some y=>obtain⟨x,h,rfl⟩:=j i y q;rw[h];rfl
theorem NA:(" ":Str)=⟨#[32]⟩:=by left
theorem OJ:("\n":Str)=⟨#[10]⟩:=by left
theorem PB:("+":Str)=⟨#[43]⟩:=by left
def ml(n w:Nat):Str:=Rx ⟨#[32]⟩ ["keys",kq n,"wait",kq w]
def kP(l:cM Mn):Str:=Rx ⟨#[32]⟩ ("layer"::l.map wS)
def ki(s:cM Nat):Str:=Rx ⟨#[43]⟩ (s.map kq)
def kB(c:cM Nat×Nat):Str:=Rx ⟨#[32]⟩ ["chord",ki c.1,lU c.2]
def nr(b:Bd):cM Str:=b.ls.map kP++b.cs.map kB
def hG(b:Bd):Str:=Rx ⟨#[10]⟩ (ml b.n.toNat b.wt.toNat::nr b)
theorem HU:∀n:Nat,n<10->∀w:Nat,w<10->("keys ":Str)++kq n++(" wait ":Str)++kq w=ml n w:=by left
theorem Ki:("layer ":Str)=("layer":Str)++⟨#[32]⟩:=by left
theorem Kg:("chord ":Str)=("chord":Str)++⟨#[32]⟩:=by left
theorem FB(m:Mn):(wS m).length<=3:=by cases m<;>(first|exact(show 1<=3 by decide)|exact(show 2<=3 by decide)|exact(show 3<=3 by decide))
theorem bt{α:Type}{P:α->Prop}{a:α}{l:cM α}(d:P a)(c:∀x∈l,P x):∀x∈a::l,P x:=λx b=>by
 rcases Rn.mp b with z|z
 .rw[z];exact d
 .exact c x z
theorem CU(l:cM Mn):∀w∈("layer":Str)::l.map wS,w.length<=5:=bt (by left) λw a=>by obtain⟨m,_,rfl⟩:=RF.mp a;exact SH (FB m) (by decide)
theorem yK(s:cM Nat):∀w∈s.map kq,w.length<=1:=λw a=>by obtain⟨k,_,rfl⟩:=RF.mp a;exact Rr _
theorem qL{s:cM Nat}(h:s.length<=5):(ki s).length<=10:=by have:=jM (d:=43) (yK s);rw[CL]at this;unfold ki;ext
theorem Li{c:cM Nat×Nat}(h:c.1.length<=5):∀w∈[("chord":Str),ki c.1,lU c.2],w.length<=10:=bt (by left) (bt (qL h) (bt (by show 1<=10;decide) λ_ z=>by cases z))
theorem ze{l:cM Mn}(h:l.length<=5):(kP l).length<=36:=by have:=jM (d:=32) (CU l);rw[Rk,CL]at this;unfold kP;ext
theorem uu{c:cM Nat×Nat}(h:c.1.length<=5):(kB c).length<=36:=by have:=jM (d:=32) (Li h);have e:[("chord":Str),ki c.1,lU c.2].length=3:=rfl;rw[e]at this;unfold kB;ext
theorem zv:∀n:Nat,n<10->∀w:Nat,w<10->(ml n w).length<=36:=by left
section
variable{b:Bd}
theorem oj(h:VB b){l:cM Mn}(a:l∈b.ls):1<=l.length/\l.length<=5/\∃i:Nat,∀m∈l,VM i b.ls.length m:=by obtain⟨i,hi⟩:=Tr.mp a;obtain⟨d,c⟩:=h.vl i l hi;have:=h.n1;have:=h.n5;exact⟨by ext,by ext,i,c⟩
theorem tT(h:VB b){c:cM Nat×Nat}(d:c∈b.cs):2<=c.1.length/\c.1.length<=5/\(∀k∈c.1,k<10)/\c.2<26:=by
 have v:=h.vc c d;have f:(b.ls.headD []).length<=5:=by
  cases q:b.ls with
  |nil=>exact Tp _
  |cons e r=>exact(oj h (by rw[q];exact Ri)).2.1
 have:=GB v;refine⟨v.1,by ext,λk a=>?_,v.2.2.2⟩;have:=v.2.2.1 k a;unfold zB at this;cases q:(b.ls.headD [])[k]? with
 |none=>rw[q]at this;cases this
 |some m=>have:=(Rp.mp q).1;ext
theorem lO(h:VB b):∀r∈ml b.n.toNat b.wt.toNat::nr b,r.length<=36:=by
 have g:=h.n5;have f:=h.w4;refine bt (zv _ (by ext) _ (by ext)) λr a=>?_;rcases Sv.mp a with z|z
 .obtain⟨l,d,rfl⟩:=RF.mp z;exact ze (oj h d).2.1
 .obtain⟨c,e,rfl⟩:=RF.mp z;exact uu (tT h e).2.1
theorem rA(h:VB b):(nr b).length<=7:=by have c:=h.l3;have a:=h.c4;unfold nr;rw[Ry,CL,CL];ext
theorem IM{s:cM Nat}(hs:∀k∈s,k<10)(d:s.length<=5):jS (d8 (gN 0) bZ (dD pW {ae 0}) (eP s) [cL] [])=.ok ((s.map kq).map .str):=by
 have:=vH (f:=nd) (g:=λk=>.str (kq k)) (fe:=dD pW {ae 0}) (cp:=[]) s (by ext) rfl λk c=>by have a:=hs k c;have e:=mY (i:=(k:Int)) (by ext) (by ext);rw[Sy]at e;exact dk (rv:=.fz (.str (kq k))) (by fail "ev") rfl e
 rw[Sw];exact this
theorem Hi{s:cM Nat}(hs:∀k∈s,k<10)(a:s.length<=5):i9 "+" [.list ((s.map kq).map .str)]=-(.str (ki s)):=by rw[PB];exact rp (yK s) (by rw[CL];ext)
end
section
variable{b:Bd}
theorem pM{d:Nat}{x y:Str}{r:cM Str}:Rx ⟨#[d]⟩ (x::y::r)=x++⟨#[d]⟩++Rx ⟨#[d]⟩ (y::r):=rfl
theorem Hg(h:VB b):jO [bD b]=.ok (.fz (.str (hG b))):=by
 have Y:=h.n1;have X:=h.n5;have R:=h.w1;have Q:=h.w4;have Z:=h.l3;have c4:=h.c4;have e0:=Qw (b:=b);have e1:=Qq (b:=b);have e2:=QZ (b:=b);have e3:=Q6 (b:=b);have U:=mY (i:=b.n) (by ext) (by ext);have T:=mY (i:=b.wt) (by ext) (by ext);have er:=HU b.n.toNat (by ext) b.wt.toNat (by ext);have p:("keys ":Str).length=5:=by left
 have C:(" wait ":Str).length=6:=by left
 have a1:fQ (.str "keys ") (.str (kq b.n.toNat))=-(.str (("keys ":Str)++kq b.n.toNat)):=jv rfl (by rw[p];show 5+1<=1000;decide);have a2:fQ (.str (("keys ":Str)++kq b.n.toNat)) (.str " wait ")=-(.str (("keys ":Str)++kq b.n.toNat++(" wait ":Str))):=jv rfl (by rw[S9,p,C];show 5+1+6<=1000;decide);have a3:fQ (.str (("keys ":Str)++kq b.n.toNat++(" wait ":Str))) (.str (kq b.wt.toNat))=-(.str (ml b.n.toNat b.wt.toNat)):=jv er (by rw[S9,S9,p,C];show 5+1+6+1<=1000;decide);refine cA (ρ:=[-(bD b),cL,cL,cL,cL]) rfl ?_;unfold nY;fail "go"
 with_reducible apply iM (λi ρ=>∃o:c5 PV,ρ=[-(bD b),ax (.ow ((ml b.n.toNat b.wt.toNat::(b.ls.take i).map kP).map .str)),o,cL,cL])
 .exact gc (d:=.tuple (b.ls.map u9)) (by fail "ev") rfl rfl
 .exact⟨cL,rfl⟩
 .rintro i d ρ hi ⟨o,rfl⟩
  rw[Rt]at hi;cases q:b.ls[i]? with
  |none=>rw[q]at hi;cases hi
  |some l=>
   obtain rfl:d=u9 l:=by rw[q]at hi;exact(R9 hi).symm
   obtain⟨z,J,j,I⟩:=oj h (RU q);have K:=(Rp.mp q).1;have t:=vH (f:=mD) (g:=λm=>.str (wS m)) (fe:=bu iy 1 {ae 0}) (cp:=[]) l (by ext) rfl λm hm=>by have e:=yi (I m hm) (by ext);exact hV (rv:=.fz (.str (wS m))) (by fail "ev") rfl rfl e
   have M:(l.map λm=>lD.str (wS m))=(l.map wS).map .str:=by rw[Sw];rfl
   rw[M]at t;have E:∀w∈l.map wS,w.length<=3:=λw H=>by obtain⟨m,_,rfl⟩:=RF.mp H;exact FB m
   have y:i9 " " [.list ((l.map wS).map .str)]=-(.str (Rx ⟨#[32]⟩ (l.map wS))):=by rw[NA];exact rp E (by rw[CL];ext)
   have A:=jM (d:=32) E;rw[CL]at A;have B:fQ (.str "layer ") (.str (Rx ⟨#[32]⟩ (l.map wS)))=-(.str (kP l)):=jv (by
    unfold kP;cases l with
    |nil=>cases z
    |cons m r=>rw[Ki,RJ,pM]) (by
    have:("layer ":Str).length=6:=by left
    ext)
   have a:((ml b.n.toNat b.wt.toNat::(b.ls.take i).map kP).map lD.str).length<1000000:=by rw[CL,Rk,CL,Sd];ext
   refine⟨_,rfl,ju (pv:=.fz .none) (kF rfl (bK (rv:=.fz (.str (kP l))) aY (jH (rv:=.fz (.str _)) aY rfl (am (cP (gc (d:=u9 l) (by fail "ev") rfl rfl) rfl t) aD) rfl y) rfl rfl B) rfl rfl a rfl) ⟨-(u9 l),?_⟩⟩;rw[Tc,q];simp only[Ya,S6,RJ,TQ,Ul];rfl
 .rintro ρ ⟨o,rfl⟩
  rw[CL,Th (Rr _)]
  with_reducible apply iM (λi ρ=>∃v u:c5 PV,ρ=[-(bD b),ax (.ow ((ml b.n.toNat b.wt.toNat::(b.ls.map kP++(b.cs.take i).map kB)).map .str)),o,v,u])
  .exact gc (d:=.tuple (b.cs.map wN)) (by fail "ev") rfl rfl
  .exact⟨cL,cL,by rw[List.take_zero,TQ,SW]⟩
  .rintro i d ρ hi ⟨v,u,rfl⟩
   rw[Rt]at hi;cases q:b.cs[i]? with
   |none=>rw[q]at hi;cases hi
   |some c=>
    obtain rfl:d=wN c:=by rw[q]at hi;exact(R9 hi).symm
    obtain⟨L,k,F,N⟩:=tT h (RU q);have t:=IM F k;have G:=Hi F k;have p:=qL k;have cl:("chord ":Str).length=6:=by left
    have S:(" ":Str).length=1:=by left
    have B:fQ (.str "chord ") (.str (ki c.1))=-(.str (("chord ":Str)++ki c.1)):=jv rfl (by ext);have P:fQ (.str (("chord ":Str)++ki c.1)) (.str " ")=-(.str (("chord ":Str)++ki c.1++(" ":Str))):=jv rfl (by rw[S9];ext);have O:fQ (.str (("chord ":Str)++ki c.1++(" ":Str))) (.str (lU c.2))=-(.str (kB c)):=jv (by unfold kB;rw[pM,pM,Kg,NA];show _=_++(_++_++lU c.2);simp only[Vm]) (by rw[S9,S9];have:(lU c.2).length=1:=rfl;ext);have a:((ml b.n.toNat b.wt.toNat::(b.ls.map kP++(b.cs.take i).map kB)).map lD.str).length<1000000:=by rw[CL,Rk,Ry,CL,CL,Sd];ext
    refine⟨[-(bD b),ax (.ow ((ml b.n.toNat b.wt.toNat::(b.ls.map kP++(b.cs.take i).map kB)).map .str)),o,-(.tuple (eP c.1)),-(.str (lU c.2))],rfl,ju (pv:=.fz .none) (kF rfl (bK (rv:=.fz (.str (kB c))) (bK (rv:=.fz (.str _)) (bK (rv:=.fz (.str _)) aY (jH (rv:=.fz (.str (ki c.1))) aY rfl (am (cP (gc (d:=.tuple (eP c.1)) (by fail "ev") rfl rfl) rfl t) aD) rfl G) rfl rfl B) aY rfl rfl P) (by fail "ev") rfl rfl O) rfl rfl a rfl) ⟨-(.tuple (eP c.1)),-(.str (lU c.2)),?_⟩⟩;rw[Tc,q];simp only[Ya,S6,RJ,TQ,Ul,T9];rfl
  .rintro ρ ⟨v,u,rfl⟩
   rw[CL,Th (Rr _)];have y:i9 "\n" [.list ((ml b.n.toNat b.wt.toNat::nr b).map .str)]=-(.str (hG b)):=by rw[OJ];have:=rA h;exact rp (lO h) (by rw[Rk];ext)
   exact bX (jH (rv:=.fz (.str (hG b))) aY rfl (by fail "ev") rfl y) rfl rfl
theorem Oc{L nL:Int}{m:Mn}(h:VM L nL m){x:Nat}(a:x=32\/x=10):Fr x (wS m):=by
 unfold Fr;cases m with
 |SR c=>intro z;have:=RA.mp (show x∈[97+c]from z);ext
 |none=>intro z;have:=RA.mp (show x∈[46]from z);ext
 |below=>intro z;have:=RA.mp (show x∈[95]from z);ext
 |Tu n=>intro z;have z:x∈[62,48+n.toNat]:=z;simp only[Rn,Rv,or_false]at z;ext
 |once n=>intro z;have z:x∈[126,48+n.toNat]:=z;simp only[Rn,Rv,or_false]at z;ext
 |Wg c n=>intro z;have z:x∈[97+c,62,48+n.toNat]:=z;simp only[Rn,Rv,or_false]at z;ext
theorem pP{k x:Nat}(a:x<48):Fr x (kq k):=by unfold Fr;intro z;have:=RA.mp (show x∈[48+k]from z);ext
theorem AL{c x:Nat}(a:x<97):Fr x (lU c):=by unfold Fr;intro z;have:=RA.mp (show x∈[97+c]from z);ext
theorem uc:Fr 32 "keys"/\Fr 32 "wait"/\Fr 32 "layer"/\Fr 32 "chord"/\Fr 10 "keys"/\Fr 10 "wait"/\Fr 10 "layer"/\Fr 10 "chord":=by unfold Fr;left
theorem EE{s:cM Nat}{x:Nat}(a:x≠43)(h:x<48):Fr x (ki s):=jB a λw c=>by obtain⟨k,_,rfl⟩:=RF.mp c;exact pP h
theorem oK{P:Str->Prop}:∀w∈([]:cM Str),P w:=λ_ z=>by cases z
theorem Nb{n w x:Nat}(a:x=32\/x=10):∀s∈[("keys":Str),kq n,"wait",kq w],Fr x s:=by
 obtain⟨f,e,_,_,d,c,_,_⟩:=uc;rcases a with rfl|rfl
 .exact bt f (bt (pP (by decide)) (bt e (bt (pP (by decide)) oK)))
 .exact bt d (bt (pP (by decide)) (bt c (bt (pP (by decide)) oK)))
theorem M0{l:cM Mn}{L nL:Int}(c:∀m∈l,VM L nL m){x:Nat}(a:x=32\/x=10):∀s∈("layer":Str)::l.map wS,Fr x s:=by
 obtain⟨_,_,f,_,_,_,e,_⟩:=uc;refine bt ?_ λs d=>by obtain⟨m,hm,rfl⟩:=RF.mp d;exact Oc (c m hm) a
 rcases a with rfl|rfl
 .exact f
 .exact e
theorem Ln{c:cM Nat×Nat}{x:Nat}(a:x=32\/x=10):∀s∈[("chord":Str),ki c.1,lU c.2],Fr x s:=by
 obtain⟨_,_,_,e,_,_,_,d⟩:=uc;rcases a with rfl|rfl
 .exact bt e (bt (EE (by decide) (by decide)) (bt (AL (by decide)) oK))
 .exact bt d (bt (EE (by decide) (by decide)) (bt (AL (by decide)) oK))
theorem IH(h:VB b):∀r∈ml b.n.toNat b.wt.toNat::nr b,Fr 10 r:=by
 refine bt (jB (by decide) (Nb (.inr rfl))) λr d=>?_;rcases Sv.mp d with z|z
 .obtain⟨l,e,rfl⟩:=RF.mp z;obtain⟨_,_,i,a⟩:=oj h e;exact jB (by decide) (M0 a (.inr rfl))
 .obtain⟨c,f,rfl⟩:=RF.mp z;exact jB (by decide) (Ln (.inr rfl))
end
abbrev cd(z:Str):cM Nat:=z.cps.toList
theorem gG{c:Nat}{ws:cM Str}(d:ws≠[])(h:∀w∈ws,Fr c w)(g:(Rx ⟨#[c]⟩ ws).length<=1000)(f:ws.length<=1000):cK c (cd (Rx ⟨#[c]⟩ ws))=ws.map cd:=by
 have a:=vP d h (by ext) (by ext);have b:=kb (c:=c) (l:=cd (Rx ⟨#[c]⟩ ws)) (by have:=gQ (cd (Rx ⟨#[c]⟩ ws));rw[uV]at this;ext);rw[uV,show aO [c]=.str ⟨#[c]⟩from rfl,a]at b;have b:=R9 b;injection b with b
 have b2:ws=(cK c (cd (Rx ⟨#[c]⟩ ws))).map tx:=by have inj:∀{x y:cM Str},x.map lD.str=y.map lD.str->x=y:=λ{x y} z=>(acE (λ_ _ e=>lD.str.inj e)).mp z;apply inj;rw[Sw];exact b
 have:ws.map cd=(cK c (cd (Rx ⟨#[c]⟩ ws))).map (cd∘tx):=by rw[<-Sw,<-b2]
 rw[this];exact(List.map_id' _).symm
theorem tN{k:Nat}(h:k<10):cN (cd (kq k))=ax (k:Int):=by show(if lV (48+k)=OK then ax (((48+k:Nat):Int) - 48)else cL)=_;rw[ak (by unfold lV;rw[Rz];exact⟨a4 (by ext),a4 (by ext)⟩)];congr 1;ext
abbrev Ch:=cM Int×cM Nat
def xW:Mn->Mg
 |.SR c=>.SR [97+c]
 |.Tu n=>.Tu n
 |.Wg c n=>.Wg [97+c] n
 |.once n=>.once n
 |.none=>.none
 |.below=>.below
def x8(c:cM Nat×Nat):Ch:=(c.1.map λk:Nat=>(k:Int),[97+c.2])
def vW(b:Bd):Gb:=⟨b.n,b.ls.map λl=>l.map xW,b.cs.map x8,b.wt⟩
theorem Nd(m:Mn):mG (xW m)=mD m:=by cases m<;>rfl
theorem Nq(l:cM Mn):fA (l.map xW)=u9 l:=by unfold fA u9;rw[Sw];congr 1;exact V1 λm _=>Nd m
theorem Nr(c:cM Nat×Nat):ef (x8 c)=wN c:=by show lD.tuple [.tuple ((c.1.map λk:Nat=>(k:Int)).map lD.int),aO [97+c.2]]=.tuple [.tuple (c.1.map nd),.str (lU c.2)];rw[Sw];rfl
theorem Ot(b:Bd):gD (vW b)=bD b:=by show lD.tuple [.int b.n,.tuple ((b.ls.map λl=>l.map xW).map fA),.tuple ((b.cs.map x8).map ef),.int b.wt]=_;rw[Sw,Sw];unfold bD;rw[show b.ls.map (fA∘λl=>l.map xW)=b.ls.map u9 from V1 λl _=>Nq l,show b.cs.map (ef∘x8)=b.cs.map wN from V1 λc _=>Nr c]
theorem rX{c:Nat}(h:c<26):eY [97+c]=OK:=by
 show(decide (((1:Nat):Int)=1)&&(Ey (97+c)&&OK))=OK;have:Ey (97+c)=OK:=by show(decide (97<=97+c)&&decide (97+c<=122))=OK;rw[a4 (by ext),a4 (by ext)];rfl
 rw[this];rfl
theorem Fx{c:Nat}(h:c<26):IZ [97+c]:=⟨by show 1<=10;decide,λx a=>by rw[RA.mp a];ext⟩
theorem Nf{L nL:Int}{m:Mn}(h:VM L nL m):MF (xW m):=by
 cases m with
 |SR c=>exact Fx h
 |Wg c n=>exact Fx h.1
 |Tu n=>trivial
 |once n=>trivial
 |none=>trivial
 |below=>trivial
theorem Hh{L nL:Int}{m:Mn}(h:VM L nL m):uN (xW m) L nL=OK:=by
 cases m with
 |SR c=>show(!(OK&& !eY [97+c])&&_)=OK;rw[rX h];rfl
 |Wg c n=>show(!(OK&& !eY [97+c])&&(!OK||(decide (1<=n)&&decide (n<nL))))=OK;rw[rX h.1,a4 h.2.1,a4 h.2.2];rfl
 |Tu n=>show(OK&&(!OK||(decide (1<=n)&&decide (n<nL))))=OK;rw[a4 h.1,a4 h.2];rfl
 |once n=>show(OK&&(!OK||(decide (1<=n)&&decide (n<nL))))=OK;rw[a4 h.1,a4 h.2];rfl
 |none=>rfl
 |below=>show(!decide (L=0))=OK;rw[a5 h];rfl
theorem BW:∀{a c:cM Nat},(a.map λk:Nat=>(k:Int))=c.map (λk:Nat=>(k:Int))->a=c
 |[],[],_=>rfl
 |[],_::_,h=>by cases h
 |_::_,[],h=>by cases h
 |x::r,y::t,h=>by rw[RJ,RJ,amO]at h;rw[BW h.2,show x=y by ext]
section
variable{b:Bd}(Z:VB b)
include Z
theorem FQ{i:Nat}(hi:i<b.ls.length):∃l,b.ls[i]?=ax l/\cF (vW b) i=l.map xW/\(l.length:Int)=b.n/\∀m∈l,VM i (b.ls.length:Int) m:=by refine⟨b.ls[i],Rj hi,?_,Z.vl i _ (Rj hi)⟩;show(b.ls.map λl=>l.map xW).getD i []=_;rw[SD,Rt,Rj hi];rfl
theorem IT{c:cM Nat×Nat}(h:VC (b.ls.headD []) c):c.1.length<=5:=by
 obtain⟨l,e,_,d,_⟩:=FQ Z (i:=0) Z.l1;have a:b.ls.headD []=l:=by rw[aaC,aa7,e];rfl
 rw[a]at h;have:=xb h.2.1 (n:=l.length) λk hm=>by
  have:=h.2.2.1 k hm;unfold zB at this;cases q:l[k]? with
  |none=>rw[q]at this;cases this
  |some m=>exact(Rp.mp q).1
 have:=Z.n5;ext
theorem MR:GF 0 (vW b):=by
 refine⟨?_,λl g=>?_,?_,λc h=>?_⟩
 .show(b.ls.map λl=>l.map xW).length<=3;rw[CL];exact Z.l3
 .obtain⟨f,a,rfl⟩:=RF.mp g
  obtain⟨i,hi⟩:=Tr.mp a;obtain⟨n,d⟩:=Z.vl i f hi;refine⟨?_,λm hm=>?_⟩
  .rw[CL];have:=Z.n5;ext
  .obtain⟨e,j,rfl⟩:=RF.mp hm;exact Nf (d e j)
 .show(b.cs.map x8).length<=5;rw[CL];have:=Z.c4;ext
 .obtain⟨c0,a,rfl⟩:=RF.mp h;have v:=Z.vc c0 a;refine⟨?_,Fx v.2.2.2⟩;show(c0.1.map λk:Nat=>(k:Int)).length<=5;rw[CL];exact IT Z v
theorem Mm{i:Nat}(hi:i<b.ls.length):kf (vW b) i=cL:=by
 obtain⟨l,e,c,f,d⟩:=FQ Z hi;unfold kf rY;rw[c,CL,ak (show(l.length:Int)=(vW b).n from f),W6,Um];intro j a;have a:=Sf.mp a;unfold sB;have h:(cF (vW b) i).getD j .none=xW l[j]:=by rw[c,SD,Rt,Rj a];rfl
 have g:(vW b).ls.length=b.ls.length:=CL ..;rw[h,g,Hh (d _ (T1 a))];exact Rg
theorem Kq:rN (vW b)=Rh:=by have g:(vW b).ls.length=b.ls.length:=CL ..;have f:(vW b).cs.length=b.cs.length:=CL ..;obtain⟨e,d,i,h,_,j,_,_,c,a⟩:=Z;unfold rN wJ xy Bz;rw[g,f];show(!(decide (1<=b.n)&&decide (b.n<=5))|| !(decide (1<=(b.ls.length:Int))&&decide ((b.ls.length:Int)<=3))||(decide ((b.cs.length:Int)>4)|| !(decide (1<=b.wt)&&decide (b.wt<=4))))=Rh;rw[a4 e,a4 d,a4 (show(1:Int)<=(b.ls.length:Int) by ext),a4 (show(b.ls.length:Int)<=3 by ext),a5 (show¬(b.cs.length:Int)>4 by ext),a4 c,a4 a];rfl
theorem Il{p:Nat}(t:p<b.cs.length):Ba (vW b) p=Rh:=by
 have G:∀q,q<b.cs.length->∃c,b.cs[q]?=ax c/\jk (vW b) q=x8 c:=λq f=>⟨b.cs[q],Rj f,by show(b.cs.map x8).getD q c0=_;rw[SD,Rt,Rj f];rfl⟩;obtain⟨c,u,F⟩:=G p t;have v:=Z.vc c (RU u);obtain⟨l,e,H,L,K⟩:=FQ Z (i:=0) Z.l1;have r:b.ls.headD []=l:=by rw[aaC,aa7,e];rfl
 rw[r]at v;unfold Ba Hz uo;rw[F,show eY (x8 c).2=OK from rX v.2.2.2];have w:w6 (vW b) (x8 c).1=OK:=by
  have y:rL (x8 c).1=OK:=(rg _).mpr (by show(c.1.map λk:Nat=>(k:Int)).Pairwise (·<·);rw[List.pairwise_map];exact v.2.1.imp λh=>by ext);have B:(x8 c).1.length=c.1.length:=CL ..;have:=v.1;unfold w6;rw[y,B,a5 (by ext),ar (show¬((Rh|| !OK)=OK)from Rg),U7];intro x C;obtain⟨k,E,rfl⟩:=RF.mp C;have o:=v.2.2.1 k E;unfold zB at o;cases q:l[k]? with
  |none=>rw[q]at o;cases o
  |some m=>
   rw[q]at o;have J:=(Rp.mp q).1;unfold vv;rw[H];show((decide (0<=(k:Int))&&decide ((k:Int)<b.n))&&bL ((l.map xW).getD k .none))=OK;rw[a4 (by ext),a4 (by ext),SD,Rt,q];cases m with
   |SR c=>rfl
   |_=>cases o
 have A:(x8 c).1∉((vW b).cs.take p).map (·.1):=λhm=>by
  obtain⟨d,r,j⟩:=RF.mp hm;obtain⟨q,f⟩:=Tr.mp r;have g:q<p:=by have:=(Rp.mp f).1;rw[Sd]at this;ext
  rw[aax g]at f;have a:(b.cs.map x8)[q]?=ax d:=f;rw[Rt]at a;cases z:b.cs[q]? with
  |none=>rw[z]at a;cases a
  |some I=>rw[z]at a;cases a;have ne:=aak.mp Z.cu q p (by ext) t g;rw[(Rp.mp z).2,(Rp.mp u).2]at ne;refine ne ?_;have j:I.1.map (λk:Nat=>(k:Int))=c.1.map λk:Nat=>(k:Int):=j;exact BW j
 rw[w,a5 A];rfl
theorem JZ:kr (vW b)=.none:=Gr (Kq Z) (λj a=>Mm Z (by rwa [show(vW b).ls.length=b.ls.length from CL ..]at a)) λj a=>Il Z (by rwa [show(vW b).cs.length=b.cs.length from CL ..]at a)
end
theorem Ei{n:Int}(a:0<=n)(h:n<=9):cN [48+n.toNat]=ax n:=by have:=tN (k:=n.toNat) (by ext);rw[Vh a]at this;exact this
theorem N0{L nL:Int}{m:Mn}(h:VM L nL m)(b:nL<=3):lC (cd (wS m))=ax (xW m):=by
 cases m with
 |SR c=>show lC [97+c]=ax (.SR [97+c]);have a:c<26:=h;unfold lC;rw[ar (λz=>by have:=(Vw z).1;ext),ar (λz=>by have:=(Vw z).1;ext),ak (rX a)]
 |Tu n=>
  have hn:0<=n/\n<=9:=by have:=h;unfold VM at this;ext
  show lC [62,48+n.toNat]=ax (.Tu n);unfold lC;rw[ar (λz=>by cases z),ar (λz=>by cases z),ar (by exact Rg),ar (λz=>by cases z),ak (show([62,48+n.toNat]:cM Nat)[0]?=ax 62 from rfl)];show(cN [48+n.toNat]).map Mg.Tu=_;rw[Ei hn.1 hn.2];rfl
 |once n=>
  have hn:0<=n/\n<=9:=by have:=h;unfold VM at this;ext
  show lC [126,48+n.toNat]=ax (.once n);unfold lC;rw[ar (λz=>by cases z),ar (λz=>by cases z),ar (by exact Rg),ak (show([126,48+n.toNat]:cM Nat)[0]?=ax 126 from rfl)];show(cN [48+n.toNat]).map Mg.once=_;rw[Ei hn.1 hn.2];rfl
 |Wg c n=>
  have hn:0<=n/\n<=9/\c<26:=by have:=h;unfold VM at this;ext
  show lC [97+c,62,48+n.toNat]=ax (.Wg [97+c] n);rw[QN (i:=1) rfl,ar (by decide),ak (show eY ([97+c,62,48+n.toNat].take 1)=OK from rX hn.2.2)];show(cN [48+n.toNat]).map (Mg.Wg [97+c])=_;rw[Ei hn.1 hn.2.1];rfl
 |none=>rfl
 |below=>rfl
theorem tL:cd "keys"=wK/\cd "wait"=wW/\cd "layer"=wL/\cd "chord"=wC:=by left
theorem zc{α b:Type}{f:α->c5 b}{g:α->b}{l:cM α}(h:∀a∈l,f a=ax (g a)):hJ (l.map f)=ax (l.map g):=by
 induction l with
 |nil=>rfl
 |cons a r c=>rw[RJ,h a Ri];show(hJ (r.map f)).map (g a::·)=_;rw[c λx d=>h x (Rm _ d)];rfl
theorem N7{l:cM Mn}{L nL:Int}(b:l.length<=5)(a:∀m∈l,VM L nL m):cK 32 (cd (kP l))=wL::l.map (λm=>cd (wS m)):=by have:=ze b;have:=gG (c:=32) (ws:=("layer":Str)::l.map wS) (by nofun) (M0 a (.inl rfl)) (by unfold kP at this;ext) (by rw[Rk,CL];ext);rw[RJ,tL.2.2.1,Sw]at this;exact this
theorem OB{l:cM Mn}{L nL:Int}(e:1<=l.length)(c:l.length<=5)(b:∀m∈l,VM L nL m)(d:nL<=3):ja (cK 32 (cd (kP l)))=ax (l.map xW):=by
 rw[N7 c b];cases l with
 |nil=>cases e
 |cons m r=>show(if wL=wL then hJ (((m::r).map λm=>cd (wS m)).map lC)else cL)=_;rw[ak rfl,Sw];exact zc λa ha=>N0 (b a ha) d
theorem M4{n w:Nat}(hn:n<10)(a:w<10):cK 32 (cd (ml n w))=[wK,cd (kq n),wW,cd (kq w)]:=by have:=zv n hn w a;have:=gG (c:=32) (ws:=[("keys":Str),kq n,"wait",kq w]) (by nofun) (Nb (.inl rfl)) (by unfold ml at this;ext) (by show 4<=1000;decide);rw[RJ,RJ,RJ,RJ,TQ,tL.1,tL.2.1]at this;exact this
theorem Nj{n w:Nat}(hn:n<10)(a:w<10):fT (cK 32 (cd (ml n w)))=ax (ax (n:Int),ax (w:Int)):=by rw[M4 hn a,uK,tN hn,tN a];rfl
theorem Hv{s:cM Nat}(b:1<=s.length)(h:s.length<=5)(e:∀k∈s,k<10):hJ ((cK 43 (cd (ki s))).map cN)=ax (s.map λk:Nat=>(k:Int)):=by have:=qL h;have:=gG (c:=43) (ws:=s.map kq) (by intro z;rw[ab7]at z;rw[z]at b;cases b) (λw d=>by obtain⟨k,_,rfl⟩:=RF.mp d;exact pP (by decide)) (by unfold ki at this;ext) (by rw[CL];ext);unfold ki;rw[this,Sw,Sw];exact zc λa ha=>tN (e a ha)
theorem Jf{c:cM Nat×Nat}(e:2<=c.1.length)(a:c.1.length<=5)(b:∀k∈c.1,k<10)(d:c.2<26):ja (cK 32 (cd (kB c)))=cL/\jP (cK 32 (cd (kB c)))=ax (x8 c):=by have:=uu a;have:=gG (c:=32) (ws:=[("chord":Str),ki c.1,lU c.2]) (by nofun) (Ln (.inl rfl)) (by unfold kB at this;ext) (by show 3<=1000;decide);rw[RJ,RJ,RJ,TQ,tL.2.2.2]at this;unfold kB;rw[this];refine⟨by rw[Ig,ar (by decide)],?_⟩;rw[Ew,ar (by rw[show eY (cd (lU c.2))=OK from rX d];decide),Hv (by ext) a b];rfl
theorem LM{nL:Int}(g:nL<=3):∀(ls:cM (cM Mn)) (a:cM (cM Mg)),(∀l∈ls,1<=l.length/\l.length<=5/\∃i:Nat,∀m∈l,VM i nL m)->(ls.map λl=>cd (kP l)).foldlM iz (a,[])=ax (a++ls.map (λl=>l.map xW),([]:cM (cM Int×cM Nat))):=by
 intro ls
 induction ls with
 |nil=>intro a _;rw[TQ,TQ,SW];rfl
 |cons l r b=>
  intro a h;obtain⟨j,f,i,d⟩:=h l Ri;show(iz (a,[]) (cd (kP l))).bind (λs=>(r.map λl=>cd (kP l)).foldlM iz s)=_;have e:iz (a,[]) (cd (kP l))=ax (a++[l.map xW],[]):=by unfold iz;rw[OB j f d g]
  rw[e];show(r.map λl=>cd (kP l)).foldlM iz (a++[l.map xW],[])=_;rw[b _ λx c=>h x (Rm _ c),RJ,T9];rfl
theorem J6:∀(cs:cM (cM Nat×Nat)) (a:cM (cM Mg)) (b:cM (cM Int×cM Nat)),(∀c∈cs,2<=c.1.length/\c.1.length<=5/\(∀k∈c.1,k<10)/\c.2<26)->(cs.map λc=>cd (kB c)).foldlM iz (a,b)=ax (a,b++cs.map x8):=by
 intro cs
 induction cs with
 |nil=>intro a b _;rw[TQ,TQ,SW];rfl
 |cons c r j=>
  intro a b h;obtain⟨i,g,d,f⟩:=h c Ri;show(iz (a,b) (cd (kB c))).bind (λs=>(r.map λc=>cd (kB c)).foldlM iz s)=_;have e:iz (a,b) (cd (kB c))=ax (a,b++[x8 c]):=by unfold iz;rw[(Jf i g d f).1,(Jf i g d f).2];rfl
  rw[e];show(r.map λc=>cd (kB c)).foldlM iz (a,b++[x8 c])=_;rw[j _ _ λx l=>h x (Rm _ l),RJ,T9];rfl
theorem Px:lD.strOk "letter"=OK/\lD.strOk "none"=OK/\lD.strOk "below"=OK/\lD.strOk "layer"=OK/\lD.strOk "once"=OK/\lD.strOk "tap"=OK:=by left
section
variable{b:Bd}
theorem Lm{s:Str}(h:∀x:Nat,0x110000<=x->Fr x s):lD.strOk s=OK:=by show s.cps.all (λx=>decide (x<0x110000))=OK;rw[Yx];intro x a;refine a4 (adB λz=>h x z ?_);exact VJ.mpr a
theorem tW{s:Str}(h:lD.strOk s=OK){x:Nat}(a:0x110000<=x):Fr x s:=by intro z;have h:s.cps.all (λx=>decide (x<0x110000))=OK:=h;rw[Yx]at h;have:=a6 (h x (VJ.mp z));ext
theorem MX{L nL:Int}{m:Mn}(h:VM L nL m)(e:nL<=3){x:Nat}(d:0x110000<=x):Fr x (wS m):=by
 unfold Fr;cases m with
 |SR c=>intro z;have a:c<26:=h;have:=RA.mp (show x∈[97+c]from z);ext
 |none=>intro z;have:=RA.mp (show x∈[46]from z);ext
 |below=>intro z;have:=RA.mp (show x∈[95]from z);ext
 |Tu n=>intro z;have hn:1<=n/\n<nL:=h;have z:x∈[62,48+n.toNat]:=z;simp only[Rn,Rv,or_false]at z;ext
 |once n=>intro z;have hn:1<=n/\n<nL:=h;have z:x∈[126,48+n.toNat]:=z;simp only[Rn,Rv,or_false]at z;ext
 |Wg c n=>intro z;have a:c<26:=h.1;have hn:1<=n/\n<nL:=h.2;have z:x∈[97+c,62,48+n.toNat]:=z;simp only[Rn,Rv,or_false]at z;ext
theorem PM{k x:Nat}(c:k<10)(a:0x110000<=x):Fr x (kq k):=by intro z;have:=RA.mp (show x∈[48+k]from z);ext
theorem Q8{c x:Nat}(d:c<26)(a:0x110000<=x):Fr x (lU c):=by intro z;have:=RA.mp (show x∈[97+c]from z);ext
theorem NV:lD.strOk "keys"=OK/\lD.strOk "wait"=OK/\lD.strOk "chord"=OK:=by left
theorem yR(h:VB b):lD.strOk (hG b)=OK:=by
 have w:=h.n5;have v:=h.w4;have y:=h.l3;obtain⟨n,j,g⟩:=NV;refine Lm λx a=>jB (by ext) (bt (jB (by ext) ?_) λr p=>?_)
 .exact bt (tW n a) (bt (PM (by ext) a) (bt (tW j a) (bt (PM (by ext) a) oK)))
 .rcases Sv.mp p with z|z
  .obtain⟨l,q,rfl⟩:=RF.mp z;obtain⟨_,_,i,o⟩:=oj h q;refine jB (by ext) (bt (tW Px.2.2.2.1 a) λs d=>?_);obtain⟨m,hm,rfl⟩:=RF.mp d;exact MX (o m hm) (by ext) a
  .obtain⟨c,u,rfl⟩:=RF.mp z;obtain⟨_,_,t,f⟩:=tT h u;refine jB (by ext) (bt (tW g a) (bt (jB (by ext) λs d=>?_) (bt (Q8 f a) oK)));obtain⟨k,e,rfl⟩:=RF.mp d;exact PM (t k e) a
end
section
variable{b:Bd}
theorem vF(h:VB b):cK 10 (cd (hG b))=cd (ml b.n.toNat b.wt.toNat)::(nr b).map cd:=by have e:=rA h;have a:=jM (d:=10) (lO h);rw[Rk]at a;exact gG (c:=10) (ws:=ml b.n.toNat b.wt.toNat::nr b) (by nofun) (IH h) (by ext) (by rw[Rk];ext)
theorem FU(h:VB b):ic ((nr b).map cd)=ax ((vW b).ls,(vW b).cs):=by unfold ic nr;rw[S6,Yr,Sw,Sw];have f:=h.l3;have e:=LM (nL:=(b.ls.length:Int)) (by ext) b.ls [] λl a=>oj h a;rw[VY]at e;show(((b.ls.map λl=>cd (kP l)).foldlM iz ([],[])).bind λs=>(b.cs.map λc=>cd (kB c)).foldlM iz s)=_;rw[e];show(b.cs.map λc=>cd (kB c)).foldlM iz (b.ls.map (λl=>l.map xW),[])=_;rw[J6 b.cs _ _ λc d=>tT h d,VY];rfl
theorem D3{s:Str}(h:lD.strOk s=OK):kn (cd s):=λc a=>by apply adB;intro z;exact tW h z a
theorem Di(h:VB b):aW [.str (hG b)]=.ok (.fz (bD b)):=by
 have e:=vF h;have f:=D3 (yR h);have G:=h.n1;have F:=h.n5;have C:=h.w1;have B:=h.w4;have E:=rA h;have o:(cd (hG b)).length<=900:=by
  have u:=jM (d:=10) (lO h);rw[Rk]at u;have:(hG b).length=(cd (hG b)).length:=by rw[<-gQ (cd (hG b)),uV]
  unfold hG at this;unfold hG;ext
 have m:=(e8 10 (cd (hG b))).1;rw[e]at m;have t:Yj ((nr b).map cd):=⟨by rw[CL];ext,λx j=>by
  have a:=m x (Rm _ j);obtain⟨r,q,rfl⟩:=RF.mp j;have:=lO h r (Rm _ q);refine⟨?_,λz p=>f z (a.2.2 z p)⟩;have:r.length=(cd r).length:=by rw[<-gQ (cd r),uV]
  ext⟩
 have hn:=Nj (n:=b.n.toNat) (w:=b.wt.toNat) (by ext) (by ext);rw[Vh (by ext),Vh (by ext)]at hn;have v:GF 400 (vW b):=by have g:=MR h;exact⟨by have:=g.ll;ext,λl k=>⟨by have:=(g.lm l k).1;ext,(g.lm l k).2⟩,by have:=g.cl;ext,λc f=>⟨by have:=(g.cm c f).1;ext,(g.cm c f).2⟩⟩
 have y:=JZ h;show aW [aO (cd (hG b))]=_;rcases oZ v (by ext)with⟨_,A⟩|⟨x,_,i⟩
 .rw[<-Ot b];exact Cv (Bw o f e t hn (FU h) A)
 .rw[y]at i;exact a7 i Cu
end
theorem wb{c:Nat}{y v:cM Nat}{q:cM (cM Nat)}(g:cK c y=v::q):∀x:cM Nat,∃p u,cK c x=p++[u]/\cK c (x++y)=p++(u++v)::q:=by
 intro x
 induction x with
 |nil=>exact⟨[],[],rfl,g⟩
 |cons a r f=>
  obtain⟨p,u,d,b⟩:=f;by_cases n:a=c
  .subst n;exact⟨[]::p,u,by rw[nt,d];rfl,by rw[Ul,nt,b];rfl⟩
  .cases p with
   |nil=>exact⟨[],a::u,by rw[gM n d];rfl,by rw[Ul,gM n b];rfl⟩
   |cons e ps=>exact⟨(a::e)::ps,u,by rw[gM n d];rfl,by rw[Ul,gM n b];rfl⟩
theorem zn(c:Nat)(x y:cM Nat):∀w∈cK c (x++y),w∈cK c x\/w∈cK c y\/∃u∈cK c x,∃v∈cK c y,w=u++v:=by
 intro w a;obtain⟨v,q,b⟩:=hW c y;obtain⟨p,u,e,d⟩:=wb b x;rw[d]at a;rw[e,b];rcases Sv.mp a with a|a
 .exact .inl (T6 _ a)
 .rcases Rn.mp a with rfl|a
  .exact .inr (.inr ⟨u,RN _ Ri,v,Ri,rfl⟩)
  .exact .inr (.inl (Rm _ a))
theorem DA(c:Nat)(t:cM Nat)(a:Nat):∀w∈cK c (t.take a),∃v∈cK c t,w.Sublist v:=by
 intro w b;obtain⟨v,q,f⟩:=hW c (t.drop a);obtain⟨p,u,e,d⟩:=wb f (t.take a);rw[TY]at d;rw[e]at b;rw[d];rcases Sv.mp b with b|b
 .exact⟨w,T6 _ b,XA _⟩
 .obtain rfl:=RA.mp b;exact⟨w++v,RN _ Ri,List.sublist_append_left _ _⟩
theorem Dy(c:Nat)(t:cM Nat)(a:Nat):∀w∈cK c (t.drop a),∃v∈cK c t,w.Sublist v:=by
 intro w b;obtain⟨v,q,e⟩:=hW c (t.drop a);obtain⟨p,u,f,d⟩:=wb e (t.take a);rw[TY]at d;rw[e]at b;rw[d];rcases Rn.mp b with rfl|b
 .exact⟨u++w,RN _ Ri,List.sublist_append_right _ _⟩
 .exact⟨w,RN _ (Rm _ b),XA _⟩
structure TB(L P n T:Nat)(t:cM Nat):Prop where
 c:kn t
 l:t.length<=T
 n:t.count 10<=n
 r:∀x∈cK 10 t,x.length<=L/\x.count 43<=P
theorem TB.ok{L P n T:Nat}{t:cM Nat}(h:TB L P n T t)(f:L<=390)(e:P<=50)(d:n<300)(b:T<=900):ac4 t:=⟨by have:=h.l;ext,h.c,by rw[(kW 10 t).2];have:=h.n;ext,λx a=>by have:=h.r x a;ext⟩
theorem GW{m:cM Nat}(h:m.length<=1):∀w∈cK 10 m,w.length<=1/\w.count 43<=1:=λw c=>by have a:=((e8 10 m).1 w c).2.1;have b:=abQ (a:=43) (l:=w);ext
theorem TB.sign{L P n T:Nat}{t:cM Nat}(h:TB L P n T t){m:cM Nat}(hm:m.length<=1)(k:kn m){a b:Nat}(o:a<=b):TB (2*L+1) (2*P+1) (n+1) (T+1) (t.take a++m++t.drop b):=by
 refine⟨?_,?_,?_,?_⟩
 .intro x d
  rcases Sv.mp d with d|d
  .rcases Sv.mp d with d|d
   .exact h.c x (U3 d)
   .exact k x d
  .exact h.c x (VV d)
 .have:=h.l;simp only[Ry,Sd,Sl];ext
 .have A:=h.n
  have y:=abQ (a:=10) (l:=m);have q:(t.take a).count 10+(t.drop a).count 10=t.count 10:=by rw[<-WC,TY]
  have p:(t.drop b).count 10<=(t.drop a).count 10:=by
   have:t.drop b=(t.drop a).drop (b - a):=by rw[List.drop_drop];congr 1;ext
   rw[this];exact(List.drop_sublist _ _).count_le 10
  simp only[WC];ext
 .have i:∀w∈cK 10 (t.take a),w.length<=L/\w.count 43<=P:=λw e=>by
   obtain⟨v,f,s⟩:=DA 10 t a w e;have:=h.r v f;have:=s.length_le;have:=s.count_le 43;ext
  have j:∀w∈cK 10 (t.drop b),w.length<=L/\w.count 43<=P:=λw e=>by obtain⟨v,f,s⟩:=Dy 10 t b w e;have:=h.r v f;have:=s.length_le;have:=s.count_le 43;ext
  have g:∀w∈cK 10 (t.take a++m),w.length<=L+1/\w.count 43<=P+1:=λw e=>by
   rcases zn 10 _ _ w e with z|z|⟨u,hu,v,f,rfl⟩
   .have:=i w z;ext
   .have:=GW hm w z;ext
   .have:=i u hu;have:=GW hm v f;simp only[Ry,WC];ext
  intro w e;rcases zn 10 _ _ w e with z|z|⟨u,hu,v,f,rfl⟩
  .have:=g w z;ext
  .have:=j w z;ext
  .have:=g u hu;have:=j v f;simp only[Ry,WC];ext
def jn:cM (cM Nat)->cM Nat
 |[]=>[]
 |[w]=>w
 |w::v::r=>w++10::jn (v::r)
theorem OL{c:Nat}{w r:cM Nat}(h:c∉w):cK c (w++c::r)=w::cK c r:=by
 induction w with
 |nil=>exact nt
 |cons a w b=>have n:a≠c:=λz=>h (by rw[z];exact Ri);rw[Ul,gM n (b λz=>h (Rm _ z))]
theorem NG{c:Nat}{w:cM Nat}(h:c∉w):cK c w=[w]:=by
 induction w with
 |nil=>rfl
 |cons a w b=>have n:a≠c:=λz=>h (by rw[z];exact Ri);rw[gM n (b λz=>h (Rm _ z))]
theorem LU:∀{ws:cM (cM Nat)},ws≠[]->(∀w∈ws,10∉w)->cK 10 (jn ws)=ws:=by
 intro ws
 induction ws with
 |nil=>intro h;exact a7 rfl h
 |cons w r a=>
  intro _ h;cases r with
  |nil=>exact NG (h w Ri)
  |cons v r=>show cK 10 (w++10::jn (v::r))=_;rw[OL (h w Ri),a (λz=>by cases z) λx b=>h x (Rm _ b)]
theorem BT(c:Nat)(t:cM Nat):t.length+1=((cK c t).map λw=>w.length+1).sum:=by
 induction t with
 |nil=>rfl
 |cons a r b=>
  obtain⟨w,d,e⟩:=hW c r;by_cases n:a=c
  .subst n;rw[nt,RJ,VR,<-b];simp only[Rk,TR];ext
  .rw[gM n e];rw[e]at b;simp only[RJ,VR,Rk]at b⊢;ext
theorem Nw:∀ws:cM (cM Nat),Rx ⟨#[10]⟩ (ws.map tx)=tx (jn ws):=by
 intro ws
 induction ws with
 |nil=>rfl
 |cons w r a=>
  cases r with
  |nil=>rfl
  |cons v r=>show tx w++tx [10]++Rx ⟨#[10]⟩ ((v::r).map tx)=_;rw[a,pz,pz,T9];rfl
theorem K1{x:Nat}:∀{ws:cM (cM Nat)},x∈jn ws->x=10\/∃w∈ws,x∈w:=by
 intro ws
 induction ws with
 |nil=>intro h;cases h
 |cons w r a=>
  intro h;cases r with
  |nil=>exact .inr ⟨w,Ri,h⟩
  |cons v r=>
   rcases Sv.mp (show x∈w++10::jn (v::r)from h)with h|h
   .exact .inr ⟨w,Ri,h⟩
   .rcases Rn.mp h with h|h
    .exact .inl h
    .rcases a h with z|⟨u,hu,z⟩
     .exact .inl z
     .exact .inr ⟨u,Rm _ hu,z⟩
theorem TB.rows{L P n T:Nat}{t:cM Nat}(h:TB L P n T t){ws:cM (cM Nat)}(a:ws.Perm (cK 10 t)\/∃r∈cK 10 t,ws.Perm (r::cK 10 t)):TB (2*L+1) (2*P+1) (n+1) (T+L+1) (jn ws):=by
 have f:=(e8 10 t).1;obtain⟨m,k,i⟩:=hW 10 t;have mem:∀w∈ws,w∈cK 10 t:=λw b=>by
  rcases a with a|⟨r,hr,a⟩
  .exact a.mem_iff.mp b
  .rcases Rn.mp (a.mem_iff.mp b)with rfl|z
   .exact hr
   .exact z
 have ne:ws≠[]:=λz=>by
  subst z;rcases a with a|⟨r,hr,a⟩
  .have:=a.length_eq;rw[i]at this;cases this
  .have:=a.length_eq;cases this
 have e:=LU ne λw b=>(f w (mem w b)).1;have g:=BT 10 (jn ws);have lt:=BT 10 t;rw[e]at g;have o:(ws.map λw=>w.length+1).sum<=((cK 10 t).map λw=>w.length+1).sum+L+1/\ws.length<=(cK 10 t).length+1:=by
  rcases a with a|⟨r,hr,a⟩
  .have:=(a.map λw:cM Nat=>w.length+1).sum_nat;have:=a.length_eq;ext
  .have:=(a.map λw:cM Nat=>w.length+1).sum_nat;have:=a.length_eq;have:=(h.r r hr).1;simp only[RJ,VR,Rk] at*;ext
 have j:=(kW 10 (jn ws)).2;have p:=(kW 10 t).2;rw[e]at j;refine⟨?_,by have:=h.l;ext,by have:=h.n;ext,λx d=>?_⟩
 .intro x d
  rcases K1 d with rfl|⟨w,b,z⟩
  .omega
  .exact h.c x ((f w (mem w b)).2.2 x z)
 .rw[e]at d;have:=h.r x (mem x d);ext
theorem Hb{x c:Nat}(n:x≠c)(t:cM Nat):t.count x=((cK c t).map λw=>w.count x).sum:=by
 induction t with
 |nil=>rfl
 |cons a r b=>
  obtain⟨w,d,e⟩:=hW c r;by_cases h:a=c
  .subst h;rw[nt,RJ,VR,<-b,abk (et n),List.count_nil,Wf]
  .rw[gM h e];rw[e]at b;simp only[RJ,VR,List.count_cons]at b⊢;ext
theorem PU(m:Mn):Fr 43 (wS m):=by
 unfold Fr;cases m with
 |SR c=>intro z;have:=RA.mp (show 43∈[97+c]from z);ext
 |none=>intro z;have:=RA.mp (show 43∈[46]from z);ext
 |below=>intro z;have:=RA.mp (show 43∈[95]from z);ext
 |Tu n=>intro z;have z:43∈[62,48+n.toNat]:=z;simp only[Rn,Rv,or_false]at z;ext
 |once n=>intro z;have z:43∈[126,48+n.toNat]:=z;simp only[Rn,Rv,or_false]at z;ext
 |Wg c n=>intro z;have z:43∈[97+c,62,48+n.toNat]:=z;simp only[Rn,Rv,or_false]at z;ext
theorem QH:Fr 43 "layer"/\Fr 43 "chord":=by unfold Fr;left
theorem Kz{s:Str}(h:Fr 43 s):(cd s).count 43=0:=List.count_eq_zero.mpr h
theorem MY:∀n:Nat,n<10->∀w:Nat,w<10->(cd (ml n w)).count 43<=4:=by left
theorem NX(l:cM Mn):(cd (kP l)).count 43<=4:=by have:=Kz (s:=kP l) (jB (by decide) (bt QH.1 λs a=>by obtain⟨m,_,rfl⟩:=RF.mp a;exact PU m));ext
theorem MJ{c:cM Nat×Nat}(b:2<=c.1.length)(a:c.1.length<=5):(cd (kB c)).count 43<=4:=by have f:=uu a;have e:=gG (c:=32) (ws:=[("chord":Str),ki c.1,lU c.2]) (by nofun) (Ln (.inl rfl)) (by unfold kB at f;ext) (by show 3<=1000;decide);have d:=qL a;have i:=gG (c:=43) (ws:=c.1.map kq) (by intro z;rw[ab7]at z;rw[z]at b;cases b) (λw h=>by obtain⟨k,_,rfl⟩:=RF.mp h;exact pP (by decide)) (by unfold ki at d;ext) (by rw[CL];ext);have g:=(kW 43 (cd (ki c.1))).2;rw[show ki c.1=Rx ⟨#[43]⟩ (c.1.map kq)from rfl,i,CL,CL]at g;have l:=Kz QH.2;have j:=Kz (AL (c:=c.2) (x:=43) (by decide));rw[Hb (x:=43) (c:=32) (by decide),show kB c=Rx ⟨#[32]⟩ [("chord":Str),ki c.1,lU c.2]from rfl,e];simp only[RJ,TQ,VR,List.sum_nil];rw[l,j,show ki c.1=Rx ⟨#[43]⟩ (c.1.map kq)from rfl];ext
theorem Af(s:Str):s.length=(cd s).length:=by rw[<-gQ (cd s),uV]
theorem HN{b:Bd}(h:VB b):TB 36 4 7 296 (cd (hG b)):=by
 have o:=rA h;have e:=vF h;have q:=h.n1;have p:=h.n5;have n:=h.w1;have m:=h.w4;refine⟨D3 (yR h),?_,?_,?_⟩
 .have f:=jM (d:=10) (lO h);rw[Rk]at f;rw[<-Af];unfold hG;ext
 .have:=(kW 10 (cd (hG b))).2;rw[e,Rk,CL]at this;ext
 .rw[e]
  have g:=lO h;intro x a;rcases Rn.mp a with rfl|a
  .have:=g _ Ri;rw[Af]at this;exact⟨this,MY _ (by ext) _ (by ext)⟩
  .obtain⟨r,i,rfl⟩:=RF.mp a
   have:=g r (Rm _ i);rw[Af]at this;refine⟨this,?_⟩;rcases Sv.mp i with z|z
   .obtain⟨l,_,rfl⟩:=RF.mp z;exact NX l
   .obtain⟨c,j,rfl⟩:=RF.mp z;obtain⟨f,k,_⟩:=tT h j;exact MJ f k
theorem TB.mono{L P n T T':Nat}{t:cM Nat}(h:TB L P n T t)(a:T<=T'):TB L P n T' t:=⟨h.c,by have:=h.l;ext,h.n,h.r⟩
def Pt:cM Nat:=[48,49,50,51,32,97,98,62,126,46,95,43,122,10,107,101,65,45,9]
theorem Kf{y:Int}(d:0<=y)(h:y<19):∃c,c<1114112/\DN (.str "0123 ab>~._+z\nkeA-\t") (.int y)=-(aO [c]):=by
 have b:("0123 ab>~._+z\nkeA-\t":Str).length<=1000000:=by left
 have a:∀c,c<19->(("0123 ab>~._+z\nkeA-\t":Str).cps.toList)[c]?=ax (Pt.getD c 0):=by left
 have ok:∀c,c<19->Pt.getD c 0<1114112:=by left
 refine⟨Pt.getD y.toNat 0,ok _ (by ext),?_⟩;show(if("0123 ab>~._+z\nkeA-\t":Str).length<=1000000 then(pU ("0123 ab>~._+z\nkeA-\t":Str).cps.toList y).map (λc=>RV.fz (.str ⟨#[c]⟩))else cL)=_;rw[ak b,tw d (a y.toNat (by ext))];rfl
theorem Og{k n:Nat}(h:k<n):seqIndex? (k:Int) n=ax k:=by unfold seqIndex?;simp;ext
theorem LG{ws:cM (cM Nat)}{k:Nat}{w:cM Nat}(h:ws[k]?=ax w):bx (.list (ws.map aO)) (.int (k:Int))=-(aO w):=nw (by ext) (by rw[Sy,Rt,h];rfl)
theorem kj(x:Int){m:Nat}(h:0<m):∃a:Nat,a<m/\cq (.int x) (.int (m:Int))=-(.int (a:Int)):=by have b:=Tv x (show(m:Int)≠0 by ext);have c:=T3 x (show 0<(m:Int) by ext);refine⟨(x % (m:Int)).toNat,by ext,?_⟩;rw[eK (by ext),Vh b]
theorem Hr{ws:cM (cM Nat)}{B:Nat}(h:∀w∈ws,w.length<=B)(c:ws.length*B+ws.length<=1000000):i9 "\n" [.list (ws.map aO)]=-(aO (jn ws)):=by have:=rp (d:=10) (ws:=ws.map tx) (B:=B) (λw a=>by obtain⟨v,b,rfl⟩:=RF.mp a;rw[gQ];exact h v b) (by rw[CL];exact c);rw[Nw,Sw]at this;rw[OJ];exact this
abbrev eC(t:cM Nat)(x y:Int)(c b a o7:c5 PV):bA:=[-(aO t),-(.int x),-(.int y),-(.str "0123 ab>~._+z\nkeA-\t"),c,b,a,o7]
theorem rO:∀(a:cM (cM Nat)) (i:Nat),(a.map aO).eraseIdx i=(a.eraseIdx i).map aO:=by
 intro a
 induction a with
 |nil=>intro i;rfl
 |cons u r b=>
  intro i;cases i with
  |zero=>rfl
  |succ i=>show aO u::(r.map aO).eraseIdx i=aO u::(r.eraseIdx i).map aO;rw[b]
theorem BN(a:cM (cM Nat))(p:Nat)(r:cM Nat):(a.map aO).take p++aO r::(a.map aO).drop p=(a.take p++r::a.drop p).map aO:=by rw[S6,RJ,Yf,WN]
theorem AX{b:cM (cM Nat)}{k:Nat}(h:k<b.length):(b[k]::b.eraseIdx k).Perm b:=by have:=(adp (a:=b[k]) (l₁:=b.take k) (l₂:=b.drop (k+1))).symm;rwa [<-List.eraseIdx_eq_take_drop_succ,<-Wy h,TY]at this
theorem yX(b:cM (cM Nat))(p:Nat)(r:cM Nat):(b.take p++r::b.drop p).Perm (r::b):=by have:=adp (a:=r) (l₁:=b.take p) (l₂:=b.drop p);rwa [TY]at this
theorem AR{L P n T:Nat}{t:cM Nat}(h:TB L P n T t)(hT:T+L+1<=990)(x y:Int):∃t',TB (2*L+1) (2*P+1) (n+1) (T+L+1) t'/\dW [aO t,.int x,.int y]=.ok (.fz (aO t')):=by
 have I:∃rv,dI 8 i6 [aO t,.int x,.int y]=.ok rv/\∃t',TB (2*L+1) (2*P+1) (n+1) (T+L+1) t'/\rv=.fz (aO t'):=by
  have hl:=h.l;have u:t.length<=1000:=by ext
  have ln:=pX u;obtain⟨a,ha,S⟩:=kj x (m:=t.length+1) (by ext);obtain⟨j,hj,Q⟩:=kj y (m:=19) (by decide);obtain⟨c,hc,s1⟩:=Kf (y:=(j:Int)) (by ext) (by ext);have d1:c9 (.int y) (.int 19)=-(.int (y/19)):=eX (by decide);obtain⟨w,hw,O⟩:=kj (y/19) (m:=6) (by decide);have S:cq (.int x) (.int ((t.length:Int)+1))=-(.int (a:Int)):=S;have Q:cq (.int y) (.int 19)=-(.int (j:Int)):=Q;have O:cq (.int (y/19)) (.int 6)=-(.int (w:Int)):=O;refine nj (ρ:=[-(aO t),-(.int x),-(.int y),cL,cL,cL,cL,cL]) rfl ?_;unfold i6;refine bJ (ρ3:=eC t x y cL cL cL cL) aY rfl rfl ?_;refine bJ (ρ3:=eC t x y (-(.int a)) cL cL cL) (by fail "ev") rfl rfl ?_;refine bJ (ρ3:=eC t x y (-(.int a)) (-(aO [c])) cL cL) (by fail "ev") rfl rfl ?_;refine bJ (ρ3:=eC t x y (-(.int a)) (-(aO [c])) (-(.int w)) cL) (by fail "ev") rfl rfl ?_;have t0:=lK u a;have f1:bT (aO t) (ax ((a:Int)+1)) cL=-(aO (t.drop (a+1))):=iq u (a+1);have f0:=iq u a;have f2:bT (aO t) (ax (a:Int)) (ax ((a:Int)+1))=-(aO ((t.drop a).take 1)):=by have:=tF u (a:=a) (b:=a+1) (by ext);rw[show a+1 - a=1 by ext]at this;exact this
  have lt:(t.take a).length<=t.length:=by rw[Sd];ext
  have ld:(t.drop a).length<=t.length:=by rw[Sl];ext
  have lm:((t.drop a).take 1).length<=1:=by rw[Sd];ext
  have l3:(t.take a).length+(t.drop a).length=t.length:=by rw[<-Ry,TY]
  have l4:(t.drop (a+1)).length<=(t.drop a).length:=by rw[Sl,Sl];ext
  refine bN (b:=decide ((w:Int)=0)) (by fail "ev") (λq=>?_) (λq=>bb ?_)
  .have Y:=oO (a:=t.take a) (b:=t.drop (a+1)) (by ext);refine cx (pv:=.fz (aO (t.take a++t.drop (a+1)))) (by fail "evp") rfl ⟨_,?_,rfl⟩;have:=(h.sign (m:=[]) (by decide) (λx J=>by cases J) (a:=a) (b:=a+1) (by ext)).mono (T':=T+L+1) (by ext);rw[SW]at this;exact this
  refine bN (b:=decide ((w:Int)=1)) (by fail "ev") (λq=>?_) (λq=>bb ?_)
  .have Y:=oO (a:=t.take a) (b:=(t.drop a).take 1) (by ext);have N:=oO (a:=t.take a++(t.drop a).take 1) (b:=t.drop a) (by rw[Ry];ext);refine cx (pv:=.fz (aO (t.take a++(t.drop a).take 1++t.drop a))) (by fail "evp") rfl ⟨_,?_,rfl⟩;exact(h.sign lm (λx J=>h.c x (VV (U3 J))) (Rr a)).mono (by ext)
  have X:kn [c]:=yn hc;have Y:=oO (a:=t.take a) (b:=[c]) (by show _+1<=_;ext);refine bN (b:=decide ((w:Int)=2)) (by fail "ev") (λq=>?_) (λq=>bb ?_)
  .have N:=oO (a:=t.take a++[c]) (b:=t.drop a) (by rw[Ry];show _+1+_<=_;ext);refine cx (pv:=.fz (aO (t.take a++[c]++t.drop a))) (by fail "evp") rfl ⟨_,?_,rfl⟩;exact(h.sign (m:=[c]) (Rr 1) X (Rr a)).mono (by ext)
  refine bN (b:=decide ((w:Int)=3)) (by fail "ev") (λq=>?_) (λq=>bb ?_)
  .have N:=oO (a:=t.take a++[c]) (b:=t.drop (a+1)) (by rw[Ry];show _+1+_<=_;ext);refine cx (pv:=.fz (aO (t.take a++[c]++t.drop (a+1)))) (by fail "evp") rfl ⟨_,?_,rfl⟩;exact(h.sign (m:=[c]) (Rr 1) X (VW a)).mono (by ext)
  have M:lD.str "\n"=aO [10]:=by show lD.str _=lD.str _;congr 1
  have F:=kb (c:=10) u;rw[<-M]at F;have E:=e8 10 t;have Z:=sg (cK 10 t);have d:=λws K=>h.rows (ws:=ws) K;have f:0<(cK 10 t).length:=by obtain⟨w0,wr,e0⟩:=hW 10 t;rw[e0];exact Nat.succ_pos _
  generalize cK 10 t=R at F E Z d f;refine bJ (ρ3:=eC t x y (-(.int a)) (-(aO [c])) (-(.int w)) (ax (.ow (R.map aO)))) (jH (aw rfl) rfl (am aY aD) rfl F) rfl rfl ?_;obtain⟨k,C,m4⟩:=kj x (m:=R.length) f;refine bJ (ρ3:=eC t x y (-(.int k)) (-(aO [c])) (-(.int w)) (ax (.ow (R.map aO)))) (by fail "ev") rfl rfl ?_;have U:∀ws:cM (cM Nat),(∀v∈ws,v∈R)->ws.length<=R.length+1->i9 "\n" [.list (ws.map aO)]=-(aO (jn ws)):=λws hm hn=>Hr (B:=990) (λv A=>by have:=(E.1 v (hm v A)).2.1;ext) (by have:=E.2;ext);have i:R[k]?=ax R[k]:=Rj C;have o:R[k]∈R:=T1 C;generalize hrk:R[k]=r at i o;refine bN (b:=decide ((w:Int)=4)) (by fail "ev") (λq=>?_) (λq=>?_)
  .obtain⟨p,K,H⟩:=kj (y/114) (m:=R.length+1) (by ext)
   have H:cq (.int (y/114)) (.int ((R.length:Int)+1))=-(.int (p:Int)):=H;have d5:c9 (.int y) (.int 114)=-(.int (y/114)):=eX (by decide);have ix:=LG i;have g:=yX R p r;refine qh (ρ1:=eC t x y (-(.int k)) (-(aO [c])) (-(.int w)) (ax (.ow ((R.map aO).take p++aO r::(R.map aO).drop p)))) (GQ (ρ:=eC t x y (-(.int k)) (-(aO [c])) (-(.int w)) (ax (.ow (R.map aO)))) (ρ1:=eC t x y (-(.int k)) (-(aO [c])) (-(.int w)) (ax (.ow (R.map aO)))) (ρ2:=eC t x y (-(.int k)) (-(aO [c])) (-(.int w)) (ax (.ow (R.map aO)))) (ρ3:=eC t x y (-(.int k)) (-(aO [c])) (-(.int w)) (ax (.ow (R.map aO)))) (pv1:=.fz (.int (p:Int))) (pv2:=.fz (aO r)) (n:=p) (d2:=aO r) (ds0:=R.map aO) (ds:=R.map aO) rfl (by fail "evp") rfl (by fail "evp") rfl rfl (by rw[CL];ext) (by rw[CL];have:=E.2;ext)) ?_;rw[BN];refine bX (jH (rv:=.fz (aO (jn (R.take p++r::R.drop p)))) aY rfl (am (dA rfl) aD) rfl (U _ (λv A=>?_) (by rw[g.length_eq];exact Rr _))) rfl ⟨_,d _ (.inr ⟨r,o,g⟩),rfl⟩;rcases Rn.mp (g.mem_iff.mp A)with rfl|z
   .exact o
   .exact z
  .obtain⟨p,K,H⟩:=kj (y/228) (m:=R.length) f
   have d5:c9 (.int y) (.int 228)=-(.int (y/228)):=eX (by decide);have el:=List.length_eraseIdx_of_lt C;have G:(r::R.eraseIdx k).Perm R:=by rw[<-hrk];exact AX C
   have g:=(yX (R.eraseIdx k) p r).trans G;have N:=E.2;refine qh (ρ1:=eC t x y (-(.int k)) (-(aO [c])) (-(.int w)) (ax (.ow (((R.map aO).eraseIdx k).take p++aO r::((R.map aO).eraseIdx k).drop p)))) (GQ (ρ:=eC t x y (-(.int k)) (-(aO [c])) (-(.int w)) (ax (.ow (R.map aO)))) (ρ1:=eC t x y (-(.int k)) (-(aO [c])) (-(.int w)) (ax (.ow (R.map aO)))) (ρ2:=eC t x y (-(.int k)) (-(aO [c])) (-(.int w)) (ax (.ow ((R.map aO).eraseIdx k)))) (ρ3:=eC t x y (-(.int k)) (-(aO [c])) (-(.int w)) (ax (.ow ((R.map aO).eraseIdx k)))) (pv1:=.fz (.int (p:Int))) (pv2:=.fz (aO r)) (n:=p) (d2:=aO r) (ds0:=R.map aO) (ds:=(R.map aO).eraseIdx k) rfl (by fail "evp") rfl (Ga (ρ:=eC t x y (-(.int k)) (-(aO [c])) (-(.int w)) (ax (.ow (R.map aO)))) (ρ1:=eC t x y (-(.int k)) (-(aO [c])) (-(.int w)) (ax (.ow (R.map aO)))) (pa:=.fz (.int (k:Int))) (x:=eC t x y (-(.int k)) (-(aO [c])) (-(.int w)) (ax (.ow ((R.map aO).eraseIdx k)))) (n:=(k:Int)) (k:=k) (y:=aO r) (es:=R.map aO) (ds:=R.map aO) rfl (aw rfl) rfl rfl (by ext) (by rw[CL];exact Og C) (by rw[Rt,i];rfl) rfl) rfl rfl (by rw[rO,CL];ext) (by rw[rO,CL];ext)) ?_;rw[rO,BN];exact bX (jH (rv:=.fz (aO (jn ((R.eraseIdx k).take p++r::(R.eraseIdx k).drop p)))) aY rfl (am (dA rfl) aD) rfl (U _ (λv A=>g.mem_iff.mp A) (by rw[g.length_eq];ext))) rfl ⟨_,d _ (.inl g),rfl⟩
 obtain⟨rv,e,t',h1,rfl⟩:=I;exact⟨t',h1,e⟩
theorem Pk{n:Nat}{m:Mg}(h:MF m):Lk (n+2) (mG m):=by
 have b:∀{s:cM Nat},IZ s->lD.strOk (tx s)=OK:=λ{s} h=>kZ h.2;cases m with
 |SR c=>
  refine .tup (by show 2<=1000;decide) λd a=>?_;simp only[Rn,Rv,or_false]at a;rcases a with rfl|rfl
  .exact .str (by left)
  .exact .str (b h)
 |Tu k=>
  refine .tup (by show 2<=1000;decide) λd a=>?_;simp only[Rn,Rv,or_false]at a;rcases a with rfl|rfl
  .exact .str (by left)
  .exact .int
 |once k=>
  refine .tup (by show 2<=1000;decide) λd a=>?_;simp only[Rn,Rv,or_false]at a;rcases a with rfl|rfl
  .exact .str (by left)
  .exact .int
 |Wg c k=>
  refine .tup (by show 3<=1000;decide) λd a=>?_;simp only[Rn,Rv,or_false]at a;rcases a with rfl|rfl|rfl
  .exact .str (by left)
  .exact .str (b h)
  .exact .int
 |none=>refine .tup (by show 1<=1000;decide) λd a=>?_;simp only[Rn,Rv,or_false]at a;subst a;exact .str (by left)
 |below=>refine .tup (by show 1<=1000;decide) λd a=>?_;simp only[Rn,Rv,or_false]at a;subst a;exact .str (by left)
theorem NZ{b:Gb}(h:GF 400 b):Lk 6 (gD b):=by
 refine .tup (by show 4<=1000;decide) λd a=>?_;have j:=h.ll;have g:=h.cl;simp only[Rn,Rv,or_false]at a;rcases a with rfl|rfl|rfl|rfl
 .exact .int
 .refine .tup (by rw[CL];ext) λd a=>?_;obtain⟨l,e,rfl⟩:=RF.mp a;have v:=h.lm l e;refine .tup (by rw[CL];ext) λd a=>?_;obtain⟨m,hm,rfl⟩:=RF.mp a;exact Pk (v.2 m hm)
 .refine .tup (by rw[CL];ext) λd a=>?_
  obtain⟨c,f,rfl⟩:=RF.mp a;have v:=h.cm c f;refine .tup (by show 2<=1000;decide) λd a=>?_;simp only[Rn,Rv,or_false]at a;rcases a with rfl|rfl
  .refine .tup (by rw[CL];ext) λd a=>?_;obtain⟨i,_,rfl⟩:=RF.mp a;exact .int
  .exact .str (kZ v.2.2)
 .exact .int
abbrev PN(d:D):Prop:=d=.none\/∃i:Nat,d=nd i
theorem Kp(b:Gb):kr b=.none\/∃(k:Int) (p q:D),PN p/\PN q/\kr b=.tuple [.int k,p,q]:=by
 unfold kr;by_cases h:rN b=OK
 .rw[ak h];exact .inr ⟨0,.none,.none,.inl rfl,.inl rfl,rfl⟩
 .rw[ar h]
  cases u8 b with
  |some i=>
   refine .inr ⟨0,nd i,(kf b i).getD .none,.inr ⟨i,rfl⟩,?_,rfl⟩;unfold kf;split
   .cases rY b i with
    |none=>exact .inl rfl
    |some j=>exact .inr ⟨j,rfl⟩
   .exact .inl rfl
  |none=>
   cases vt b with
   |some p=>exact .inr ⟨1,nd p,.none,.inr ⟨p,rfl⟩,.inl rfl,rfl⟩
   |none=>exact .inl rfl
theorem Jm{k:Int}{p q:D}(b:PN p)(a:PN q):dq (.tuple [.int k,p,q]) (.tuple [.int k,p,q])=-(.bool OK):=by
 have e:∀{d:D},PN d->lD.eqv d d=OK/\lD.canLay0 d=OK/\lD.depth d=0:=λ{d} h=>by
  rcases h with rfl|⟨i,rfl⟩
  .exact⟨rfl,rfl,rfl⟩
  .exact⟨a4 rfl,rfl,rfl⟩
 obtain⟨j,g,f⟩:=e b;obtain⟨c,b2,b3⟩:=e a;show(if(((OK&&(lD.canLay0 p&&(lD.canLay0 q&&OK)))&&decide (max 0 (max (lD.depth p) (max (lD.depth q) 0))+1<=64))&&(OK&&(lD.canLay0 p&&(lD.canLay0 q&&OK))))=OK then ax (RV.fz (.bool (decide (k=k)&&(lD.eqv p p&&(lD.eqv q q&&OK)))))else cL)=_;rw[j,g,f,c,b2,b3,a4 (rfl:k=k)];rfl
def dj:cM Str:=["","keys","keys 1 wait 1","keys 1 wait 1\nlayer","keys 1 wait 1\nlayer ","keys 1 wait 1\nlayer a\n","keys 01 wait 1\nlayer a","keys 1 wait 5\nlayer a","keys 1 wait 1\nchord 0 a\nlayer a","keys 1 wait 1\nlayer a\nchord 0 a","keys 1 wait 1\nlayer >1","keys 1 wait 1\nlayer _","keys 1 wait 1\nlayer a>","keys 1 wait 1\nlayer ~","keys 1 wait 1\nlayer a>1\nlayer _","keys 2 wait 1\nlayer a b\nchord 1+0 c","keys 2 wait 1\nlayer a b\nchord 0+ c","keys 2 wait 1\nlayer a b\nchord 0+1 C","keys 1 wait 100\nlayer a","keys 10 wait 1\nlayer a","keys 1 wait 1\nlayer a>100\nlayer b","keys 2 wait 1\nlayer a b\nchord 0+1 c\nchord 0+1 d","keys 2 wait 1\nlayer a _\nlayer a"]
theorem Oj:∀s∈dj,(cd s).length<=60/\(∀c∈cd s,c<1114112)/\(cd s).count 43<=5:=by left
theorem Ol{s:Str}(h:s∈dj):ac4 (cd s):=by obtain⟨f,d,e⟩:=Oj s h;have b:=e8 10 (cd s);have c:=(kW 10 (cd s)).1;refine⟨by ext,d,by have:=b.2;ext,λx a=>?_⟩;have:=(b.1 x a).2.1;have:=(c x a).count_le 43;ext
def Sm(k:Nat)(t:cM Nat):Prop:=∃L P n T,TB L P n T t/\L+1<=37*2^k/\P+1<=5*2^k/\n<=7+k/\T<=259+37*2^k
theorem two_k{k:Nat}(h:k<=3):2^k<=8:=ab8 (n:=2) (by decide) h
theorem Ow{k:Nat}{t:cM Nat}(h:Sm k t)(a:k<=3):ac4 t:=by obtain⟨L,P,n,T,b,f,e,d,c⟩:=h;have:=two_k a;exact b.ok (by ext) (by ext) (by ext) (by ext)
theorem IG{k:Nat}{t:cM Nat}(h:Sm k t)(a:k<=2)(x y:Int):∃t',Sm (k+1) t'/\dW [aO t,.int x,.int y]=.ok (.fz (aO t')):=by obtain⟨L,P,n,T,b,l,j,i,f⟩:=h;have d:2^k<=4:=ab8 (n:=2) (by decide) a;obtain⟨t',g,e⟩:=AR b (by ext) x y;have c:2^(k+1)=2^k*2:=Nat.pow_succ 2 k;exact⟨t',⟨_,_,_,_,g,by ext,by ext,by ext,by ext⟩,e⟩
abbrev eW(ns:cM Int)(b:Bd)(t:cM Nat)(x:Int)(c a o7:c5 PV):bA:=[-(.list (ns.map .int)),-(bD b),-(.str (hG b)),-(aO t),-(.int x),c,a,o7,cL,cL]
def Fs:FS:=(aF (bp (bu dX 1 {ae 3}) (gN 8))
 (aF (dJ (ay (aA dq (dD dc {ae 8}) (~~~4))) (aF (bp (bu ir 1 {ae 8}) (gN 9))
 (aF (dJ (ay (aA lw (ae 9) (pC .none))) (bG (mV (bu b5 2 {bu aW 1 {ae 3},ae 8}) (bu b5 2 {bu aW 1 {ae 2},ae 1}))) bq)
 (bp (ae 9) (gN 8)))) bq)
 (bG (mV (aA dq (bu aW 1 {ae 3}) (ae 8)) (bu b5 2 {bu aW 1 {ae 2},ae 1})))))
theorem zf{ns:cM Int}{b:Bd}(f:VB b){t:cM Nat}(h:ac4 t)(x:Int)(c a o7:c5 PV){N C:bA->Prop}:Go (Fs (eW ns b t x c a o7)) N C (λr=>r=.fz (.bool OK)):=by
 have o:=Di f;have y:b5 [bD b,bD b]=.ok (.fz (.bool OK)):=w9 6 _ (Lp f);unfold Fs;rcases Pu h with⟨k,er,d⟩|⟨g,l,er,A,j⟩
 .have eq:=Jm (k:=2) (p:=nd k) (q:=.none) (.inr ⟨k,rfl⟩) (.inl rfl);have v:dc [.tuple [.int 2,nd k,.none]]=-(.int 3):=rfl;refine bJ (ρ3:=(eW ns b t x c a o7).set 8 (-(.tuple [.int 2,nd k,.none]))) (by fail "ev") rfl rfl ?_;refine bN (b:=Rh) (by fail "ev") (λq=>by cases q) λ_=>bb ?_;fail "go";rfl
 .have u:dc [gD g]=-(.int 4):=rfl
  refine bJ (ρ3:=(eW ns b t x c a o7).set 8 (-(gD g))) (by fail "ev") rfl rfl ?_;refine bN (b:=OK) (by fail "ev") (λ_=>ia ?_) λq=>by cases q
  refine bJ (ρ3:=((eW ns b t x c a o7).set 8 (-(gD g))).set 9 (-(kr g))) (by fail "ev") rfl rfl ?_;rcases j with⟨n,d⟩|⟨m,d⟩
  .have w:b5 [gD g,gD g]=.ok (.fz (.bool OK)):=w9 6 _ (NZ l)
   have i:lw (kr g) .none=-(.bool OK):=by rw[n];rfl
   refine ia (bN (b:=OK) (by fail "ev") (λ_=>?_) λq=>by cases q);fail "go";rfl
  .rcases Kp g with z|⟨k,p,q,hp,hq,e⟩
   .exact a7 z m
   rw[e]at d⊢;have eq:=Jm (k:=k) hp hq;have i:lw (.tuple [.int k,p,q]) .none=-(.bool Rh):=rfl;refine ia (bN (b:=Rh) (by fail "ev") (λq=>by cases q) λ_=>bb ?_);refine bJ (ρ3:=((eW ns b t x c a o7).set 8 (-(.tuple [.int k,p,q]))).set 9 (-(.tuple [.int k,p,q]))) (by fail "ev") rfl rfl ?_;fail "go";rfl
theorem main(ns:cM Int)(e:ns.length<=63):F_law [.list (ns.map .int)]=.ok (.fz (.bool OK)):=by
 obtain⟨b,h,U⟩:=Ml ns e 7 (by decide) (by decide);have tx:=Hg h;obtain⟨c0,I⟩:=mh ns 0 (by decide) e;obtain⟨x,O,T⟩:=my c0 30 (by decide) (by decide);obtain⟨q,Q,j⟩:=kj x (m:=4) (by decide);have j:cq (.int x) (.int 4)=-(.int (q:Int)):=j;refine cA (ρ:=[-(.list (ns.map .int)),cL,cL,cL,cL,cL,cL,cL,cL,cL]) rfl ?_;unfold Fv;refine bJ (ρ3:=[-(.list (ns.map .int)),-(bD b),cL,cL,cL,cL,cL,cL,cL,cL]) (by fail "ev") rfl rfl ?_;refine bJ (ρ3:=[-(.list (ns.map .int)),-(bD b),-(.str (hG b)),cL,cL,cL,cL,cL,cL,cL]) (by fail "ev") rfl rfl ?_;refine bJ (ρ3:=[-(.list (ns.map .int)),-(bD b),-(.str (hG b)),-(.str (hG b)),cL,cL,cL,cL,cL,cL]) (by fail "ev") rfl rfl ?_;refine bJ (ρ3:=eW ns b (cd (hG b)) x cL cL cL) (by fail "ev") rfl rfl ?_;refine iM (λk ρ=>∃t c a,Sm k t/\ρ=eW ns b t x c a cL) (ka (ds:=[nd q]) (am (bK (rv:=.fz (.int (q:Int))) (aw rfl) aY rfl rfl j) aD) rfl (oz (by ext))) ⟨_,cL,cL,⟨36,4,7,296,HN h,by decide,by decide,by decide,by decide⟩,rfl⟩ ?_ ?_
 .rintro i d ρ f ⟨t,c,a,g,rfl⟩
  obtain⟨k,rfl,B⟩:∃k:Nat,d=nd k/\k=i/\i<q:=by
   unfold eP at f;rw[Rt]at f;cases z:(Sb q)[i]? with
   |none=>rw[z]at f;cases f
   |some k=>rw[z]at f;cases f;exact⟨k,rfl,lF z⟩
  obtain⟨rfl,C⟩:=B;have N:gY (.int 2) (.int (k:Int))=-(.int (2*(k:Int))):=by rw[ue];exact Cw (by decide)
  obtain⟨L,H⟩:=mh ns (2+2*(k:Int)) (by ext) e;obtain⟨y,_,S⟩:=my L (35+(k:Int)) (by ext) (by ext);obtain⟨K,G⟩:=mh ns (1+2*(k:Int)) (by ext) e;obtain⟨z,_,R⟩:=my K (31+(k:Int)) (by ext) (by ext);obtain⟨l,M,F⟩:=IG g (by ext) z y;refine⟨eW ns b t x (-(nd k)) a cL,rfl,?_⟩;refine bJ (ρ3:=eW ns b t x (-(nd k)) (-(.int y)) cL) (by fail "ev") rfl rfl ?_;refine Fi (ρ3:=eW ns b l x (-(nd k)) (-(.int y)) cL) (by fail "ev") rfl rfl ⟨l,_,_,M,rfl⟩
 .rintro ρ ⟨t,c,a,g,rfl⟩
  have r:(eP (Sb q)).length=q:=by unfold eP;rw[CL,RQ]
  rw[r]at g;have E:=Ow g (by ext);have X:c9 (.int x) (.int 4)=-(.int (x/4)):=eX (by decide);have J:c9 (.int x) (.int 16)=-(.int (x/16)):=eX (by decide);obtain⟨u,P,o⟩:=kj (x/4) (m:=4) (by decide);have o:cq (.int (x/4)) (.int 4)=-(.int (u:Int)):=o;obtain⟨v,A,n⟩:=kj (x/16) (m:=23) (by decide);have n:cq (.int (x/16)) (.int 23)=-(.int (v:Int)):=n;refine bN (b:=decide ((u:Int)=3)) (by fail "ev") (λ_=>?_) λ_=>bb (zf h E x c a cL);have p:dj[v]?=ax (dj.getD v ""):=by
   have:∀v,v<23->dj[v]?=ax (dj.getD v ""):=by left
   exact this v A
  have w:bx (.list (dj.map .str)) (.int (v:Int))=-(.str (dj.getD v "")):=nw (by ext) (by rw[Sy,Rt,p];rfl);refine ia (bJ (ρ3:=eW ns b t x c a (ax (.ow ((dj.take 5).map .str)))) (by fail "ev") rfl rfl ?_);refine ia (bJ (ρ3:=eW ns b t x c a (ax (.ow ((dj.take 6).map .str)))) (bK (rv:=.ow ((dj.take 6).map .str)) (dA rfl) (by fail "ev") rfl rfl rfl) rfl rfl ?_);refine ia (bJ (ρ3:=eW ns b t x c a (ax (.ow ((dj.take 9).map .str)))) (bK (rv:=.ow ((dj.take 9).map .str)) (dA rfl) (by fail "ev") rfl rfl rfl) rfl rfl ?_);refine ia (bJ (ρ3:=eW ns b t x c a (ax (.ow ((dj.take 12).map .str)))) (bK (rv:=.ow ((dj.take 12).map .str)) (dA rfl) (by fail "ev") rfl rfl rfl) rfl rfl ?_);refine ia (bJ (ρ3:=eW ns b t x c a (ax (.ow ((dj.take 15).map .str)))) (bK (rv:=.ow ((dj.take 15).map .str)) (dA rfl) (by fail "ev") rfl rfl rfl) rfl rfl ?_);refine ia (bJ (ρ3:=eW ns b t x c a (ax (.ow ((dj.take 17).map .str)))) (bK (rv:=.ow ((dj.take 17).map .str)) (dA rfl) (by fail "ev") rfl rfl rfl) rfl rfl ?_);refine ia (bJ (ρ3:=eW ns b t x c a (ax (.ow ((dj.take 19).map .str)))) (bK (rv:=.ow ((dj.take 19).map .str)) (dA rfl) (by fail "ev") rfl rfl rfl) rfl rfl ?_);refine ia (bJ (ρ3:=eW ns b t x c a (ax (.ow ((dj.take 21).map .str)))) (bK (rv:=.ow ((dj.take 21).map .str)) (dA rfl) (by fail "ev") rfl rfl rfl) rfl rfl ?_);refine ia (bJ (ρ3:=eW ns b t x c a (ax (.ow ((dj.take 22).map .str)))) (bK (rv:=.ow ((dj.take 22).map .str)) (dA rfl) (by fail "ev") rfl rfl rfl) rfl rfl ?_);refine ia (bJ (ρ3:=eW ns b t x c a (ax (.ow ((dj.take 23).map .str)))) (bK (rv:=.ow ((dj.take 23).map .str)) (dA rfl) (by fail "ev") rfl rfl rfl) rfl rfl ?_);refine bJ (ρ3:=eW ns b (cd (dj.getD v "")) x c a (ax (.ow (dj.map .str)))) (bK (rv:=.fz (.str (dj.getD v ""))) (dA rfl) (by fail "ev") rfl rfl w) rfl rfl ?_;exact zf h (Ol (RU p)) x c a _
end K24
local macro_rules| `(tactic|fail "sc")=> `(tactic|exact⟨rfl,rfl,rfl,by left,rfl,by left,by left⟩)
local macro_rules| `(tactic|fail "cm")=> `(tactic|first
 |change L3.bQ
 |change L3.kx
 |change L3.pF
 |change L3.k9
 |change L3.pj
 |change L3.Gn
 |change L3.uf
 |change L3.re
 |change L3.qC
 |change L3.wX
 |change L3.me
 |change L3.Bx)
local macro_rules| `(tactic|fail "sp")=> `(tactic|first
 |fail "cm"
 |change L3.bc
 |change L3.b9
 |change L3.Br
 |change L3.l6
 |change L3.lJ
 |change L3.eF
 |change L3.gy
 |change L3.Ht
 |change L3.dH
 |change L3.fO
 |change L3.fM
 |change L3.Cd
 |change L3.vB
 |change L3.jY
 |change L3.B7
 |change L3.A6
 |change L3.si
 |change L3.kT
 |change L3.xj
 |change L3.km
 |change L3.ej
 |change L3.BV
 |change L3.HF
 |change L3.iU
 |change L3.oy
 |change L3.rT
 |change L9.uh
 |change L3.l6)
local macro_rules| `(tactic|fail "eo")=> `(tactic|first
 |change L3.ad
 |change L3.aq
 |(with_reducible apply L3.ap);(·fail "sp");(·fail "eo");(·fail "eo")
 |change L3.aJ
 |(with_reducible apply L3.bv);(·fail "ao")
 |(with_reducible apply L3.bV);(·fail "sp");(·fail "ao")
 |(with_reducible apply L3.fC);(·fail "ao")
 |(with_reducible apply L3.c8);(·fail "ao")
 |(with_reducible apply L3.lX);(·fail "eo")
 |change L3.d9
 |change L3.zi
 |(with_reducible apply L3.fE);(·fail "sp");(·fail "eo");(·fail "oo");(·fail "oo")
 |(with_reducible apply L3.ie);(·fail "sp");(·fail "sp");(·fail "eo");(·fail "eo");(·fail "eo")
 |(with_reducible apply L3.fy);(·simp);(·fail "eo")
 |(with_reducible apply L3.fU);(·fail "eo");(·fail "eo")
 |(with_reducible apply L3.MM);(·fail "eo");(·fail "eo")
 |(with_reducible apply L3.GJ);(·fail "eo")
 |(with_reducible apply L3.No);(·fail "sp");(·fail "eo")
 |(with_reducible apply L3.Gh);(·fail "eo")
 |(with_reducible apply L3.Ax);(·fail "eo");(·fail "eo")
 |(with_reducible apply L3.Ec);(·assumption))
local macro_rules| `(tactic|fail "ao")=> `(tactic|first
 |(with_reducible apply L3.af);(·fail "eo");(·fail "ao")
 |change L3.ai)
local macro_rules| `(tactic|fail "tt")=> `(tactic|first
 |(with_reducible apply L3.aG);(with_reducible apply L3.ap);(·fail "cm");(·fail "eo");(·fail "eo")
 |(with_reducible apply L3.aG);(with_reducible apply L3.ie);(·fail "cm");(·fail "cm");(·fail "eo");(·fail "eo");(·fail "eo")
 |(with_reducible apply L3.gC);(·fail "tt");(·fail "tt")
 |(with_reducible apply L3.gL);(·fail "tt");(·fail "tt")
 |(with_reducible apply L3.gA);(·fail "tt")
 |(with_reducible apply L3.eS);(·fail "eo")
 |change L3.cf)
local macro_rules| `(tactic|fail "gg")=> `(tactic|first
 |change L3.aB
 |(with_reducible apply L3.db);(·fail "gg");(·fail "gg")
 |change L3.jm
 |(with_reducible apply L3.jf);(·fail "gg"))
local macro_rules| `(tactic|fail "io")=> `(tactic|first
 |(with_reducible apply L3.g6);(·fail "ao")
 |(with_reducible apply L3.gv);(·fail "eo")
 |(with_reducible apply L3.nZ);(·fail "ao")
 |(with_reducible apply L3.Bq);(·fail "ao")
 |(with_reducible apply L3.ye);(·fail "ao")
 |change L3.og)
local macro_rules| `(tactic|fail "oo")=> `(tactic|first
 |(with_reducible apply L3.bR);(·fail "eo")
 |change L3.cJ)
local macro_rules| `(tactic|fail "so")=> `(tactic|first
 |(with_reducible apply L3.az);(·fail "so");(·fail "so")
 |(with_reducible apply L3.bF);(·fail "eo");(·fail "gg")
 |(with_reducible apply L3.bU);(·fail "tt");(·fail "so");(·fail "so")
 |(with_reducible apply L3.aZ);(·fail "eo")
 |(with_reducible apply L3.gz);(·fail "eo")
 |change L3.bg
 |(with_reducible apply L3.jr);(·fail "io");(·fail "gg");(·fail "so"))
local macro_rules| `(tactic|fail "to")=> `(tactic|first
 |exact L2.aX
 |exact L2.bO (by assumption)
 |exact L2.kJ (by assumption)
 |exact L3.tR (by assumption)
 |exact L3.p7 (by assumption)
 |exact L9.qr
 |exact L3.b7
 |exact L3.tI
 |exact L3.gb
 |exact L2.rK
 |exact L2.Ex
 |exact L2.ul
 |exact L2.tZ
 |exact L3.oq
 |exact L2.fV
 |exact L2.fk
 |exact L2.l8
 |exact L2.xx
 |exact L2.pd
 |exact L2.JU
 |exact L2.KP
 |exact L2.cI
 |exact L2.cn
 |exact L2.cC
 |exact L2.p9
 |exact L2.sh
 |exact L3.cD
 |exact L2.gn
 |exact L2.yu
 |exact L2.Gx
 |exact L3.nq
 |exact L2.Jl
 |exact aeA
 |exact L2.fD
 |exact L2.eD
 |exact L2.FM
 |exact L2.Jw
 |exact L2.v9
 |exact L2.yU
 |exact L2.mO
 |exact L2.aV
 |change Sg
 |change SX
 |change SY
 |change U9
 |change Wo
 |change PySem.F.slot_list_extend
 |change PySem.F.type_list_extend
 |change PySem.F.plainAttrs_dict
 |change PySem.F.slot_dict_values
 |change PySem.F.type_dict_values
 |exact L2.vJ rfl
 |exact L3.gj rfl
 |rfl)
local macro_rules| `(tactic|fail "pe")=> `(tactic|first
 |(with_reducible apply L2.pv);(·rfl);(·(first|exact a8 rfl|exact cv (a8 rfl)|exact cv (cv rfl)));(·decide);(·decide)
 |change L2.ao
 |(with_reducible apply L2.bE);(·fail "to");(·fail "pe");(·fail "pe");(·exact λ_ _=>rfl)
 |change L2.aL
 |(with_reducible apply L2.bw);(·fail "to");(·fail "pe");(·fail "pe")
 |(with_reducible apply L2.bj);(·assumption);(·assumption);(·fail "pa");(·decide);(·rfl);(·decide);(·rfl);(·rfl)
 |(with_reducible apply L2.eh);(·fail "pa")
 |change L2.cy
 |(with_reducible apply L2.cS);(·fail "pa")
 |(with_reducible apply L2.aH);(·fail "to");(·rfl);(·assumption);(·fail "to");(·fail "pa");(·decide);(·decide);(·rfl);(·rfl)
 |(with_reducible apply L2.b8);(·fail "to");(·rfl);(·assumption);(·fail "to");(·fail "pa");(·decide);(·decide);(·rfl);(·rfl)
 |(with_reducible apply L2.fG);(·rfl);(·assumption);(·(first|rfl|exact⟨_,rfl⟩));(·decide)
 |change L2.uy
 |(with_reducible apply L2.dr);(·fail "to");(·fail "pe");(·fail "pe");(·(first|rfl|with_unfolding_all rfl))
 |(apply L2.eU);(·fail "to");(·fail "to");(·fail "to");(·fail "to");(·fail "pe");(·fail "pa");(·rfl);(·rfl);(·decide);(·rfl);(·rfl)
 |(with_reducible apply L2.fZ);(·fail "pe")
 |(with_reducible apply L2.fY);(·fail "pe");(·fail "pe")
 |(with_reducible apply L2.Ov);(·fail "pe");(·fail "pe")
 |(with_reducible apply L2.nO);(·fail "to");(·fail "to");(·fail "pe");(·fail "pe");(·fail "pe");(·rfl)
 |(with_reducible apply L2.JI);(·fail "to");(·fail "pe")
 |(with_reducible apply L2.E5);(·fail "pe")
 |(apply L2.cb);(·fail "to");(·fail "pe");(·fail "po");(·fail "po")
 |(with_reducible apply L2.dB);(·rfl);(·assumption);(·fail "to");(·(first|rfl|exact⟨_,rfl⟩));(·decide);(·decide))
local macro_rules| `(tactic|fail "pa")=> `(tactic|first
 |(with_reducible apply L2.aa);(·fail "pe");(·fail "pa");(·rfl)
 |change L2.ah)
local macro_rules| `(tactic|fail "pt")=> `(tactic|first
 |(with_reducible apply L2.aK);(·fail "to");(·fail "pe");(·fail "pe");(·(first|rfl|with_unfolding_all rfl))
 |(with_reducible apply L2.iu);(·fail "pt")
 |(with_reducible apply L2.ny);(·fail "to");(·fail "to");(·fail "pe");(·fail "pe");(·fail "pe");(·rfl)
 |(with_reducible apply L2.PW.pt);(·fail "pw")
 |(with_reducible apply L2.df);(·fail "pe");(·(intro _;rfl)))
local macro_rules| `(tactic|fail "pw")=> `(tactic|first
 |(with_reducible apply L2.gZ);(·fail "pt")
 |(with_reducible apply L2.iS);(·fail "pt");(·fail "pw")
 |(with_reducible apply L2.jW);(·fail "pt")
 |(with_reducible apply L2.i7);(·fail "pt");(·fail "pw"))
local macro_rules| `(tactic|fail "pg")=> `(tactic|first
 |(with_reducible apply L2.bf);(·(first|assumption|left));(·rfl);(·(first|exact a8 rfl|exact cv rfl|assumption|rfl));(·(first|exact a8 rfl|exact cv rfl|assumption|rfl))
 |(with_reducible apply L2.cz);(·fail "pg");(·fail "pg");(·rfl)
 |change L2.g7
 |(apply L2.ji);(·rfl);(·fail "pg");(·rfl);(·rfl))
local macro_rules| `(tactic|fail "pi")=> `(tactic|first
 |(with_reducible apply L2.eJ);(·rfl);(·assumption);(·fail "pa");(·rfl)
 |(apply L3.nc);(·rfl);(·assumption);(·fail "pa");(·rfl);(·rfl)
 |(apply L3.zq);(·rfl);(·assumption);(·fail "pa");(·rfl)
 |(apply L3.zr);(·rfl);(·assumption);(·fail "pa");(·rfl)
 |(apply L3.AQ);(·fail "pe")
 |(apply L3.eZ);(·fail "pe"))
local macro_rules| `(tactic|fail "po")=> `(tactic|first
 |change L2.di
 |(with_reducible apply L2.cw);(·fail "pe"))
local macro_rules| `(tactic|fail "te")=> `(tactic|first
 |(with_reducible apply L2.au);(·fail "te")
 |change L2.aN
 |(with_reducible apply L2.ag);(·fail "te");(·fail "te")
 |(with_reducible apply L2.bh);(·(first|assumption|left));(·rfl);(·(first|exact a8 rfl|exact cv rfl|assumption|rfl));(·fail "pe");(·rfl);(·(first|exact a8 rfl|exact cv rfl|assumption|rfl))
 |(with_reducible apply L2.fq);(·fail "pe");(·rfl)
 |(with_reducible apply L2.aU);(·fail "pe")
 |(with_reducible apply L2.bH);(·fail "pt");(·fail "te");(·fail "te")
 |(with_reducible apply L2.jg);(·fail "to");(·rfl);(·fail "pi");(·fail "pg");(·fail "te");(·(intro _;rfl))
 |(with_reducible apply L2.Ao);(·fail "pe");(·fail "pg");(·rfl);(·rfl);(·rfl)
 |change L2.eN)
local macro_rules| `(tactic|fail "os")=> `(tactic|(intros;refine L3.om (by fail "so") ?_;first|(apply L2.ag);(·fail "te");(·fail "te")|(apply L2.au);(·fail "te")))
namespace K24
open PySem L2 L3
def top(i:Nat):Tq:=PySem.Challenge.pw_chordbed_k24_whole_beds_read.main.body.getD i (.Pass ⟨0,0,0,0⟩)
def fb:Tq->cM Tq
 |.For _ _ b _ _=>b
 |.If _ b _ _=>b
 |_=>[]
def av:Tq->SI
 |.Assign _ v _=>v
 |_=>.Name "" ⟨0,0,0,0⟩
def ss:SI->SI
 |.Subscript _ v _=>v
 |e=>e
def sP:SI->Pos
 |.Subscript _ _ p=>p
 |_=>⟨0,0,0,0⟩
def lp:SI->Pos
 |.List _ p=>p
 |_=>⟨0,0,0,0⟩
def iT:Tq->SI
 |.If c _ _ _=>c
 |_=>.Name "" ⟨0,0,0,0⟩
def fI:Tq->SI
 |.For _ i _ _ _=>i
 |_=>.Name "" ⟨0,0,0,0⟩
def iP:Tq->Pos
 |.If _ _ _ p=>p
 |_=>⟨0,0,0,0⟩
def aP:Tq->Pos
 |.Assign _ _ p=>p
 |_=>⟨0,0,0,0⟩
def nP:Tq->Pos
 |.Assign [.Name _ p] _ _=>p
 |_=>⟨0,0,0,0⟩
def sv:SI->SI
 |.Subscript v _ _=>v
 |e=>e
def le:SI->cM SI
 |.List l _=>l
 |_=>[]
def oY:Tq->SI
 |.Return (ax e) _=>e
 |_=>.Name "" ⟨0,0,0,0⟩
def rP:Tq->Pos
 |.Return _ p=>p
 |_=>⟨0,0,0,0⟩
def bl:SI->SI
 |.BinOp a _ _ _=>a
 |e=>e
def br:SI->SI
 |.BinOp _ _ b _=>b
 |e=>e
def bP:SI->Pos
 |.BinOp _ _ _ p=>p
 |_=>⟨0,0,0,0⟩
def dK:SI->cM (c5 SI)
 |.Dict k _ _=>k
 |_=>[]
def dV:SI->cM SI
 |.Dict _ v _=>v
 |_=>[]
def dP:SI->Pos
 |.Dict _ _ p=>p
 |_=>⟨0,0,0,0⟩
def DP:Tq:=.Pass ⟨0,0,0,0⟩
def DE:SI:=.Name "" ⟨0,0,0,0⟩
theorem HK{l p t n env}:Ug (.List l p) t n env=pure Rh:=rfl
theorem kY{a b c p t n env}:Ug (.Call a b c p) t n env=pure Rh:=rfl
theorem gh{a o b p t n env}:Ug (.BinOp a o b p) t n env=pure Rh:=rfl
theorem rj{a b p t n env}:Ug (.Subscript a b p) t n env=pure Rh:=rfl
theorem B3{a p t n env}:Ug (.Name a p) t n env=pure Rh:=rfl
theorem yI{a b p t n env}:Ug (.Constant a b p) t n env=pure Rh:=rfl
section
variable{P:RT}{w:SG}{K:td}{mg:Str->c5 Rf}{base:Heap}{f:Rq}{Z:S5}
theorem xn(F:Vf K "_law_cell" "_law_cell" (top 36) f Z):FnOk P w K mg base fF 1 f Z ["_law_script","_law_k"] (iA K 2 ci):=iC (N:=["_law_script","_law_k"]) (g:=nB) F (by fail "sc") rfl rfl rfl λh A a s H E nd d c e b=>om (aZ (ap bc (ap b9 (fE km ad (bR ad) (bR (ap b9 ad aq))) (c8 (af aq ai))) aq)) (au (aU (bE aX (bw b7 (cb nq (pv 0) (cw (pv 1)) (cw (bw b7 (pv 1) ao))) (cS (aa ao ah))) ao (λ_ _=>rfl))))
theorem sN(F:Vf K "_law_stirred" "_law_stirred" (top 37) f Z):FnOk P w K mg base fF 1 f Z ["_law_cell_here","_law_salt"] (iA K 2 d6):=iC (N:=["_law_cell_here","_law_salt","_law_number"]) (g:=iR) F (by fail "sc") rfl rfl rfl (by delta iR;fail "os")
theorem tU(F:Vf K "_law_stream" "_law_stream" (top 39) f Z)(i:cQ P w K mg base 1 "_law_stirred" ["_law_cell_here","_law_salt"] 2 d6)(h:mg "max"=cL)(j:mg "range"=cL):FnOk P w K mg base fF 2 f Z ["_law_cell_here","_law_many"] (iA K 2 jx):=iC (N:=["_law_cell_here","_law_many","_law_found","_law_left","_law_k","_law_x","_law_j"]) (g:=jy) F (by fail "sc") rfl rfl rfl λk A a s H E nd d c e b=>om (az (by fail "so")
   (az (by fail "so")
   (az (by fail "so")
   (aZ ad)))) (ag (by fail "te")
   (ag (by fail "te")
   (ag (by fail "te")
   (au (aU (pv 2))))))
theorem uM(F:Vf K "_law_letter" "_law_letter" (top 41) f Z):FnOk P w K mg base fF 1 f Z ["_law_cell_here"] (iA K 1 b6):=iC (N:=["_law_cell_here"]) (g:=lA) F (by fail "sc") rfl rfl rfl λh A a s H E nd d c e b=>om (aZ (ap l6 aJ (ap eF ad aq))) (au (aU (bE aX aL (bw fV (pv 0) ao) (λ_ _=>rfl))))
theorem pJ(F:Vf K "_law_meaning_of" "_law_meaning_of" (top 43) f Z)(i:cQ P w K mg base 1 "_law_letter" ["_law_cell_here"] 1 b6)(h:mg "max"=cL):FnOk P w K mg base fF 2 f Z ["_law_rest","_law_layer","_law_layers"] (iA K 3 fx):=iC (N:=["_law_rest","_law_layer","_law_layers","_law_sort","_law_sign","_law_there","_law_found"]) (g:=iZ) F (by fail "sc") rfl rfl rfl λj A a s H E nd d c e b=>om (az (by fail "so")
   (az (by fail "so")
   (az (by fail "so")
   (az (by fail "so")
   (az (by fail "so")
   (aZ ad)))))) (ag (by fail "te")
   (ag (by fail "te")
   (ag (by fail "te")
   (ag (by fail "te")
   (ag (by fail "te")
   (au (aU (pv 6))))))))
theorem sf(F:Vf K "_law_read_bed" "_law_read_bed" (top 44) f Z)(j:cQ P w K mg base 2 "_law_meaning_of" ["_law_rest","_law_layer","_law_layers"] 3 fx)(m:cQ P w K mg base 1 "_law_letter" ["_law_cell_here"] 1 b6)(b:mg "range"=cL)(d:mg "tuple"=cL)(k:mg "len"=cL):FnOk P w K mg base fF 3 f Z ["_law_xs"] (iA K 1 ik):=iC (N:=["_law_xs","_law_keys","_law_many","_law_layers","_law_layer","_law_plain","_law_chords","_law_x","_law_some"]) (g:=ii) F (by fail "sc") rfl rfl rfl λn A a s H E nd h c l e=>om (az (by fail "so")
   (az (by fail "so")
   (az (by fail "so")
   (az (jr (g6 (af ad ai)) aB (gz (lX (bV fM (af (cO rfl rfl (g6 (af ad ai)) aB cf (bv (af (ap bc ad (ap b9 (ap b9 aq (ap lJ aq ad)) ad)) (af ad (af ad ai))))) ai)))))
   (az (bF (cO rfl rfl (g6 (af ad ai)) aB (aG (ap bQ (ap bc (ap bc (ap bc ad aq) ad) aq) aJ)) ad) aB)
   (az (by fail "so")
   (az (jr (gv (fE km ad (bR aq) (bR (ap b9 aq (ap eF (ap gy (ap bc ad aq) aq) aq))))) aB (az (bF (bV fM (af (nF rfl rfl og aB (aG (ap bQ (ap eF (ap gy ad (ap bc (c8 (af aq (af aq (af aq (af aq (af aq ai)))))) ad)) aq) aq)) ad) ai)) aB)
   (bU (gC (aG (ap pj (bV fO (af ad ai)) aq)) (aG (ap re ad (nF rfl rfl og aB cf (ap bc ad aq))))) (by fail "so") bg)))
   (by fail "so")))))))) (ag (by fail "te")
   (ag (by fail "te")
   (ag (by fail "te")
   (ag (jg UK.never rfl (eJ rfl b (aa (pv 2) ah)) (bf (i:=4) nd rfl (cv rfl)) (au (fq (eU Sg SX SY gn (pv 3) (aa (b8 cC rfl d eD (aa (cW ["_law_key"] [("_law_xs",0),("_law_layer",4),("_law_many",2)] rfl (eJ rfl b (aa (pv 1) ah)) (λ_ _ _ _=>(bf (i:=0) (show RY (["_law_key","_law_xs","_law_layer","_law_many"]:cM Str) by left) rfl (a8 rfl))) (λ_ _ _ _=>ck) (λ_ _ _ _=>(bj j h (aa (bE aX (pv 1) (bw b7 (bw b7 ao (bw oq ao (pv 2))) (pv 0)) (λ_ _=>rfl)) (aa (pv 2) (aa (pv 3) ah))))) ⟨⟨rfl,rfl,a8 rfl⟩,⟨⟨rfl,rfl,a8 rfl⟩,⟨⟨rfl,rfl,a8 rfl⟩,trivial⟩⟩⟩ rfl) ah)) ah)))))
   (ag (qm (i:=5) ["_law_key"] [("_law_layers",3)] nd rfl rfl rfl (eJ rfl b (aa (pv 1) ah)) (λ_ _ _ _=>(bf (i:=0) (show RY (["_law_key","_law_layers"]:cM Str) by left) rfl (a8 rfl))) (λ_ _ _ _=>(nM (aK (bO c) (bE aX (bE aX (bE aX (pv 1) ao (λ_ _=>rfl)) (pv 0) (λ_ _=>rfl)) ao (λ_ _=>rfl)) aL (aQ _)))) (λ_ _ _ _=>(pv 0)) ⟨⟨rfl,rfl,a8 rfl⟩,trivial⟩ rfl)
   (ag (by fail "te")
   (ag (jg UK.never rfl (eZ (cb nq (pv 0) (cw ao) (cw (bw b7 ao (bw fV (bw fk (bE aX (pv 0) ao (λ_ _=>rfl)) ao) ao))))) (bf (i:=7) nd rfl (cv rfl)) (ag (bh (i:=8) nd rfl (a8 rfl) (b8 cC rfl d eD (aa (cW ["_law_key"] [("_law_x",7)] rfl (eZ (pv 5)) (λ_ _ _ _=>(bf (i:=0) (show RY (["_law_key","_law_x"]:cM Str) by left) rfl (a8 rfl))) (λ_ _ _ _=>(nM (aK (bO c) (bw fV (bw fk (pv 1) (bE aX (cS (aa ao (aa ao (aa ao (aa ao (aa ao ah)))))) (pv 0) (λ_ _=>rfl))) ao) ao (aQ _)))) (λ_ _ _ _=>(pv 0)) ⟨⟨rfl,rfl,a8 rfl⟩,trivial⟩ rfl) ah)))
   (au (bH (PW.pt (iS (aK ul (aH cn rfl k fD (aa (pv 8) ah)) ao (aQ _)) (gZ (aK (p7 e) (pv 8) (cW ["_law_chord"] [] rfl (eZ (pv 6)) (λ_ _ _ _=>(bf (i:=0) (show RY (["_law_chord"]:cM Str) by left) rfl (a8 rfl))) (λ_ _ _ _=>ck) (λ_ _ _ _=>(bE aX (pv 0) ao (λ_ _=>rfl))) trivial rfl) (by with_unfolding_all rfl))))) (au (by fail "te")) aN))))
   (au (by fail "te")))))))))
theorem wP(F:Vf K "_law_wide" "_law_wide" (top 38) f Z)(b:cQ P w K mg base 1 "_law_stirred" ["_law_cell_here","_law_salt"] 2 d6)(a:mg "max"=cL):FnOk P w K mg base fF 2 f Z ["_law_cell_here","_law_salt"] (iA K 2 cj):=iC (N:=["_law_cell_here","_law_salt"]) (g:=jQ) F (by fail "sc") rfl rfl rfl (by delta jQ;fail "os")
theorem sU(F:Vf K "_law_meaning" "_law_meaning" (top 42) f Z)(i:cQ P w K mg base 1 "_law_letter" ["_law_cell_here"] 1 b6)(h:mg "max"=cL):FnOk P w K mg base fF 2 f Z ["_law_cell_here","_law_layer","_law_layers"] (iA K 3 gX):=iC (N:=["_law_cell_here","_law_layer","_law_layers","_law_sort","_law_sign","_law_there"]) (g:=kz) F (by fail "sc") rfl rfl rfl λj A a s H E nd d c e b=>om (az (by fail "so")
   (az (by fail "so")
   (az (by fail "so")
   (az (by fail "so")
   (az (by fail "so")
   (az (by fail "so")
   (az (by fail "so")
   (az (by fail "so")
   (aZ (fC (af aJ ai))))))))))) (ag (by fail "te")
   (ag (by fail "te")
   (ag (by fail "te")
   (ag (by fail "te")
   (ag (by fail "te")
   (ag (by fail "te")
   (ag (by fail "te")
   (ag (by fail "te")
   (au (aU (eh (aa aL ah))))))))))))
theorem dZ:Tz ["_law_script","_law_at","_law_first","_law_rich","_law_keys","_law_layers","_law_layer","_law_row_here","_law_plain","_law_chords","_law_k","_law_cell_here","_law_some"] ["_law_script","_law_at"] (aI (top 45)):=by fail "sc"
theorem x6(F:Vf K "_law_bed" "_law_bed" (top 45) f Z)(U:cQ P w K mg base 1 "_law_cell" ["_law_script","_law_k"] 2 ci)(XU:cQ P w K mg base 2 "_law_stream" ["_law_cell_here","_law_many"] 2 jx)(W7:cQ P w K mg base 3 "_law_read_bed" ["_law_xs"] 1 ik)(X:cQ P w K mg base 2 "_law_wide" ["_law_cell_here","_law_salt"] 2 cj)(V8:cQ P w K mg base 2 "_law_meaning" ["_law_cell_here","_law_layer","_law_layers"] 3 gX)(TZ:cQ P w K mg base 1 "_law_letter" ["_law_cell_here"] 1 b6)(Wd:mg "int"=cL)(B:mg "range"=cL)(T:mg "tuple"=cL)(Su:mg "len"=cL):FnOk P w K mg base fF 4 f Z ["_law_script","_law_at"] (iA K 2 jt):=by
 refine F6 (k:=3) (n:=2) (m:=13) (g:=ma) (FF:=jt) F dZ rfl rfl rfl (λc A a s H E b=>?_);have N:=b.units;have hv:=mP b;have nd:=dZ.nd;obtain⟨apO,p,q⟩:∃t,PE (gl fF P w K mg base ["_law_script","_law_at","_law_first","_law_rich","_law_keys","_law_layers","_law_layer","_law_row_here","_law_plain","_law_chords","_law_k","_law_cell_here","_law_some"] "_law_bed" (aI (top 45)) f c A a s H E).Zq ((le (sv (av ((fb ((fb ((aC (top 45)).getD 9 DP)).getD 2 DP)).getD 0 DP)))).getD 0 DE) t/\EO K E t (cU {~~~0,~~~1}):=⟨_,(eh (aa ao (aa ao ah))),(fC (af aq (af aq ai)))⟩;obtain⟨aqF,l,e⟩:∃t,PE (gl fF P w K mg base ["_law_script","_law_at","_law_first","_law_rich","_law_keys","_law_layers","_law_layer","_law_row_here","_law_plain","_law_chords","_law_k","_law_cell_here","_law_some"] "_law_bed" (aI (top 45)) f c A a s H E).Zq ((le (sv (av ((fb ((fb ((aC (top 45)).getD 9 DP)).getD 2 DP)).getD 0 DP)))).getD 1 DE) t/\EO K E t (cU {~~~1,~~~2}):=⟨_,(eh (aa ao (aa ao ah))),(fC (af aq (af aq ai)))⟩;obtain⟨ap7,r,o⟩:∃t,PE (gl fF P w K mg base ["_law_script","_law_at","_law_first","_law_rich","_law_keys","_law_layers","_law_layer","_law_row_here","_law_plain","_law_chords","_law_k","_law_cell_here","_law_some"] "_law_bed" (aI (top 45)) f c A a s H E).Zq ((le (sv (av ((fb ((fb ((aC (top 45)).getD 9 DP)).getD 2 DP)).getD 0 DP)))).getD 2 DE) t/\EO K E t (cU {~~~0,~~~1,~~~2}):=⟨_,(eh (aa ao (aa ao (aa ao ah)))),(fC (af aq (af aq (af aq ai))))⟩;obtain⟨aqQ,j,h⟩:∃t,PE (gl fF P w K mg base ["_law_script","_law_at","_law_first","_law_rich","_law_keys","_law_layers","_law_layer","_law_row_here","_law_plain","_law_chords","_law_k","_law_cell_here","_law_some"] "_law_bed" (aI (top 45)) f c A a s H E).Zq ((le (sv (av ((fb ((fb ((aC (top 45)).getD 9 DP)).getD 2 DP)).getD 0 DP)))).getD 3 DE) t/\EO K E t (cU {~~~0,aA uO (ae 4) (~~~1)}):=⟨_,(eh (aa ao (aa (bw Ex (pv 4) ao) ah))),(fC (af aq (af (ap Br ad aq) ai)))⟩;have z:Az ((le (sv (av ((fb ((fb ((aC (top 45)).getD 9 DP)).getD 2 DP)).getD 0 DP)))).getD 0 DE)=Rh:=rfl;have y:Az ((le (sv (av ((fb ((fb ((aC (top 45)).getD 9 DP)).getD 2 DP)).getD 0 DP)))).getD 1 DE)=Rh:=rfl;have u:Az ((le (sv (av ((fb ((fb ((aC (top 45)).getD 9 DP)).getD 2 DP)).getD 0 DP)))).getD 2 DE)=Rh:=rfl;have v:Az ((le (sv (av ((fb ((fb ((aC (top 45)).getD 9 DP)).getD 2 DP)).getD 0 DP)))).getD 3 DE)=Rh:=rfl;obtain⟨ti0,L,G⟩:∃t,PE (gl fF P w K mg base ["_law_script","_law_at","_law_first","_law_rich","_law_keys","_law_layers","_law_layer","_law_row_here","_law_plain","_law_chords","_law_k","_law_cell_here","_law_some"] "_law_bed" (aI (top 45)) f c A a s H E).Zq (ss (av ((fb ((fb ((aC (top 45)).getD 9 DP)).getD 2 DP)).getD 0 DP))) t/\EO K E t (aA cq (aA bM (ae 10) (aA c9 (ae 2) (~~~960))) (~~~4)):=⟨_,(bw fV (bw b7 (pv 10) (bw fk (pv 2) ao)) ao),(ap eF (ap b9 ad (ap gy ad aq)) aq)⟩;obtain⟨tc0,M,I⟩:∃t,PT (gl fF P w K mg base ["_law_script","_law_at","_law_first","_law_rich","_law_keys","_law_layers","_law_layer","_law_row_here","_law_plain","_law_chords","_law_k","_law_cell_here","_law_some"] "_law_bed" (aI (top 45)) f c A a s H E).Zq (iT ((fb ((aC (top 45)).getD 9 DP)).getD 2 DP)) t/\TTO K E t (ay (ae 3)):=⟨_,(df (pv 3)),(eS ad)⟩;have O:tu (ss (av ((fb ((fb ((aC (top 45)).getD 9 DP)).getD 2 DP)).getD 0 DP))):=λ_ _=>rfl;have d:(sv (av ((fb ((fb ((aC (top 45)).getD 9 DP)).getD 2 DP)).getD 0 DP)))=.List [(le (sv (av ((fb ((fb ((aC (top 45)).getD 9 DP)).getD 2 DP)).getD 0 DP)))).getD 0 DE,(le (sv (av ((fb ((fb ((aC (top 45)).getD 9 DP)).getD 2 DP)).getD 0 DP)))).getD 1 DE,(le (sv (av ((fb ((fb ((aC (top 45)).getD 9 DP)).getD 2 DP)).getD 0 DP)))).getD 2 DE,(le (sv (av ((fb ((fb ((aC (top 45)).getD 9 DP)).getD 2 DP)).getD 0 DP)))).getD 3 DE] (lp (sv (av ((fb ((fb ((aC (top 45)).getD 9 DP)).getD 2 DP)).getD 0 DP)))):=rfl;have Q:(av ((fb ((fb ((aC (top 45)).getD 9 DP)).getD 2 DP)).getD 0 DP))=.Subscript (sv (av ((fb ((fb ((aC (top 45)).getD 9 DP)).getD 2 DP)).getD 0 DP))) (ss (av ((fb ((fb ((aC (top 45)).getD 9 DP)).getD 2 DP)).getD 0 DP))) (sP (av ((fb ((fb ((aC (top 45)).getD 9 DP)).getD 2 DP)).getD 0 DP))):=rfl;have S:((fb ((fb ((aC (top 45)).getD 9 DP)).getD 2 DP)).getD 0 DP)=.Assign [.Name "_law_some" (nP ((fb ((fb ((aC (top 45)).getD 9 DP)).getD 2 DP)).getD 0 DP))] (av ((fb ((fb ((aC (top 45)).getD 9 DP)).getD 2 DP)).getD 0 DP)) (aP ((fb ((fb ((aC (top 45)).getD 9 DP)).getD 2 DP)).getD 0 DP)):=rfl;have R:((fb ((aC (top 45)).getD 9 DP)).getD 2 DP)=.If (iT ((fb ((aC (top 45)).getD 9 DP)).getD 2 DP)) [((fb ((fb ((aC (top 45)).getD 9 DP)).getD 2 DP)).getD 0 DP)] [] (iP ((fb ((aC (top 45)).getD 9 DP)).getD 2 DP)):=rfl;obtain⟨t0,u0,Y⟩:∃t,PE (gl fF P w K mg base ["_law_script","_law_at","_law_first","_law_rich","_law_keys","_law_layers","_law_layer","_law_row_here","_law_plain","_law_chords","_law_k","_law_cell_here","_law_some"] "_law_bed" (aI (top 45)) f c A a s H E).Zq (sv (av ((fb ((fb ((aC (top 45)).getD 9 DP)).getD 2 DP)).getD 0 DP))) t/\EO K E t (cH {cU {~~~0,~~~1},cU {~~~1,~~~2},cU {~~~0,~~~1,~~~2},cU {~~~0,aA uO (ae 4) (~~~1)}}):=by generalize (le (sv (av ((fb ((fb ((aC (top 45)).getD 9 DP)).getD 2 DP)).getD 0 DP)))).getD 0 DE=e0 at*;generalize (le (sv (av ((fb ((fb ((aC (top 45)).getD 9 DP)).getD 2 DP)).getD 0 DP)))).getD 1 DE=e1 at*;generalize (le (sv (av ((fb ((fb ((aC (top 45)).getD 9 DP)).getD 2 DP)).getD 0 DP)))).getD 2 DE=e2 at*;generalize (le (sv (av ((fb ((fb ((aC (top 45)).getD 9 DP)).getD 2 DP)).getD 0 DP)))).getD 3 DE=e3 at*;rw[d];exact⟨_,cS (OZ p (OZ l (OZ r (OZ j ah v) u) y) z),c8 (af q (af e (af o (af h ai))))⟩
 obtain⟨ts0,J,C⟩:∃t,PS (gl fF P w K mg base ["_law_script","_law_at","_law_first","_law_rich","_law_keys","_law_layers","_law_layer","_law_row_here","_law_plain","_law_chords","_law_k","_law_cell_here","_law_some"] "_law_bed" (aI (top 45)) f c A a s H E).Zq ((fb ((aC (top 45)).getD 9 DP)).getD 2 DP) t/\SO K E t (dJ (ay (ae 3)) (bp (aA bx (cH {cU {~~~0,~~~1},cU {~~~1,~~~2},cU {~~~0,~~~1,~~~2},cU {~~~0,aA uO (ae 4) (~~~1)}}) (aA cq (aA bM (ae 10) (aA c9 (ae 2) (~~~960))) (~~~4))) (gN 12)) bq):=by clear d p q z l e y r o u j h v;rw[R];generalize iT ((fb ((aC (top 45)).getD 9 DP)).getD 2 DP)=eC at*;generalize iP ((fb ((aC (top 45)).getD 9 DP)).getD 2 DP)=pC at*;rw[S];generalize nP ((fb ((fb ((aC (top 45)).getD 9 DP)).getD 2 DP)).getD 0 DP)=pN at*;generalize aP ((fb ((fb ((aC (top 45)).getD 9 DP)).getD 2 DP)).getD 0 DP)=pA at*;rw[Q];generalize (sv (av ((fb ((fb ((aC (top 45)).getD 9 DP)).getD 2 DP)).getD 0 DP)))=eL at*;generalize ss (av ((fb ((fb ((aC (top 45)).getD 9 DP)).getD 2 DP)).getD 0 DP))=eI at*;generalize sP (av ((fb ((fb ((aC (top 45)).getD 9 DP)).getD 2 DP)).getD 0 DP))=pS at*;exact⟨_,bH M (au (bh (i:=12) dZ.nd rfl (a8 rfl) (bE aX u0 L O))) aN,bU I (bF (ap bc Y G) aB) bg⟩
 exact om (az (by fail "so")
   (az (by fail "so")
   (az (by fail "so")
   (az (by fail "so")
   (az (by fail "so")
   (az (bF (c8 ai) aB)
   (az (jr (g6 (af (ap b9 aq (ap eF (ap gy ad aq) aq)) ai)) aB (az (bF (cO rfl rfl (g6 (af ad ai)) aB cf (bv (af (bv (af ad (af (ap b9 (ap b9 (ap b9 ad aq) (ap lJ aq ad)) ad) ai))) (af (ap b9 (ap lJ aq ad) ad) ai)))) aB)
   (az (gz (lX (bV fM (af (cO rfl rfl (gv ad) aB cf (bv (af ad (af ad (af (ap b9 aq (ap eF (ap gy ad aq) aq)) ai))))) ai))))
   (bU (gC (eS ad) (aG (ap bQ ad aq))) (bF (c8 (af (bV fM (af (cO rfl rfl (gv ad) aB cf (fC (af aJ (af (bv (af (ap gy ad aq) ai)) ai)))) ai)) ai)) aB) bg))))
   (az (bF (cO rfl rfl (g6 (af ad ai)) aB (aG (ap bQ (ap bc (ap bc (ap bc ad aq) ad) aq) aJ)) ad) aB)
   (az (bF (c8 ai) aB)
   (az (jr (g6 (af (ap bc (c8 (af (ap eF (bv (af (bv (af ad (af (ap b9 ad aq) ai))) (af aq ai))) aq) (af (ap b9 aq (ap eF (ap gy ad aq) aq)) ai))) (bV A6 (af ad ai))) ai)) aB (az (by fail "so")
   (az (bF (bV fM (af (nF rfl rfl og aB (aG (ap bQ (ap eF (ap gy ad (ap bc (c8 (af aq (af aq (af aq (af aq (af aq ai)))))) ad)) aq) aq)) ad) ai)) aB)
   (az C
   (bU (gC (aG (ap pj (bV fO (af ad ai)) aq)) (aG (ap re ad (nF rfl rfl og aB cf (ap bc ad aq))))) (by fail "so") bg)))))
   (by fail "so"))))))))))) (ag (by fail "te")
   (ag (by fail "te")
   (ag (by fail "te")
   (ag (by fail "te")
   (ag (by fail "te")
   (ag (bh (i:=5) dZ.nd rfl (cv rfl) (cS ah))
   (ag (jg UK.never rfl (eJ rfl B (aa (bw b7 ao (bw fV (bw fk (pv 2) ao) ao)) ah)) (bf (i:=6) dZ.nd rfl (cv rfl)) (ag (qm (i:=7) ["_law_key"] [("_law_script",0),("_law_at",1),("_law_layer",6)] dZ.nd rfl rfl rfl (eJ rfl B (aa (pv 4) ah)) (λ_ _ _ _=>(bf (i:=0) (show RY (["_law_key","_law_script","_law_at","_law_layer"]:cM Str) by left) rfl (a8 rfl))) (λ_ _ _ _=>ck) (λ_ _ _ _=>(bj X b (aa (bj U b (aa (pv 1) (aa (bw b7 (bw b7 (bw b7 (pv 2) ao) (bw oq ao (pv 3))) (pv 0)) ah))) (aa (bw b7 (bw oq ao (pv 3)) (pv 0)) ah)))) ⟨⟨rfl,rfl,a8 rfl⟩,⟨⟨rfl,rfl,a8 rfl⟩,⟨⟨rfl,rfl,a8 rfl⟩,trivial⟩⟩⟩ rfl)
   (ag (fq (eU Sg SX SY gn (pv 5) (aa (b8 cC rfl T eD (aa (cW ["_law_cell_here"] [("_law_layer",6),("_law_first",2)] rfl (eZ (pv 7)) (λ_ _ _ _=>(bf (i:=0) (show RY (["_law_cell_here","_law_layer","_law_first"]:cM Str) by left) rfl (a8 rfl))) (λ_ _ _ _=>ck) (λ_ _ _ _=>(bj V8 b (aa (pv 0) (aa (pv 1) (aa (bw b7 ao (bw fV (bw fk (pv 2) ao) ao)) ah))))) ⟨⟨rfl,rfl,a8 rfl⟩,⟨⟨rfl,rfl,a8 rfl⟩,trivial⟩⟩ rfl) ah)) ah)))
   (au (bH (PW.pt (iS (df (pv 3)) (gZ (aK (bO N) (pv 6) ao (aQ _))))) (au (bh (i:=5) dZ.nd rfl (cv rfl) (cS (aa (b8 cC rfl T eD (aa (cW ["_law_cell_here"] [] rfl (eZ (pv 7)) (λ_ _ _ _=>(bf (i:=0) (show RY (["_law_cell_here"]:cM Str) by left) rfl (a8 rfl))) (λ_ _ _ _=>ck) (λ_ _ _ _=>(eh (aa aL (aa (bj TZ b (aa (bw fk (pv 0) ao) ah)) ah)))) trivial rfl) ah)) ah)))) aN)))))
   (ag (qm (i:=8) ["_law_key"] [("_law_layers",5)] dZ.nd rfl rfl rfl (eJ rfl B (aa (pv 4) ah)) (λ_ _ _ _=>(bf (i:=0) (show RY (["_law_key","_law_layers"]:cM Str) by left) rfl (a8 rfl))) (λ_ _ _ _=>(nM (aK (bO N) (bE aX (bE aX (bE aX (pv 1) ao (λ_ _=>rfl)) (pv 0) (λ_ _=>rfl)) ao (λ_ _=>rfl)) aL (aQ _)))) (λ_ _ _ _=>(pv 0)) ⟨⟨rfl,rfl,a8 rfl⟩,trivial⟩ rfl)
   (ag (bh (i:=9) dZ.nd rfl (a8 rfl) (cS ah))
   (ag (jg UK.never rfl (eJ rfl B (aa (bE aX (cS (aa (bw fV (bj X b (aa (bj U b (aa (pv 0) (aa (bw b7 (pv 1) ao) ah))) (aa ao ah))) ao) (aa (bw b7 ao (bw fV (bw fk (pv 2) ao) ao)) ah))) (b8 sh rfl Wd v9 (aa (pv 3) ah)) (λ_ _=>rfl)) ah)) (bf (i:=10) dZ.nd rfl (a8 rfl)) (ag (by fail "te")
   (ag (bh (i:=12) dZ.nd rfl (a8 rfl) (b8 cC rfl T eD (aa (cW ["_law_key"] [("_law_cell_here",11)] rfl (eZ (pv 8)) (λ_ _ _ _=>(bf (i:=0) (show RY (["_law_key","_law_cell_here"]:cM Str) by left) rfl (a8 rfl))) (λ_ _ _ _=>(nM (aK (bO N) (bw fV (bw fk (pv 1) (bE aX (cS (aa ao (aa ao (aa ao (aa ao (aa ao ah)))))) (pv 0) (λ_ _=>rfl))) ao) ao (aQ _)))) (λ_ _ _ _=>(pv 0)) ⟨⟨rfl,rfl,a8 rfl⟩,trivial⟩ rfl) ah)))
   (ag J
   (au (bH (PW.pt (iS (aK ul (aH cn rfl Su fD (aa (pv 12) ah)) ao (aQ _)) (gZ (aK (p7 hv) (pv 12) (cW ["_law_chord"] [] rfl (eZ (pv 9)) (λ_ _ _ _=>(bf (i:=0) (show RY (["_law_chord"]:cM Str) by left) rfl (a8 rfl))) (λ_ _ _ _=>ck) (λ_ _ _ _=>(bE aX (pv 0) ao (λ_ _=>rfl))) trivial rfl) (by with_unfolding_all rfl))))) (au (by fail "te")) aN))))))
   (au (by fail "te"))))))))))))
theorem qO:Tz ["_law_meaning_here"] ["_law_meaning_here"] (aI (top 52)):=by fail "sc"
theorem xh(F:Vf K "_law_word" "_law_word" (top 52) f Z)(N:mg "str"=cL):FnOk P w K mg base fF 1 f Z ["_law_meaning_here"] (iA K 1 iy):=by
 refine F6 (k:=0) (n:=1) (m:=1) (g:=oi) (FF:=iy) F qO rfl rfl rfl (λB A a s H E M=>?_);have L:=M.units;have T:=mP M;have nd:=qO.nd;obtain⟨R,j,e⟩:∃t,PE (gl fF P w K mg base ["_law_meaning_here"] "_law_word" (aI (top 52)) f B A a s H E).Zq (ss (bl (oY ((aC (top 52)).getD 2 DP)))) t/\EO K E t (aA bx (ae 0) (~~~0)):=⟨_,(bE aX (pv 0) ao (λ_ _=>rfl)),(ap bc ad aq)⟩;obtain⟨Q,h,d⟩:∃t,PE (gl fF P w K mg base ["_law_meaning_here"] "_law_word" (aI (top 52)) f B A a s H E).Zq (br (oY ((aC (top 52)).getD 2 DP))) t/\EO K E t (pT i9 (pC (.str "")) {dh 1 [] (jU (kQ wm (ae 0) (cG (~~~1)) dm)) (gN 0) bZ (dD pW {ae 0})}):=⟨_,(eU RZ UO UP rh aL (aa (cW ["_law_n"] [] rfl (eZ (cb nq (pv 0) (cw ao) di)) (λ_ _ _ _=>(bf (i:=0) (show RY (["_law_n"]:cM Str) by left) rfl (a8 rfl))) (λ_ _ _ _=>ck) (λ_ _ _ _=>(b8 iL rfl N jF (aa (pv 0) ah))) trivial rfl) ah)),(j4 oy aJ (af (cO rfl rfl (gv (fE km ad (bR aq) cJ)) aB cf (bV si (af ad ai))) ai))⟩;have o:tu (ss (bl (oY ((aC (top 52)).getD 2 DP)))):=λ_ _=>rfl;have v:ah8 (dK (sv (bl (oY ((aC (top 52)).getD 2 DP))))) (dV (sv (bl (oY ((aC (top 52)).getD 2 DP)))))=ax [(lD.str "layer",lD.str ">"),(lD.str "once",lD.str "~"),(lD.str "none",lD.str "."),(lD.str "below",lD.str "_")]:=rfl;have u:(dK (sv (bl (oY ((aC (top 52)).getD 2 DP))))).all (·.isSome)=OK:=rfl;have r:(dK (sv (bl (oY ((aC (top 52)).getD 2 DP))))).length=(dV (sv (bl (oY ((aC (top 52)).getD 2 DP))))).length:=rfl;have p:(dK (sv (bl (oY ((aC (top 52)).getD 2 DP))))).length<=15:=by left
 have l:(dK (sv (bl (oY ((aC (top 52)).getD 2 DP)))))≠[]:=λq=>by have q:=e9 Za q;exact a7 (show(4:Nat)=0 from q) (by decide)
 have z:(sv (bl (oY ((aC (top 52)).getD 2 DP))))=.Dict (dK (sv (bl (oY ((aC (top 52)).getD 2 DP))))) (dV (sv (bl (oY ((aC (top 52)).getD 2 DP))))) (dP (sv (bl (oY ((aC (top 52)).getD 2 DP))))):=rfl;have c:(bl (oY ((aC (top 52)).getD 2 DP)))=.Subscript (sv (bl (oY ((aC (top 52)).getD 2 DP)))) (ss (bl (oY ((aC (top 52)).getD 2 DP)))) (sP (bl (oY ((aC (top 52)).getD 2 DP)))):=rfl;have y:(oY ((aC (top 52)).getD 2 DP))=.BinOp (bl (oY ((aC (top 52)).getD 2 DP))) .Add (br (oY ((aC (top 52)).getD 2 DP))) (bP (oY ((aC (top 52)).getD 2 DP))):=rfl;have b:((aC (top 52)).getD 2 DP)=.Return (ax (oY ((aC (top 52)).getD 2 DP))) (rP ((aC (top 52)).getD 2 DP)):=rfl;obtain⟨S,J,G⟩:∃t,PE (gl fF P w K mg base ["_law_meaning_here"] "_law_word" (aI (top 52)) f B A a s H E).Zq (bl (oY ((aC (top 52)).getD 2 DP))) t/\EO K E t (Ma [(lD.str "layer",lD.str ">"),(lD.str "once",lD.str "~"),(lD.str "none",lD.str "."),(lD.str "below",lD.str "_")] (aA bx (ae 0) (~~~0))):=by clear y b h d;rw[c];generalize (ss (bl (oY ((aC (top 52)).getD 2 DP))))=eI at*;generalize sP (bl (oY ((aC (top 52)).getD 2 DP)))=pS at*;clear c;rw[z];generalize dK (sv (bl (oY ((aC (top 52)).getD 2 DP))))=kD at*;generalize dV (sv (bl (oY ((aC (top 52)).getD 2 DP))))=vD at*;generalize dP (sv (bl (oY ((aC (top 52)).getD 2 DP))))=pD at*;exact⟨_,IE j v rfl (by left) u r l p o,Nk e⟩
 obtain⟨O,I,C⟩:∃t,PS (gl fF P w K mg base ["_law_meaning_here"] "_law_word" (aI (top 52)) f B A a s H E).Zq ((aC (top 52)).getD 2 DP) t/\SO K E t (bG (aA fQ (Ma [(lD.str "layer",lD.str ">"),(lD.str "once",lD.str "~"),(lD.str "none",lD.str "."),(lD.str "below",lD.str "_")] (aA bx (ae 0) (~~~0))) (pT i9 (pC (.str "")) {dh 1 [] (jU (kQ wm (ae 0) (cG (~~~1)) dm)) (gN 0) bZ (dD pW {ae 0})}))):=by clear j e o v u r p l z c;rw[b];generalize rP ((aC (top 52)).getD 2 DP)=pR at*;clear b;rw[y];generalize bP (oY ((aC (top 52)).getD 2 DP))=pB at*;generalize (br (oY ((aC (top 52)).getD 2 DP)))=eC at*;generalize (bl (oY ((aC (top 52)).getD 2 DP)))=eB at*;exact⟨_,aU (bw cI J h),aZ (ap dH G d)⟩
 exact om (az (bU (aG (ap bQ (ap bc ad aq) aJ)) (aZ (ap bc ad aq)) bg)
   (az (bU (aG (ap bQ (ap bc ad aq) aJ)) (aZ (ap dH (ap dH (ap bc ad aq) aJ) (bV si (af (ap bc ad aq) ai)))) bg)
   C)) (ag (bH (aK (bO L) (bE aX (pv 0) ao (λ_ _=>rfl)) aL (aQ _)) (au (aU (bE aX (pv 0) ao (λ_ _=>rfl)))) aN)
   (ag (bH (aK (bO L) (bE aX (pv 0) ao (λ_ _=>rfl)) aL (aQ _)) (au (aU (bw cI (bw cI (bE aX (pv 0) ao (λ_ _=>rfl)) aL) (b8 iL rfl N jF (aa (bE aX (pv 0) ao (λ_ _=>rfl)) ah))))) aN)
   (au I)))
theorem xi(F:Vf K "_law_text" "_law_text" (top 53) f Z)(d:cQ P w K mg base 1 "_law_word" ["_law_meaning_here"] 1 iy)(b:mg "str"=cL):FnOk P w K mg base fF 2 f Z ["_law_bed_here"] (iA K 1 jO):=iC (N:=["_law_bed_here","_law_rows","_law_layer","_law_some","_law_sign"]) (g:=nY) F (by fail "sc") rfl rfl rfl λk A a s H E nd c h j e=>om (az (bF (c8 (af (ap dH (ap dH (ap dH aJ (bV si (af (ap bc ad aq) ai))) aJ) (bV si (af (ap bc ad aq) ai))) ai)) aB)
   (az (jr (gv (ap bc ad aq)) aB (gz (lX (ap dH aJ (j4 oy aJ (af (cO rfl rfl (gv ad) aB cf (bv (af ad ai))) ai))))))
   (az (jr (gv (ap bc ad aq)) (jf (db aB (db aB jm))) (gz (lX (ap dH (ap dH (ap dH aJ (j4 oy aJ (af (cO rfl rfl (gv ad) aB cf (bV si (af ad ai))) ai))) aJ) ad))))
   (aZ (j4 oy aJ (af ad ai)))))) (ag (bh (i:=1) nd rfl (a8 rfl) (cS (aa (bw cI (bw cI (bw cI aL (b8 iL rfl b jF (aa (bE aX (pv 0) ao (λ_ _=>rfl)) ah))) aL) (b8 iL rfl b jF (aa (bE aX (pv 0) ao (λ_ _=>rfl)) ah))) ah)))
   (ag (jg UK.never rfl (eZ (bE aX (pv 0) ao (λ_ _=>rfl))) (bf (i:=2) nd rfl (a8 rfl)) (au (fq (eU Sg SX SY gn (pv 1) (aa (bw cI aL (eU RZ UO UP rh aL (aa (cW ["_law_meaning_here"] [] rfl (eZ (pv 2)) (λ_ _ _ _=>(bf (i:=0) (show RY (["_law_meaning_here"]:cM Str) by left) rfl (a8 rfl))) (λ_ _ _ _=>ck) (λ_ _ _ _=>(bj d c (aa (pv 0) ah))) trivial rfl) ah))) ah)))))
   (ag (jg UK.never rfl (eZ (bE aX (pv 0) ao (λ_ _=>rfl))) (ji rfl (cz (bf (i:=3) nd rfl (a8 rfl)) (cz (bf (i:=4) nd rfl (a8 rfl)) g7))) (au (fq (eU Sg SX SY gn (pv 1) (aa (bw cI (bw cI (bw cI aL (eU RZ UO UP rh aL (aa (cW ["_law_key"] [] rfl (eZ (pv 3)) (λ_ _ _ _=>(bf (i:=0) (show RY (["_law_key"]:cM Str) by left) rfl (a8 rfl))) (λ_ _ _ _=>ck) (λ_ _ _ _=>(b8 iL rfl b jF (aa (pv 0) ah))) trivial rfl) ah))) aL) (pv 4)) ah)))))
   (au (aU (eU RZ UO UP rh aL (aa (pv 1) ah)))))))
abbrev DM(P:RT)(w:SG)(K:td)(mg:Str->c5 Rf)(base:Heap)(f:Rq)(a:Rf)(A:Sk)(outer:cM Env)(s:Ro)(H:Hp)(E:XK):Cx:=(gl fF P w K mg base ["_law_text_here","_law_cell_here","_law_other","_law_signs","_law_at","_law_sign","_law_way","_law_rows"] "_law_changed" (aI (top 54)) f a A outer s H E).Zq
def DS:Tq:=(aC (top 54)).getD 0 DP
def DR:Tq:=(aC (top 54)).getD 1 DP
def Ed:Tq:=(aC (top 54)).getD 2 DP
def FP:Tq:=(aC (top 54)).getD 3 DP
def Ff:Tq:=(aC (top 54)).getD 4 DP
def FZ:Tq:=(aC (top 54)).getD 5 DP
def Gw:Tq:=(aC (top 54)).getD 6 DP
def FC:Tq:=(aC (top 54)).getD 7 DP
def GX:Tq:=(aC (top 54)).getD 8 DP
def AB:Tq:=(aC (top 54)).getD 9 DP
def zI:Tq:=(aC (top 54)).getD 10 DP
def zL:Tq:=(aC (top 54)).getD 11 DP
theorem dw:Tz ["_law_text_here","_law_cell_here","_law_other","_law_signs","_law_at","_law_sign","_law_way","_law_rows"] ["_law_text_here","_law_cell_here","_law_other"] (aI (top 54)):=by fail "sc"
theorem sK(F:Vf K "_law_changed" "_law_changed" (top 54) f Z)(e:mg "len"=cL):FnOk P w K mg base fF 1 f Z ["_law_text_here","_law_cell_here","_law_other"] (iA K 3 dW):=by
 refine F6 (k:=0) (n:=3) (m:=8) (g:=i6) (FF:=dW) F dw rfl rfl rfl (λb A a s H E U=>?_);have d:=U.units;have hv:=mP U;have nd:=dw.nd;obtain⟨tq1,N,v⟩:∃t,PS (DM P w K mg base f b A a s H E) DS t/\SO K E t (bp (pC (.str "0123 ab>~._+z\nkeA-\t")) (gN 3)):=⟨_,(bh (i:=3) dw.nd rfl (a8 rfl) aL (hs:=yI)),(bF aJ aB)⟩;obtain⟨tq2,M,u⟩:∃t,PS (DM P w K mg base f b A a s H E) DR t/\SO K E t (bp (aA cq (ae 1) (aA bM (dD rZ {ae 0}) (~~~1))) (gN 4)):=⟨_,(bh (i:=4) dw.nd rfl (a8 rfl) (bw fV (pv 1) (bw b7 (aH cn rfl e fD (aa (pv 0) ah)) ao)) (hs:=gh)),(bF (ap eF ad (ap b9 (bV kT (af ad ai)) aq)) aB)⟩;obtain⟨tq3,L,r⟩:∃t,PS (DM P w K mg base f b A a s H E) Ed t/\SO K E t (bp (aA DN (ae 3) (aA cq (ae 2) (~~~19))) (gN 5)):=⟨_,(bh (i:=5) dw.nd rfl (a8 rfl) (bE aX (pv 3) (bw fV (pv 2) ao) (λ_ _=>rfl)) (hs:=rj)),(bF (ap l6 ad (ap eF ad aq)) aB)⟩;obtain⟨tq4,J,q⟩:∃t,PS (DM P w K mg base f b A a s H E) FP t/\SO K E t (bp (aA cq (aA c9 (ae 2) (~~~19)) (~~~6)) (gN 6)):=⟨_,(bh (i:=6) dw.nd rfl (a8 rfl) (bw fV (bw fk (pv 2) ao) ao) (hs:=gh)),(bF (ap eF (ap gy ad aq) aq) aB)⟩;obtain⟨tq5,I,p⟩:∃t,PS (DM P w K mg base f b A a s H E) Ff t/\SO K E t (dJ (ay (aA dq (ae 6) (~~~0))) (bG (aA fQ (kQ bT (ae 0) dm (cG (ae 4))) (kQ bT (ae 0) (cG (aA bM (ae 4) (~~~1))) dm))) bq):=⟨_,(bH (aK (bO d) (pv 6) ao (aQ _)) (au (aU (bw cI (cb gb (pv 0) di (cw (pv 4))) (cb gb (pv 0) (cw (bw b7 (pv 4) ao)) di)))) aN),(bU (aG (ap bQ ad aq)) (aZ (ap dH (fE ej ad cJ (bR ad)) (fE ej ad (bR (ap b9 ad aq)) cJ))) bg)⟩;obtain⟨tq6,G,o⟩:∃t,PS (DM P w K mg base f b A a s H E) FZ t/\SO K E t (dJ (ay (aA dq (ae 6) (~~~1))) (bG (aA fQ (aA fQ (kQ bT (ae 0) dm (cG (ae 4))) (kQ bT (ae 0) (cG (ae 4)) (cG (aA bM (ae 4) (~~~1))))) (kQ bT (ae 0) (cG (ae 4)) dm))) bq):=⟨_,(bH (aK (bO d) (pv 6) ao (aQ _)) (au (aU (bw cI (bw cI (cb gb (pv 0) di (cw (pv 4))) (cb gb (pv 0) (cw (pv 4)) (cw (bw b7 (pv 4) ao)))) (cb gb (pv 0) (cw (pv 4)) di)))) aN),(bU (aG (ap bQ ad aq)) (aZ (ap dH (ap dH (fE ej ad cJ (bR ad)) (fE ej ad (bR ad) (bR (ap b9 ad aq)))) (fE ej ad (bR ad) cJ))) bg)⟩;obtain⟨tq7,C,l⟩:∃t,PS (DM P w K mg base f b A a s H E) Gw t/\SO K E t (dJ (ay (aA dq (ae 6) (~~~2))) (bG (aA fQ (aA fQ (kQ bT (ae 0) dm (cG (ae 4))) (ae 5)) (kQ bT (ae 0) (cG (ae 4)) dm))) bq):=⟨_,(bH (aK (bO d) (pv 6) ao (aQ _)) (au (aU (bw cI (bw cI (cb gb (pv 0) di (cw (pv 4))) (pv 5)) (cb gb (pv 0) (cw (pv 4)) di)))) aN),(bU (aG (ap bQ ad aq)) (aZ (ap dH (ap dH (fE ej ad cJ (bR ad)) ad) (fE ej ad (bR ad) cJ))) bg)⟩;obtain⟨Y,B,j⟩:∃t,PS (DM P w K mg base f b A a s H E) FC t/\SO K E t (dJ (ay (aA dq (ae 6) (~~~3))) (bG (aA fQ (aA fQ (kQ bT (ae 0) dm (cG (ae 4))) (ae 5)) (kQ bT (ae 0) (cG (aA bM (ae 4) (~~~1))) dm))) bq):=⟨_,(bH (aK (bO d) (pv 6) ao (aQ _)) (au (aU (bw cI (bw cI (cb gb (pv 0) di (cw (pv 4))) (pv 5)) (cb gb (pv 0) (cw (bw b7 (pv 4) ao)) di)))) aN),(bU (aG (ap bQ ad aq)) (aZ (ap dH (ap dH (fE ej ad cJ (bR ad)) ad) (fE ej ad (bR (ap b9 ad aq)) cJ))) bg)⟩;obtain⟨X,y,h⟩:∃t,PS (DM P w K mg base f b A a s H E) GX t/\SO K E t (bp (pT fX (ae 0) {pC (.str "\n")}) (gN 7)):=⟨_,(bh (i:=7) dw.nd rfl (a8 rfl) (eU RZ Tf Tg jN (pv 0) (aa aL ah)) (hs:=kY)),(bF (j4 iU ad (af aJ ai)) aB)⟩;obtain⟨ak8,T,O⟩:∃t,PS (DM P w K mg base f b A a s H E) AB t/\SO K E t (bp (aA cq (ae 1) (dD dc {ae 7})) (gN 4)):=⟨_,(bh (i:=4) dw.nd rfl (a8 rfl) (bw fV (pv 1) (aH cn rfl e fD (aa (pv 7) ah))) (hs:=gh)),(bF (ap eF ad (bV fO (af ad ai))) aB)⟩;obtain⟨ajo,Q,S⟩:∃t,PS (DM P w K mg base f b A a s H E) zI t/\SO K E t (dJ (ay (aA dq (ae 6) (~~~4))) (d7 (zK 7 (aA cq (aA c9 (ae 2) (~~~114)) (aA bM (dD dc {ae 7}) (~~~1))) (aA bx (ae 7) (ae 4)))) (d7 (zK 7 (aA cq (aA c9 (ae 2) (~~~228)) (dD dc {ae 7})) (Dv 7 (ae 4))))):=⟨_,(bH (aK (bO d) (pv 6) ao (aQ _)) (au (fq (eU Sg U9 Wo rK (pv 7) (aa (bw fV (bw fk (pv 2) ao) (bw b7 (aH cn rfl e fD (aa (pv 7) ah)) ao)) (aa (bE aX (pv 7) (pv 4) (λ_ _=>rfl)) ah))))) (au (fq (eU Sg U9 Wo rK (pv 7) (aa (bw fV (bw fk (pv 2) ao) (aH cn rfl e fD (aa (pv 7) ah))) (aa (eU Sg PySem.F.slot_list_pop PySem.F.type_list_pop yu (pv 7) (aa (pv 4) ah)) ah)))))),(bU (aG (ap bQ ad aq)) (gz (Ax (ap eF (ap gy ad aq) (ap b9 (bV fO (af ad ai)) aq)) (ap bc ad ad))) (gz (Ax (ap eF (ap gy ad aq) (bV fO (af ad ai))) (Gh ad))))⟩;obtain⟨ajC,R,c⟩:∃t,PS (DM P w K mg base f b A a s H E) zL t/\SO K E t (bG (pT i9 (pC (.str "\n")) {ae 7})):=⟨_,(aU (eU RZ UO UP rh aL (aa (pv 7) ah))),(aZ (j4 oy aJ (af ad ai)))⟩;have hb:(aC (top 54))=[DS,DR,Ed,FP,Ff,FZ,Gw,FC,GX,AB,zI,zL]:=rfl;rw[hb];generalize DS=z0 at*;generalize DR=z1 at*;generalize Ed=z2 at*;generalize FP=z3 at*;generalize Ff=z4 at*;generalize FZ=z5 at*;generalize Gw=z6 at*;generalize FC=z7 at*;generalize GX=z8 at*;generalize AB=z9 at*;generalize zI=z10 at*;generalize zL=z11 at*;exact om (az v
   (az u
   (az r
   (az q
   (az p
   (az o
   (az l
   (az j
   (az h
   (az O
   (az S
   c))))))))))) (ag N
   (ag M
   (ag L
   (ag J
   (ag I
   (ag G
   (ag C
   (ag B
   (ag y
   (ag T
   (ag Q
   (au R))))))))))))
theorem sQ(F:Vf K "_law_figures" "_law_figures" (top 55) f Z)(c:mg "len"=cL)(h:mg "all"=cL)(e:mg "int"=cL):FnOk P w K mg base fF 1 f Z ["_law_word_here"] (iA K 1 c7):=iC (N:=["_law_word_here"]) (g:=kt) F (by fail "sc") rfl rfl rfl λl A a s H E nd j b k d=>om (az (bU (gL (aG (ap re (bV kT (af ad ai)) (c8 (af aq (af aq ai))))) (gC (aG (ap bQ (bV kT (af ad ai)) aq)) (aG (ap bQ (ap l6 ad aq) aJ)))) (aZ d9) bg)
   (az (bU (gA (eS (bV jY (af (cO rfl rfl (xX ad) aB cf (ie me me aJ ad aJ)) ai)))) (aZ d9) bg)
   (aZ (bV xj (af ad ai))))) (ag (bH (PW.pt (i7 (aK (p7 d) (aH cn rfl c fD (aa (pv 0) ah)) (cS (aa ao (aa ao ah))) (by with_unfolding_all rfl)) (jW (PW.pt (iS (aK (bO b) (aH cn rfl c fD (aa (pv 0) ah)) ao (aQ _)) (gZ (aK (bO b) (bE aX (pv 0) ao (λ_ _=>rfl)) aL (aQ _)))))))) (au (aU cy)) aN)
   (ag (bH (iu (df (aH (gj rfl) rfl h mO (aa (cW ["_law_sign"] [] rfl (AQ (pv 0)) (λ_ _ _ _=>(bf (i:=0) (show RY (["_law_sign"]:cM Str) by left) rfl (a8 rfl))) (λ_ _ _ _=>ck) (λ_ _ _ _=>(nO rM rM aL (pv 0) aL)) trivial rfl) ah)))) (au (aU cy)) aN)
   (au (aU (b8 v4 rfl e v9 (aa (pv 0) ah))))))
theorem qJ(F:Vf K "_law_is_letter" "_law_is_letter" (top 47) f Z)(c:mg "len"=cL):FnOk P w K mg base fF 1 f Z ["_law_sign"] (iA K 1 bS):=iC (N:=["_law_sign"]) (g:=js) F (by fail "sc") rfl rfl rfl λi A a s H E nd e b h d=>om (aZ (fU (ap bQ (bV kT (af ad ai)) aq) (ie me me aJ ad aJ))) (au (aU (fY (dr (bO b) (aH cn rfl c fD (aa (pv 0) ah)) ao (aQ _)) (fZ (nO rM rM aL (pv 0) aL)))))
theorem vd(F:Vf K "_law_meant" "_law_meant" (top 56) f Z)(e:cQ P w K mg base 1 "_law_is_letter" ["_law_sign"] 1 bS)(d:cQ P w K mg base 1 "_law_figures" ["_law_word_here"] 1 c7)(k:mg "int"=cL)(j:mg "max"=cL):FnOk P w K mg base fF 2 f Z ["_law_word_here"] (iA K 1 iJ):=iC (N:=["_law_word_here","_law_mark","_law_head","_law_there"]) (g:=l7) F (by fail "sc") rfl rfl rfl λm A c s H E nd b a l h=>om (az (bU (aG (ap uf ad (c8 (af aJ (af aJ ai))))) (aZ (ap bc (c8 (af (fC (af aJ ai)) (af (fC (af aJ ai)) ai))) (bV A6 (af (ap bQ ad aJ) ai)))) bg)
   (az (bU (eS (bv (af ad ai))) (aZ (fC (af aJ (af ad ai)))) bg)
   (az (bF (j4 G7 ad (af aJ ai)) aB)
   (az (bF (fE ej ad cJ (bR (bV B7 (af aq (af ad ai))))) aB)
   (az (bF (bv (af (fE ej ad (bR (ap b9 ad aq)) cJ) ai)) aB)
   (az (bU (gC (aG (ap bQ (fE ej ad cJ (bR aq)) aJ)) (aG (ap pF ad aq))) (az (bF (bv (af (fE ej ad (bR aq) cJ) ai)) aB)
   (bF aJ aB)) bg)
   (az (bU (gL (aG (ap qC ad d9)) (gL (gC (aG (ap kx ad aJ)) (gC (aG (ap kx ad aJ)) (gA (eS (bv (af ad ai)))))) (gC (aG (ap bQ ad aJ)) (aG (ap Gn ad aq))))) (aZ d9) bg)
   (az (bU (gC (aG (ap pF ad aq)) (aG (ap kx ad aJ))) (aZ d9) bg)
   (az (bU (aG (ap bQ ad aJ)) (aZ (fC (af aJ (af ad ai)))) bg)
   (az (bU (aG (ap bQ ad aJ)) (aZ (fC (af aJ (af ad ai)))) bg)
   (aZ (fC (af aJ (af ad (af ad ai))))))))))))))) (ag (bH (aK (tR h) (pv 0) (cS (aa aL (aa aL ah))) (by with_unfolding_all rfl)) (au (aU (bE aX (cS (aa (eh (aa aL ah)) (aa (eh (aa aL ah)) ah))) (b8 sh rfl k v9 (aa (dr (bO a) (pv 0) aL (aQ _)) ah)) (λ_ _=>rfl)))) aN)
   (ag (bH (df (bj e b (aa (pv 0) ah))) (au (aU (eh (aa aL (aa (pv 0) ah))))) aN)
   (ag (bh (i:=1) nd rfl (a8 rfl) (eU RZ PySem.F.slot_str_find PySem.F.type_str_find Ic (pv 0) (aa aL ah)))
   (ag (bh (i:=2) nd rfl (a8 rfl) (cb gb (pv 0) di (cw (aH (vJ rfl) rfl j Jw (aa ao (aa (pv 1) ah))))))
   (ag (bh (i:=3) nd rfl (a8 rfl) (bj d b (aa (cb gb (pv 0) (cw (bw b7 (pv 1) ao)) di) ah)))
   (ag (bH (PW.pt (iS (aK (bO a) (cb gb (pv 0) di (cw ao)) aL (aQ _)) (gZ (aK tZ (pv 1) ao (aQ _))))) (ag (bh (i:=3) nd rfl (a8 rfl) (bj d b (aa (cb gb (pv 0) (cw ao) di) ah)))
   (au (bh (i:=2) nd rfl (a8 rfl) aL))) aN)
   (ag (bH (PW.pt (i7 (aK l8 (pv 3) cy (aQ _)) (i7 (PW.pt (iS (aK (kJ a) (pv 2) aL (aQ _)) (iS (aK (kJ a) (pv 2) aL (aQ _)) (gZ (iu (df (bj e b (aa (pv 2) ah)))))))) (jW (PW.pt (iS (aK (bO a) (pv 2) aL (aQ _)) (gZ (aK JU (pv 1) ao (aQ _))))))))) (au (aU cy)) aN)
   (ag (bH (PW.pt (iS (aK tZ (pv 1) ao (aQ _)) (gZ (aK (kJ a) (pv 2) aL (aQ _))))) (au (aU cy)) aN)
   (ag (bH (aK (bO a) (pv 2) aL (aQ _)) (au (aU (eh (aa aL (aa (pv 3) ah))))) aN)
   (ag (bH (aK (bO a) (pv 2) aL (aQ _)) (au (aU (eh (aa aL (aa (pv 3) ah))))) aN)
   (au (aU (eh (aa aL (aa (pv 2) (aa (pv 3) ah))))))))))))))))
theorem yV(F:Vf K "_law_row" "_law_row" (top 57) f Z)(d:cQ P w K mg base 1 "_law_figures" ["_law_word_here"] 1 c7)(j:cQ P w K mg base 2 "_law_meant" ["_law_word_here"] 1 iJ)(k:cQ P w K mg base 1 "_law_is_letter" ["_law_sign"] 1 bS)(h:mg "len"=cL)(e:mg "tuple"=cL):FnOk P w K mg base fF 3 f Z ["_law_words","_law_first"] (iA K 2 io):=iC (N:=["_law_words","_law_first"]) (g:=mE) F (by fail "sc") rfl rfl rfl λn A c s H E nd b a m l=>om (az (bU (eS ad) (az (bU (gL (aG (ap kx (bV fO (af ad ai)) aq)) (gL (aG (ap kx (ap bc ad aq) aJ)) (aG (ap kx (ap bc ad aq) aJ)))) (aZ d9) bg)
   (aZ (bV fM (af (c8 (af (bv (af (ap bc ad aq) ai)) (af (bv (af (ap bc ad aq) ai)) ai))) ai)))) bg)
   (az (bU (aG (ap bQ (ap bc ad aq) aJ)) (aZ (bV fM (af (cO rfl rfl (gv (fE km ad (bR aq) cJ)) aB cf (bv (af ad ai))) ai))) bg)
   (az (bU (gL (aG (ap kx (ap bc ad aq) aJ)) (gL (aG (ap kx (bV fO (af ad ai)) aq)) (gA (eS (bv (af (ap bc ad aq) ai)))))) (aZ d9) bg)
   (aZ (bV fM (af (cO rfl rfl (gv (j4 iU (ap bc ad aq) (af aJ ai))) aB cf (bv (af ad ai))) ai)))))) (ag (bH (df (pv 1)) (ag (bH (PW.pt (i7 (aK (kJ a) (aH cn rfl h fD (aa (pv 0) ah)) ao (aQ _)) (i7 (aK (kJ a) (bE aX (pv 0) ao (λ_ _=>rfl)) aL (aQ _)) (jW (aK (kJ a) (bE aX (pv 0) ao (λ_ _=>rfl)) aL (aQ _)))))) (au (aU cy)) aN)
   (au (aU (b8 cC rfl e eD (aa (cS (aa (bj d b (aa (bE aX (pv 0) ao (λ_ _=>rfl)) ah)) (aa (bj d b (aa (bE aX (pv 0) ao (λ_ _=>rfl)) ah)) ah))) ah))))) aN)
   (ag (bH (aK (bO a) (bE aX (pv 0) ao (λ_ _=>rfl)) aL (aQ _)) (au (aU (b8 cC rfl e eD (aa (cW ["_law_word_here"] [] rfl (eZ (cb nq (pv 0) (cw ao) di)) (λ_ _ _ _=>(bf (i:=0) (show RY (["_law_word_here"]:cM Str) by left) rfl (a8 rfl))) (λ_ _ _ _=>ck) (λ_ _ _ _=>(bj j b (aa (pv 0) ah))) trivial rfl) ah)))) aN)
   (ag (bH (PW.pt (i7 (aK (kJ a) (bE aX (pv 0) ao (λ_ _=>rfl)) aL (aQ _)) (i7 (aK (kJ a) (aH cn rfl h fD (aa (pv 0) ah)) ao (aQ _)) (jW (iu (df (bj k b (aa (bE aX (pv 0) ao (λ_ _=>rfl)) ah)))))))) (au (aU cy)) aN)
   (au (aU (b8 cC rfl e eD (aa (cW ["_law_word_here"] [] rfl (eZ (eU RZ Tf Tg jN (bE aX (pv 0) ao (λ_ _=>rfl)) (aa aL ah))) (λ_ _ _ _=>(bf (i:=0) (show RY (["_law_word_here"]:cM Str) by left) rfl (a8 rfl))) (λ_ _ _ _=>ck) (λ_ _ _ _=>(bj d b (aa (pv 0) ah))) trivial rfl) ah)))))))
theorem sL(F:Vf K "_law_reading" "_law_reading" (top 58) f Z)(e:cQ P w K mg base 3 "_law_row" ["_law_words","_law_first"] 2 io)(k:mg "range"=cL)(c:mg "len"=cL)(h:mg "tuple"=cL):FnOk P w K mg base fF 4 f Z ["_law_text_here"] (iA K 1 dX):=iC (N:=["_law_text_here","_law_rows","_law_layers","_law_chords","_law_k","_law_found","_law_keys","_law_wait"]) (g:=kK) F (by fail "sc") rfl rfl rfl λm A a s H E nd d b l j=>om (az (bF (cO rfl rfl (gv (j4 iU ad (af aJ ai))) aB cf (j4 iU ad (af aJ ai))) aB)
   (az (bF (c8 ai) aB)
   (az (bF (c8 ai) aB)
   (az (jr (g6 (af (bV fO (af ad ai)) ai)) aB (az (bF (bv (af (ap bc ad ad) (af (ap bQ ad aq) ai))) aB)
   (az (bU (gL (aG (ap qC ad d9)) (gL (aG (ap uf d9 ad)) (aG (ap bQ (bV fO (af ad ai)) aq)))) (aZ (fC (af aq (af ad (af d9 ai))))) bg)
   (bU (gC (aG (ap pj ad aq)) (aG (ap bQ (ap bc (ap bc ad ad) aq) aJ))) (az (bU (aG (ap pj (bV fO (af ad ai)) aq)) (aZ (fC (af aq (af ad (af d9 ai))))) bg)
   (gz (lX ad))) (bU (aG (ap pj ad aq)) (gz (lX (fC (af ad (af (ap bc (ap bc ad ad) aq) ai))))) bg)))))
   (az (bF (bv (af (ap bc ad aq) (af zi ai))) (jf (db aB (db aB jm))))
   (aZ (fC (af ad (af (bV fM (af ad ai)) (af (bV fM (af ad ai)) (af ad ai))))))))))) (ag (qm (i:=1) ["_law_row_here"] [] nd rfl rfl rfl (eZ (eU RZ Tf Tg jN (pv 0) (aa aL ah))) (λ_ _ _ _=>(bf (i:=0) (show RY (["_law_row_here"]:cM Str) by left) rfl (a8 rfl))) (λ_ _ _ _=>ck) (λ_ _ _ _=>(eU RZ Tf Tg jN (pv 0) (aa aL ah))) trivial rfl)
   (ag (bh (i:=2) nd rfl (a8 rfl) (cS ah))
   (ag (bh (i:=3) nd rfl (a8 rfl) (cS ah))
   (ag (jg UK.never rfl (eJ rfl k (aa (aH cn rfl c fD (aa (pv 1) ah)) ah)) (bf (i:=4) nd rfl (a8 rfl)) (ag (bh (i:=5) nd rfl (a8 rfl) (bj e d (aa (bE aX (pv 1) (pv 4) (λ_ _=>rfl)) (aa (dr (bO b) (pv 4) ao (aQ _)) ah))))
   (ag (bH (PW.pt (i7 (aK l8 (pv 5) cy (aQ _)) (i7 (aK (tR j) cy (pv 5) (by with_unfolding_all rfl)) (jW (aK (bO b) (aH cn rfl c fD (aa (pv 5) ah)) ao (aQ _)))))) (au (aU (eh (aa ao (aa (pv 4) (aa cy ah)))))) aN)
   (au (bH (PW.pt (iS (aK ul (pv 4) ao (aQ _)) (gZ (aK (bO b) (bE aX (bE aX (pv 1) (pv 4) (λ_ _=>rfl)) ao (λ_ _=>rfl)) aL (aQ _))))) (ag (bH (aK ul (aH cn rfl c fD (aa (pv 3) ah)) ao (aQ _)) (au (aU (eh (aa ao (aa (pv 4) (aa cy ah)))))) aN)
   (au (fq (eU Sg SX SY gn (pv 2) (aa (pv 5) ah))))) (au (bH (aK ul (pv 4) ao (aQ _)) (au (fq (eU Sg SX SY gn (pv 3) (aa (eh (aa (pv 5) (aa (bE aX (bE aX (pv 1) (pv 4) (λ_ _=>rfl)) ao (λ_ _=>rfl)) ah))) ah)))) aN)))))))
   (ag (Ao (bj e d (aa (bE aX (pv 1) ao (λ_ _=>rfl)) (aa uy ah))) (ji rfl (cz (bf (i:=6) nd rfl (a8 rfl)) (cz (bf (i:=7) nd rfl (a8 rfl)) g7))))
   (au (aU (eh (aa (pv 6) (aa (b8 cC rfl h eD (aa (pv 2) ah)) (aa (b8 cC rfl h eD (aa (pv 3) ah)) (aa (pv 7) ah))))))))))))
theorem vw(F:Vf K "_law_means" "_law_means" (top 48) f Z)(a:cQ P w K mg base 1 "_law_is_letter" ["_law_sign"] 1 bS):FnOk P w K mg base fF 2 f Z ["_law_meaning_here","_law_layer","_law_layers"] (iA K 3 kh):=iC (N:=["_law_meaning_here","_law_layer","_law_layers"]) (g:=j8) F (by fail "sc") rfl rfl rfl (by delta j8;fail "os")
theorem pi(F:Vf K "_law_chord_good" "_law_chord_good" (top 49) f Z)(m:cQ P w K mg base 1 "_law_is_letter" ["_law_sign"] 1 bS)(d:mg "len"=cL)(c:mg "list"=cL)(k:mg "sorted"=cL)(b:mg "set"=cL)(l:mg "all"=cL):FnOk P w K mg base fF 2 f Z ["_law_chords","_law_place","_law_keys","_law_plain"] (iA K 4 gB):=iC (N:=["_law_chords","_law_place","_law_keys","_law_plain","_law_some","_law_sign"]) (g:=iQ) F (by fail "sc") rfl rfl rfl λo A a s H E nd j h n e=>om (az (bF (ap bc ad ad) (jf (db aB (db aB jm))))
   (az (bU (gL (gA (eS (bv (af ad ai)))) (gL (aG (ap pF (bV fO (af ad ai)) aq)) (gL (aG (ap kx (bV Cd (af ad ai)) (bV L9.uh (af ad ai)))) (aG (ap pF (L9.C4 (af ad ai)) (bV fO (af ad ai))))))) (aZ zi) bg)
   (az (bU (gA (eS (bV jY (af (cO rfl rfl (gv ad) aB cf (ap uf ad ad)) ai)))) (aZ zi) bg)
   (aZ (ap re ad (cO rfl rfl (gv (fE BV ad cJ (bR ad))) aB cf (ap bc ad aq))))))) (ag (Ao (bE aX (pv 0) (pv 1) (λ_ _=>rfl)) (ji rfl (cz (bf (i:=4) nd rfl (a8 rfl)) (cz (bf (i:=5) nd rfl (a8 rfl)) g7))))
   (ag (bH (PW.pt (i7 (iu (df (bj m j (aa (pv 5) ah)))) (i7 (aK tZ (aH cn rfl d fD (aa (pv 4) ah)) ao (aQ _)) (i7 (aK (kJ h) (b8 p9 rfl c FM (aa (pv 4) ah)) (aH L9.qr rfl k yU (aa (pv 4) ah)) (aQ _)) (jW (aK tZ (aH L9.yC rfl d fD (aa (b8 (L9.Dc rfl) rfl b L9.M3 (aa (pv 4) ah)) ah)) (aH cn rfl d fD (aa (pv 4) ah)) (aQ _))))))) (au (aU uy)) aN)
   (ag (bH (iu (df (aH (gj rfl) rfl l mO (aa (cW ["_law_key"] [("_law_plain",3)] rfl (eZ (pv 4)) (λ_ _ _ _=>(bf (i:=0) (show RY (["_law_key","_law_plain"]:cM Str) by left) rfl (a8 rfl))) (λ_ _ _ _=>ck) (λ_ _ _ _=>(dr (tR e) (pv 0) (pv 1) (by with_unfolding_all rfl))) ⟨⟨rfl,rfl,a8 rfl⟩,trivial⟩ rfl) ah)))) (au (aU uy)) aN)
   (au (aU (dr (p7 e) (pv 4) (cW ["_law_chord"] [] rfl (eZ (cb tI (pv 0) di (cw (pv 1)))) (λ_ _ _ _=>(bf (i:=0) (show RY (["_law_chord"]:cM Str) by left) rfl (a8 rfl))) (λ_ _ _ _=>ck) (λ_ _ _ _=>(bE aX (pv 0) ao (λ_ _=>rfl))) trivial rfl) (by with_unfolding_all rfl)))))))
theorem zd(F:Vf K "_law_due" "_law_due" (top 50) f Z)(j:cQ P w K mg base 2 "_law_means" ["_law_meaning_here","_law_layer","_law_layers"] 3 kh)(k:cQ P w K mg base 2 "_law_chord_good" ["_law_chords","_law_place","_law_keys","_law_plain"] 4 gB)(l:mg "len"=cL)(c:mg "range"=cL):FnOk P w K mg base fF 3 f Z ["_law_bed_here"] (iA K 1 ir):=iC (N:=["_law_bed_here","_law_keys","_law_layers","_law_chords","_law_wait","_law_layer","_law_key","_law_plain","_law_place"]) (g:=pO) F (by fail "sc") rfl rfl rfl λm A a s H E nd e b h d=>om (az (by fail "so")
   (az (by fail "so")
   (az (by fail "so")
   (az (bF (cO rfl rfl (g6 (af ad ai)) aB (aG (ap bQ (ap bc (ap bc (ap bc ad aq) ad) aq) aJ)) ad) aB)
   (az (by fail "so")
   (aZ d9)))))) (ag (by fail "te")
   (ag (by fail "te")
   (ag (by fail "te")
   (ag (qm (i:=7) ["_law_key"] [("_law_layers",2)] nd rfl rfl rfl (eJ rfl c (aa (pv 1) ah)) (λ_ _ _ _=>(bf (i:=0) (show RY (["_law_key","_law_layers"]:cM Str) by left) rfl (a8 rfl))) (λ_ _ _ _=>(nM (aK (bO b) (bE aX (bE aX (bE aX (pv 1) ao (λ_ _=>rfl)) (pv 0) (λ_ _=>rfl)) ao (λ_ _=>rfl)) aL (aQ _)))) (λ_ _ _ _=>(pv 0)) ⟨⟨rfl,rfl,a8 rfl⟩,trivial⟩ rfl)
   (ag (by fail "te")
   (au (aU cy)))))))
theorem uj(F:Vf K "read_number" "read_number" (top 34) f Z)(c:mg "len"=cL)(j:mg "all"=cL)(h:mg "int"=cL){e:Tok}(d:mg "FIGURES"=ax (.str "0123456789" e)):FnOk P w K mg base fF 1 f Z ["word"] (iA K 1 cT):=iC (N:=["word"]) (g:=lB) F (by fail "sc") rfl rfl rfl λn A a s H E nd l b m k=>om (az (bU (gL (gA (aG (ie k9 k9 aq (bV kT (af ad ai)) aq))) (gA (eS (bV jY (af (cO rfl rfl (xX ad) aB cf (ap Bx ad aJ)) ai))))) (aZ d9) bg)
   (az (bU (gC (aG (ap bQ (bV kT (af ad ai)) aq)) (aG (ap bQ (ap l6 ad aq) aJ))) (aZ d9) bg)
   (aZ (bV xj (af ad ai))))) (ag (bH (PW.pt (i7 (iu (ny pd pd ao (aH cn rfl c fD (aa (pv 0) ah)) ao)) (jW (iu (df (aH (gj rfl) rfl j mO (aa (cW ["sign"] [] rfl (AQ (pv 0)) (λ_ _ _ _=>(bf (i:=0) (show RY (["sign"]:cM Str) by left) rfl (a8 rfl))) (λ_ _ _ _=>ck) (λ_ _ _ _=>(dr J4 (pv 0) (fG (v:=.str "0123456789") rfl d ⟨_,rfl⟩) (by with_unfolding_all rfl))) trivial rfl) ah))))))) (au (aU cy)) aN)
   (ag (bH (PW.pt (iS (aK (bO b) (aH cn rfl c fD (aa (pv 0) ah)) ao (aQ _)) (gZ (aK (bO b) (bE aX (pv 0) ao (λ_ _=>rfl)) aL (aQ _))))) (au (aU cy)) aN)
   (au (aU (b8 v4 rfl h v9 (aa (pv 0) ah))))))
theorem zt(F:Vf K "all_read" "all_read" (top 31) f Z)(a:mg "tuple"=cL):FnOk P w K mg base fF 1 f Z ["values"] (iA K 1 de):=iC (N:=["values"]) (g:=lZ) F (by fail "sc") rfl rfl rfl (by delta lZ;fail "os")
theorem sJ(F:Vf K "read_numbers" "read_numbers" (top 28) f Z)(b:cQ P w K mg base 1 "read_number" ["word"] 1 cT)(a:cQ P w K mg base 1 "all_read" ["values"] 1 de)(c:mg "len"=cL):FnOk P w K mg base fF 2 f Z ["words"] (iA K 1 gP):=iC (N:=["words"]) (g:=iW) F (by fail "sc") rfl rfl rfl (by delta iW;fail "os")
theorem xP(F:Vf K "is_letter" "is_letter" (top 24) f Z)(c:mg "len"=cL):FnOk P w K mg base fF 1 f Z ["text"] (iA K 1 cY):=iC (N:=["text"]) (g:=k6) F (by fail "sc") rfl rfl rfl λi A a s H E nd e b h d=>om (aZ (fU (ap bQ (bV kT (af ad ai)) aq) (ie me me aJ ad aJ))) (au (aU (fY (dr (bO b) (aH cn rfl c fD (aa (pv 0) ah)) ao (aQ _)) (fZ (nO rM rM aL (pv 0) aL)))))
theorem sX(F:Vf K "read_meaning" "read_meaning" (top 32) f Z)(h:cQ P w K mg base 1 "is_letter" ["text"] 1 cY)(e:cQ P w K mg base 1 "read_number" ["word"] 1 cT)(d:cQ P w K mg base 1 "all_read" ["values"] 1 de):FnOk P w K mg base fF 2 f Z ["word"] (iA K 1 gO):=iC (N:=["word"]) (g:=kE) F (by fail "sc") rfl rfl rfl λk A b s H E nd a c j i=>om (az (bU (aG (ap bQ ad aJ)) (aZ (fC (af aJ ai))) bg)
   (az (bU (aG (ap bQ ad aJ)) (aZ (fC (af aJ ai))) bg)
   (az (bU (eS (bv (af ad ai))) (aZ (fC (af aJ (af ad ai)))) bg)
   (az (bU (eS (j4 rT ad (af aJ ai))) (aZ (bv (af (c8 (af aJ (af (bv (af (fE ej ad (bR aq) cJ) ai)) ai))) ai))) bg)
   (az (bU (eS (j4 rT ad (af aJ ai))) (aZ (bv (af (c8 (af aJ (af (bv (af (fE ej ad (bR aq) cJ) ai)) ai))) ai))) bg)
   (az (bU (gC (eS (bv (af (fE ej ad cJ (bR aq)) ai))) (aG (ap bQ (fE ej ad (bR aq) (bR aq)) aJ))) (aZ (bv (af (c8 (af aJ (af (ap l6 ad aq) (af (bv (af (fE ej ad (bR aq) cJ) ai)) ai)))) ai))) bg)
   (aZ d9))))))) (ag (bH (aK (bO c) (pv 0) aL (aQ _)) (au (aU (eh (aa aL ah)))) aN)
   (ag (bH (aK (bO c) (pv 0) aL (aQ _)) (au (aU (eh (aa aL ah)))) aN)
   (ag (bH (df (bj h a (aa (pv 0) ah))) (au (aU (eh (aa aL (aa (pv 0) ah))))) aN)
   (ag (bH (df (eU RZ Y5 Y6 vQ (pv 0) (aa aL ah))) (au (aU (bj d a (aa (cS (aa aL (aa (bj e a (aa (cb gb (pv 0) (cw ao) di) ah)) ah))) ah)))) aN)
   (ag (bH (df (eU RZ Y5 Y6 vQ (pv 0) (aa aL ah))) (au (aU (bj d a (aa (cS (aa aL (aa (bj e a (aa (cb gb (pv 0) (cw ao) di) ah)) ah))) ah)))) aN)
   (ag (bH (PW.pt (iS (df (bj h a (aa (cb gb (pv 0) di (cw ao)) ah))) (gZ (aK (bO c) (cb gb (pv 0) (cw ao) (cw ao)) aL (aQ _))))) (au (aU (bj d a (aa (cS (aa aL (aa (bE aX (pv 0) ao (λ_ _=>rfl)) (aa (bj e a (aa (cb gb (pv 0) (cw ao) di) ah)) ah)))) ah)))) aN)
   (au (aU cy))))))))
theorem vp(F:Vf K "read_layer" "read_layer" (top 29) f Z)(c:cQ P w K mg base 2 "read_meaning" ["word"] 1 gO)(d:cQ P w K mg base 1 "all_read" ["values"] 1 de)(k:mg "len"=cL):FnOk P w K mg base fF 3 f Z ["words"] (iA K 1 iB):=iC (N:=["words"]) (g:=mw) F (by fail "sc") rfl rfl rfl λl A a s H E nd b h j e=>om (az (by fail "so")
   (aZ (bv (af (cO rfl rfl (gv (fE km ad (bR aq) cJ)) aB cf (bv (af ad ai))) ai)))) (ag (by fail "te")
   (au (aU (bj d b (aa (cW ["word"] [] rfl (eZ (cb nq (pv 0) (cw ao) di)) (λ_ _ _ _=>(bf (i:=0) (show RY (["word"]:cM Str) by left) rfl (a8 rfl))) (λ_ _ _ _=>ck) (λ_ _ _ _=>(bj c b (aa (pv 0) ah))) trivial rfl) ah)))))
theorem u7(F:Vf K "read_parted" "read_parted" (top 33) f Z)(d:cQ P w K mg base 1 "read_number" ["word"] 1 cT)(c:cQ P w K mg base 1 "all_read" ["values"] 1 de):FnOk P w K mg base fF 2 f Z ["text","sign"] (iA K 2 jC):=iC (N:=["text","sign"]) (g:=li) F (by fail "sc") rfl rfl rfl λk A a s H E nd b h j e=>om (aZ (bv (af (cO rfl rfl (gv (j4 iU ad (af ad ai))) aB cf (bv (af ad ai))) ai))) (au (aU (bj c b (aa (cW ["word"] [] rfl (eZ (eU RZ Tf Tg jN (pv 0) (aa (pv 1) ah))) (λ_ _ _ _=>(bf (i:=0) (show RY (["word"]:cM Str) by left) rfl (a8 rfl))) (λ_ _ _ _=>ck) (λ_ _ _ _=>(bj d b (aa (pv 0) ah))) trivial rfl) ah))))
theorem vg(F:Vf K "read_chord" "read_chord" (top 30) f Z)(b:cQ P w K mg base 1 "is_letter" ["text"] 1 cY)(a:cQ P w K mg base 2 "read_parted" ["text","sign"] 2 jC)(c:mg "len"=cL):FnOk P w K mg base fF 3 f Z ["words"] (iA K 1 i4):=iC (N:=["words","keys"]) (g:=j9) F (by fail "sc") rfl rfl rfl (by delta j9;fail "os")
theorem yL(F:Vf K "may_mean" "may_mean" (top 20) f Z)(h:cQ P w K mg base 1 "is_letter" ["text"] 1 cY):FnOk P w K mg base fF 2 f Z ["meaning","layer","layers"] (iA K 3 jh):=iC (N:=["meaning","layer","layers","word"]) (g:=mj) F (by fail "sc") rfl rfl rfl λi A a s H E nd d c e b=>om (az (by fail "so")
   (az (by fail "so")
   (az (by fail "so")
   (az (by fail "so")
   (aZ zi))))) (ag (by fail "te")
   (ag (by fail "te")
   (ag (by fail "te")
   (ag (by fail "te")
   (au (aU uy))))))
theorem F1(F:Vf K "rises" "rises" (top 23) f Z)(c:mg "all"=cL)(b:mg "zip"=cL):FnOk P w K mg base fF 1 f Z ["keys"] (iA K 1 qV):=iC (N:=["keys"]) (g:=tH) F (by fail "sc") rfl rfl rfl λk A a s H E nd h e j d=>om (aZ (bV jY (af (cO rfl rfl (nZ (af ad (af (fE km ad (bR aq) cJ) ai))) (jf (db aB (db aB jm))) cf (ap pF ad ad)) ai))) (au (aU (aH (gj rfl) rfl c mO (aa (cW ["one","other"] [] rfl (nc rfl b (aa (pv 0) (aa (cb nq (pv 0) (cw ao) di) ah))) (λ_ _ _ _=>(ji rfl (cz (bf (i:=0) (show RY (["one","other"]:cM Str) by left) rfl (a8 rfl)) (cz (bf (i:=1) (show RY (["one","other"]:cM Str) by left) rfl (a8 rfl)) g7)))) (λ_ _ _ _=>ck) (λ_ _ _ _=>(dr tZ (pv 0) (pv 1) (aQ _))) trivial rfl) ah))))
theorem sS(F:Vf K "is_chord_set" "is_chord_set" (top 22) f Z)(c:cQ P w K mg base 1 "rises" ["keys"] 1 qV)(k:mg "len"=cL)(d:mg "all"=cL):FnOk P w K mg base fF 2 f Z ["bed","keys"] (iA K 2 fK):=iC (N:=["bed","keys"]) (g:=iG) F (by fail "sc") rfl rfl rfl λl A a s H E nd h b j e=>om (az (by fail "so")
   (aZ (bV jY (af (cO rfl rfl (gv ad) aB cf (fU (ie k9 pF aq ad (ap bc ad aq)) (ap bQ (ap bc (ap bc (ap bc (ap bc ad aq) aq) ad) aq) aJ))) ai)))) (ag (by fail "te")
   (au (aU (aH (gj rfl) rfl d mO (aa (cW ["key"] [("bed",0)] rfl (eZ (pv 1)) (λ_ _ _ _=>(bf (i:=0) (show RY (["key","bed"]:cM Str) by left) rfl (a8 rfl))) (λ_ _ _ _=>ck) (λ_ _ _ _=>(fY (nO pd tZ ao (pv 0) (bE aX (pv 1) ao (λ_ _=>rfl))) (fZ (dr (bO b) (bE aX (bE aX (bE aX (bE aX (pv 1) ao (λ_ _=>rfl)) ao (λ_ _=>rfl)) (pv 0) (λ_ _=>rfl)) ao (λ_ _=>rfl)) aL (aQ _))))) ⟨⟨rfl,rfl,a8 rfl⟩,trivial⟩ rfl) ah)))))
theorem vq(F:Vf K "_law_whole" "_law_whole" (top 40) f Z)(c:mg "isinstance"=cL)(d:mg "int"=cL)(b:mg "bool"=cL):FnOk P w K mg base fF 1 f Z ["_law_thing"] (iA K 1 eA):=iC (N:=["_law_thing"]) (g:=l9) F (by fail "sc") rfl rfl rfl λk A a s H E nd i h j e=>om (aZ (fU (fy (by simp) ad) (GJ (fy (by simp) ad)))) (au (aU (fY (aH cD rfl c aV (aa (pv 0) (aa (dB (v:=.ty "int") rfl d v9 rfl) ah))) (fZ (E5 (aH cD rfl c aV (aa (pv 0) (aa (dB (v:=.ty "bool") rfl b L7 rfl) ah))))))))
theorem da:Tz ["_law_found","_law_due_here"] ["_law_found","_law_due_here"] (aI (top 51)):=by fail "sc"
theorem uA(F:Vf K "_law_like" "_law_like" (top 51) f Z)(o:cQ P w K mg base 1 "_law_whole" ["_law_thing"] 1 eA)(c:mg "isinstance"=cL)(p:mg "tuple"=cL)(r:mg "len"=cL)(j:mg "all"=cL)(h:mg "zip"=cL)(e:mg "str"=cL)(l:cQ P w K mg base 1 "_law_like" ["_law_found","_law_due_here"] 2 jD):FnOk P w K mg base fF 2 f Z ["_law_found","_law_due_here"] (iA K 2 gr):=by
 refine F6 (k:=1) (n:=2) (m:=2) (g:=cZ jD) (FF:=gr) F da rfl rfl rfl (λt A b s H E a=>?_);have d:=a.units;have q:=mP a;have nd:=da.nd;exact om (az (bU (eS (fy (by simp) ad)) (az (by fail "so")
   (aZ (bV jY (af (cO rfl rfl (nZ (af ad (af ad ai))) (jf (db aB (db aB jm))) cf (bv (af ad (af ad ai)))) ai)))) bg)
   (az (bU (eS (fy (by simp) ad)) (aZ (fU (fy (by simp) ad) (ap bQ ad ad))) bg)
   (aZ (fU (bv (af ad ai)) (ap bQ ad ad))))) (ag (bH (df (aH cD rfl c aV (aa (pv 1) (aa (dB (v:=.ty "tuple") rfl p eD rfl) ah)))) (ag (by fail "te")
   (au (aU (aH (gj rfl) rfl j mO (aa (cW ["_law_one","_law_other"] [] rfl (nc rfl h (aa (pv 0) (aa (pv 1) ah))) (λ_ _ _ _=>(ji rfl (cz (bf (i:=0) (show RY (["_law_one","_law_other"]:cM Str) by left) rfl (a8 rfl)) (cz (bf (i:=1) (show RY (["_law_one","_law_other"]:cM Str) by left) rfl (a8 rfl)) g7)))) (λ_ _ _ _=>ck) (λ_ _ _ _=>(bj l a (aa (pv 0) (aa (pv 1) ah)))) trivial rfl) ah))))) aN)
   (ag (bH (df (aH cD rfl c aV (aa (pv 1) (aa (dB (v:=.ty "str") rfl e jF rfl) ah)))) (au (aU (fY (aH cD rfl c aV (aa (pv 0) (aa (dB (v:=.ty "str") rfl e jF rfl) ah))) (fZ (dr (bO d) (pv 0) (pv 1) (aQ _)))))) aN)
   (au (aU (fY (bj o a (aa (pv 0) ah)) (fZ (dr (bO d) (pv 0) (pv 1) (aQ _))))))))
theorem uw(F:Vf K "_law_like" "_law_like" (top 51) f Z)(o:cQ P w K mg base 1 "_law_whole" ["_law_thing"] 1 eA)(c:mg "isinstance"=cL)(p:mg "tuple"=cL)(r:mg "len"=cL)(j:mg "all"=cL)(h:mg "zip"=cL)(e:mg "str"=cL)(l:cQ P w K mg base 2 "_law_like" ["_law_found","_law_due_here"] 2 gr):FnOk P w K mg base fF 3 f Z ["_law_found","_law_due_here"] (iA K 2 gm):=by
 refine F6 (k:=2) (n:=2) (m:=2) (g:=cZ gr) (FF:=gm) F da rfl rfl rfl (λt A b s H E a=>?_);have d:=a.units;have q:=mP a;have nd:=da.nd;exact om (az (bU (eS (fy (by simp) ad)) (az (by fail "so")
   (aZ (bV jY (af (cO rfl rfl (nZ (af ad (af ad ai))) (jf (db aB (db aB jm))) cf (bv (af ad (af ad ai)))) ai)))) bg)
   (az (bU (eS (fy (by simp) ad)) (aZ (fU (fy (by simp) ad) (ap bQ ad ad))) bg)
   (aZ (fU (bv (af ad ai)) (ap bQ ad ad))))) (ag (bH (df (aH cD rfl c aV (aa (pv 1) (aa (dB (v:=.ty "tuple") rfl p eD rfl) ah)))) (ag (by fail "te")
   (au (aU (aH (gj rfl) rfl j mO (aa (cW ["_law_one","_law_other"] [] rfl (nc rfl h (aa (pv 0) (aa (pv 1) ah))) (λ_ _ _ _=>(ji rfl (cz (bf (i:=0) (show RY (["_law_one","_law_other"]:cM Str) by left) rfl (a8 rfl)) (cz (bf (i:=1) (show RY (["_law_one","_law_other"]:cM Str) by left) rfl (a8 rfl)) g7)))) (λ_ _ _ _=>ck) (λ_ _ _ _=>(bj l a (aa (pv 0) (aa (pv 1) ah)))) trivial rfl) ah))))) aN)
   (ag (bH (df (aH cD rfl c aV (aa (pv 1) (aa (dB (v:=.ty "str") rfl e jF rfl) ah)))) (au (aU (fY (aH cD rfl c aV (aa (pv 0) (aa (dB (v:=.ty "str") rfl e jF rfl) ah))) (fZ (dr (bO d) (pv 0) (pv 1) (aQ _)))))) aN)
   (au (aU (fY (bj o a (aa (pv 0) ah)) (fZ (dr (bO d) (pv 0) (pv 1) (aQ _))))))))
theorem uX(F:Vf K "_law_like" "_law_like" (top 51) f Z)(o:cQ P w K mg base 1 "_law_whole" ["_law_thing"] 1 eA)(c:mg "isinstance"=cL)(p:mg "tuple"=cL)(r:mg "len"=cL)(j:mg "all"=cL)(h:mg "zip"=cL)(e:mg "str"=cL)(l:cQ P w K mg base 3 "_law_like" ["_law_found","_law_due_here"] 2 gm):FnOk P w K mg base fF 4 f Z ["_law_found","_law_due_here"] (iA K 2 gu):=by
 refine F6 (k:=3) (n:=2) (m:=2) (g:=cZ gm) (FF:=gu) F da rfl rfl rfl (λt A b s H E a=>?_);have d:=a.units;have q:=mP a;have nd:=da.nd;exact om (az (bU (eS (fy (by simp) ad)) (az (by fail "so")
   (aZ (bV jY (af (cO rfl rfl (nZ (af ad (af ad ai))) (jf (db aB (db aB jm))) cf (bv (af ad (af ad ai)))) ai)))) bg)
   (az (bU (eS (fy (by simp) ad)) (aZ (fU (fy (by simp) ad) (ap bQ ad ad))) bg)
   (aZ (fU (bv (af ad ai)) (ap bQ ad ad))))) (ag (bH (df (aH cD rfl c aV (aa (pv 1) (aa (dB (v:=.ty "tuple") rfl p eD rfl) ah)))) (ag (by fail "te")
   (au (aU (aH (gj rfl) rfl j mO (aa (cW ["_law_one","_law_other"] [] rfl (nc rfl h (aa (pv 0) (aa (pv 1) ah))) (λ_ _ _ _=>(ji rfl (cz (bf (i:=0) (show RY (["_law_one","_law_other"]:cM Str) by left) rfl (a8 rfl)) (cz (bf (i:=1) (show RY (["_law_one","_law_other"]:cM Str) by left) rfl (a8 rfl)) g7)))) (λ_ _ _ _=>ck) (λ_ _ _ _=>(bj l a (aa (pv 0) (aa (pv 1) ah)))) trivial rfl) ah))))) aN)
   (ag (bH (df (aH cD rfl c aV (aa (pv 1) (aa (dB (v:=.ty "str") rfl e jF rfl) ah)))) (au (aU (fY (aH cD rfl c aV (aa (pv 0) (aa (dB (v:=.ty "str") rfl e jF rfl) ah))) (fZ (dr (bO d) (pv 0) (pv 1) (aQ _)))))) aN)
   (au (aU (fY (bj o a (aa (pv 0) ah)) (fZ (dr (bO d) (pv 0) (pv 1) (aQ _))))))))
theorem ud(F:Vf K "_law_like" "_law_like" (top 51) f Z)(o:cQ P w K mg base 1 "_law_whole" ["_law_thing"] 1 eA)(c:mg "isinstance"=cL)(p:mg "tuple"=cL)(r:mg "len"=cL)(j:mg "all"=cL)(h:mg "zip"=cL)(e:mg "str"=cL)(l:cQ P w K mg base 4 "_law_like" ["_law_found","_law_due_here"] 2 gu):FnOk P w K mg base fF 5 f Z ["_law_found","_law_due_here"] (iA K 2 gp):=by
 refine F6 (k:=4) (n:=2) (m:=2) (g:=cZ gu) (FF:=gp) F da rfl rfl rfl (λt A b s H E a=>?_);have d:=a.units;have q:=mP a;have nd:=da.nd;exact om (az (bU (eS (fy (by simp) ad)) (az (by fail "so")
   (aZ (bV jY (af (cO rfl rfl (nZ (af ad (af ad ai))) (jf (db aB (db aB jm))) cf (bv (af ad (af ad ai)))) ai)))) bg)
   (az (bU (eS (fy (by simp) ad)) (aZ (fU (fy (by simp) ad) (ap bQ ad ad))) bg)
   (aZ (fU (bv (af ad ai)) (ap bQ ad ad))))) (ag (bH (df (aH cD rfl c aV (aa (pv 1) (aa (dB (v:=.ty "tuple") rfl p eD rfl) ah)))) (ag (by fail "te")
   (au (aU (aH (gj rfl) rfl j mO (aa (cW ["_law_one","_law_other"] [] rfl (nc rfl h (aa (pv 0) (aa (pv 1) ah))) (λ_ _ _ _=>(ji rfl (cz (bf (i:=0) (show RY (["_law_one","_law_other"]:cM Str) by left) rfl (a8 rfl)) (cz (bf (i:=1) (show RY (["_law_one","_law_other"]:cM Str) by left) rfl (a8 rfl)) g7)))) (λ_ _ _ _=>ck) (λ_ _ _ _=>(bj l a (aa (pv 0) (aa (pv 1) ah)))) trivial rfl) ah))))) aN)
   (ag (bH (df (aH cD rfl c aV (aa (pv 1) (aa (dB (v:=.ty "str") rfl e jF rfl) ah)))) (au (aU (fY (aH cD rfl c aV (aa (pv 0) (aa (dB (v:=.ty "str") rfl e jF rfl) ah))) (fZ (dr (bO d) (pv 0) (pv 1) (aQ _)))))) aN)
   (au (aU (fY (bj o a (aa (pv 0) ah)) (fZ (dr (bO d) (pv 0) (pv 1) (aQ _))))))))
theorem u6(F:Vf K "_law_like" "_law_like" (top 51) f Z)(o:cQ P w K mg base 1 "_law_whole" ["_law_thing"] 1 eA)(c:mg "isinstance"=cL)(p:mg "tuple"=cL)(r:mg "len"=cL)(j:mg "all"=cL)(h:mg "zip"=cL)(e:mg "str"=cL)(l:cQ P w K mg base 5 "_law_like" ["_law_found","_law_due_here"] 2 gp):FnOk P w K mg base fF 6 f Z ["_law_found","_law_due_here"] (iA K 2 gs):=by
 refine F6 (k:=5) (n:=2) (m:=2) (g:=cZ gp) (FF:=gs) F da rfl rfl rfl (λt A b s H E a=>?_);have d:=a.units;have q:=mP a;have nd:=da.nd;exact om (az (bU (eS (fy (by simp) ad)) (az (by fail "so")
   (aZ (bV jY (af (cO rfl rfl (nZ (af ad (af ad ai))) (jf (db aB (db aB jm))) cf (bv (af ad (af ad ai)))) ai)))) bg)
   (az (bU (eS (fy (by simp) ad)) (aZ (fU (fy (by simp) ad) (ap bQ ad ad))) bg)
   (aZ (fU (bv (af ad ai)) (ap bQ ad ad))))) (ag (bH (df (aH cD rfl c aV (aa (pv 1) (aa (dB (v:=.ty "tuple") rfl p eD rfl) ah)))) (ag (by fail "te")
   (au (aU (aH (gj rfl) rfl j mO (aa (cW ["_law_one","_law_other"] [] rfl (nc rfl h (aa (pv 0) (aa (pv 1) ah))) (λ_ _ _ _=>(ji rfl (cz (bf (i:=0) (show RY (["_law_one","_law_other"]:cM Str) by left) rfl (a8 rfl)) (cz (bf (i:=1) (show RY (["_law_one","_law_other"]:cM Str) by left) rfl (a8 rfl)) g7)))) (λ_ _ _ _=>ck) (λ_ _ _ _=>(bj l a (aa (pv 0) (aa (pv 1) ah)))) trivial rfl) ah))))) aN)
   (ag (bH (df (aH cD rfl c aV (aa (pv 1) (aa (dB (v:=.ty "str") rfl e jF rfl) ah)))) (au (aU (fY (aH cD rfl c aV (aa (pv 0) (aa (dB (v:=.ty "str") rfl e jF rfl) ah))) (fZ (dr (bO d) (pv 0) (pv 1) (aQ _)))))) aN)
   (au (aU (fY (bj o a (aa (pv 0) ah)) (fZ (dr (bO d) (pv 0) (pv 1) (aQ _))))))))
theorem uU(F:Vf K "_law_like" "_law_like" (top 51) f Z)(o:cQ P w K mg base 1 "_law_whole" ["_law_thing"] 1 eA)(c:mg "isinstance"=cL)(p:mg "tuple"=cL)(r:mg "len"=cL)(j:mg "all"=cL)(h:mg "zip"=cL)(e:mg "str"=cL)(l:cQ P w K mg base 6 "_law_like" ["_law_found","_law_due_here"] 2 gs):FnOk P w K mg base fF 7 f Z ["_law_found","_law_due_here"] (iA K 2 b5):=by
 refine F6 (k:=6) (n:=2) (m:=2) (g:=cZ gs) (FF:=b5) F da rfl rfl rfl (λt A b s H E a=>?_);have d:=a.units;have q:=mP a;have nd:=da.nd;exact om (az (bU (eS (fy (by simp) ad)) (az (by fail "so")
   (aZ (bV jY (af (cO rfl rfl (nZ (af ad (af ad ai))) (jf (db aB (db aB jm))) cf (bv (af ad (af ad ai)))) ai)))) bg)
   (az (bU (eS (fy (by simp) ad)) (aZ (fU (fy (by simp) ad) (ap bQ ad ad))) bg)
   (aZ (fU (bv (af ad ai)) (ap bQ ad ad))))) (ag (bH (df (aH cD rfl c aV (aa (pv 1) (aa (dB (v:=.ty "tuple") rfl p eD rfl) ah)))) (ag (by fail "te")
   (au (aU (aH (gj rfl) rfl j mO (aa (cW ["_law_one","_law_other"] [] rfl (nc rfl h (aa (pv 0) (aa (pv 1) ah))) (λ_ _ _ _=>(ji rfl (cz (bf (i:=0) (show RY (["_law_one","_law_other"]:cM Str) by left) rfl (a8 rfl)) (cz (bf (i:=1) (show RY (["_law_one","_law_other"]:cM Str) by left) rfl (a8 rfl)) g7)))) (λ_ _ _ _=>ck) (λ_ _ _ _=>(bj l a (aa (pv 0) (aa (pv 1) ah)))) trivial rfl) ah))))) aN)
   (ag (bH (df (aH cD rfl c aV (aa (pv 1) (aa (dB (v:=.ty "str") rfl e jF rfl) ah)))) (au (aU (fY (aH cD rfl c aV (aa (pv 0) (aa (dB (v:=.ty "str") rfl e jF rfl) ah))) (fZ (dr (bO d) (pv 0) (pv 1) (aQ _)))))) aN)
   (au (aU (fY (bj o a (aa (pv 0) ah)) (fZ (dr (bO d) (pv 0) (pv 1) (aQ _))))))))
abbrev sI(P:RT)(w:SG)(K:td)(mg:Str->c5 Rf)(base:Heap)(f:Rq)(a:Rf)(A:Sk)(outer:cM Env)(s:Ro)(H:Hp)(E:XK):Cx:=(gl fF P w K mg base ["_law_script","_law_bed_here","_law_good","_law_text_here","_law_first","_law_k","_law_other","_law_some","_law_due_here","_law_refusal"] "law" (aI (top 60)) f a A outer s H E).Zq
def Ez:Tq:=(aC (top 60)).getD 0 DP
def DW:Tq:=(aC (top 60)).getD 1 DP
def Fq:Tq:=(aC (top 60)).getD 2 DP
def D5:Tq:=(aC (top 60)).getD 3 DP
def qj:Tq:=(aC (top 60)).getD 4 DP
def jb:Tq:=(aC (top 60)).getD 5 DP
def EJ:Tq:=(aC (top 60)).getD 6 DP
def Gm:Tq:=(aC (top 60)).getD 7 DP
def GY:Tq:=(aC (top 60)).getD 8 DP
def wQ:SI:=fI qj
def AM:Tq:=(fb qj).getD 0 DP
def Au:Tq:=(fb qj).getD 1 DP
def AY:SI:=iT jb
def Aq:Tq:=(fb jb).getD 0 DP
def Aj:Tq:=(fb jb).getD 1 DP
def zF:Tq:=(fb jb).getD 2 DP
def AC:Tq:=(fb jb).getD 3 DP
def zP:Tq:=(fb jb).getD 4 DP
def A4:Tq:=(fb jb).getD 5 DP
def Al:Tq:=(fb jb).getD 6 DP
def A1:Tq:=(fb jb).getD 7 DP
def A5:Tq:=(fb jb).getD 8 DP
def zZ:Tq:=(fb jb).getD 9 DP
def Aw:Tq:=(fb jb).getD 10 DP
theorem eO:Tz ["_law_script","_law_bed_here","_law_good","_law_text_here","_law_first","_law_k","_law_other","_law_some","_law_due_here","_law_refusal"] ["_law_script"] (aI (top 60)):=by fail "sc"
theorem Lz(F:Vf K "law" "law" (top 60) f Z)(XY:cQ P w K mg base 4 "_law_bed" ["_law_script","_law_at"] 2 jt)(Xw:cQ P w K mg base 2 "_law_text" ["_law_bed_here"] 1 jO)(Uv:cQ P w K mg base 1 "_law_cell" ["_law_script","_law_k"] 2 ci)(Uu:cQ P w K mg base 2 "_law_wide" ["_law_cell_here","_law_salt"] 2 cj)(V7:cQ P w K mg base 1 "_law_changed" ["_law_text_here","_law_cell_here","_law_other"] 3 dW)(Wb:cQ P w K mg base 4 "_law_reading" ["_law_text_here"] 1 dX)(X3:cQ P w K mg base 3 "_law_due" ["_law_bed_here"] 1 ir)(Vi:cQ P w K mg base 7 "_law_told" ["_law_text_here"] 1 aW)(Sh:cQ P w K mg base 7 "_law_like" ["_law_found","_law_due_here"] 2 b5)(Tn:mg "range"=cL)(Su:mg "len"=cL):FnOk P w K mg base fF 8 f Z ["_law_script"] (iA K 1 F_law):=by
 refine F6 (k:=7) (n:=1) (m:=10) (g:=Fv) (FF:=F_law) F eO rfl rfl rfl (λh A e s H E j=>?_);have hu:=j.units;have hv:=mP j;have nd:=eO.nd;obtain⟨tq1,uq1,vq1⟩:∃t,PS (sI P w K mg base f h A e s H E) Ez t/\SO K E t (bp (bu jt 2 {ae 0,~~~7}) (gN 1)):=⟨_,(bh (i:=1) eO.nd rfl (a8 rfl) (bj XY j (aa (pv 0) (aa ao ah))) (hs:=kY)),(bF (bv (af ad (af aq ai))) aB)⟩;obtain⟨tq2,uq2,vq2⟩:∃t,PS (sI P w K mg base f h A e s H E) DW t/\SO K E t (bp (bu jO 1 {ae 1}) (gN 2)):=⟨_,(bh (i:=2) eO.nd rfl (a8 rfl) (bj Xw j (aa (pv 1) ah)) (hs:=kY)),(bF (bv (af ad ai)) aB)⟩;obtain⟨tq3,uq3,vq3⟩:∃t,PS (sI P w K mg base f h A e s H E) Fq t/\SO K E t (bp (ae 2) (gN 3)):=⟨_,(bh (i:=3) eO.nd rfl (a8 rfl) (pv 2) (hs:=B3)),(bF ad aB)⟩;obtain⟨tq4,uq4,vq4⟩:∃t,PS (sI P w K mg base f h A e s H E) D5 t/\SO K E t (bp (bu cj 2 {bu ci 2 {ae 0,~~~0},~~~30}) (gN 4)):=⟨_,(bh (i:=4) eO.nd rfl (a8 rfl) (bj Uu j (aa (bj Uv j (aa (pv 0) (aa ao ah))) (aa ao ah))) (hs:=kY)),(bF (bv (af (bv (af ad (af aq ai))) (af aq ai))) aB)⟩;obtain⟨akd,aoN,G⟩:∃px pf,qj=.For (.Name "_law_k" px) wQ (fb qj) [] pf:=⟨_,_,rfl⟩;have R:∀x,foldedSetIterable wQ (sI P w K mg base f h A e s H E).env x=pure x:=by intro _;rfl
 obtain⟨tq6,z,r⟩:∃t,PI (sI P w K mg base f h A e s H E) (.Name "_law_k" akd) wQ t/\IO K E t (jK gJ {aA cq (ae 4) (~~~4)}):=⟨_,(eJ rfl Tn (aa (bw fV (pv 4) ao) ah)),(g6 (af (ap eF ad aq) ai))⟩;have Q:fb qj=[AM,Au]:=rfl;obtain⟨tq7,y,q⟩:∃t,PS (sI P w K mg base f h A e s H E) AM t/\SO K E t (bp (bu cj 2 {bu ci 2 {ae 0,aA bM (~~~2) (aA gY (~~~2) (ae 5))},aA bM (~~~35) (ae 5)}) (gN 6)):=⟨_,(bh (i:=6) eO.nd rfl (a8 rfl) (bj Uu j (aa (bj Uv j (aa (pv 0) (aa (bw b7 ao (bw oq ao (pv 5))) ah))) (aa (bw b7 ao (pv 5)) ah))) (hs:=kY)),(bF (bv (af (bv (af ad (af (ap b9 aq (ap lJ aq ad)) ai))) (af (ap b9 aq ad) ai))) aB)⟩;obtain⟨tq8,v,p⟩:∃t,PS (sI P w K mg base f h A e s H E) Au t/\SO K E t (bp (bu dW 3 {ae 3,bu cj 2 {bu ci 2 {ae 0,aA bM (~~~1) (aA gY (~~~2) (ae 5))},aA bM (~~~31) (ae 5)},ae 6}) (gN 3)):=⟨_,(bh (i:=3) eO.nd rfl (a8 rfl) (bj V7 j (aa (pv 3) (aa (bj Uu j (aa (bj Uv j (aa (pv 0) (aa (bw b7 ao (bw oq ao (pv 5))) ah))) (aa (bw b7 ao (pv 5)) ah))) (aa (pv 6) ah)))) (hs:=kY)),(bF (bv (af ad (af (bv (af (bv (af ad (af (ap b9 aq (ap lJ aq ad)) ai))) (af (ap b9 aq ad) ai))) (af ad ai)))) aB)⟩;obtain⟨tq5,uq5,vq5⟩:∃t,PS (sI P w K mg base f h A e s H E) qj t/\SO K E t (jZ (jK gJ {aA cq (ae 4) (~~~4)}) (gN 5) (aF (bp (bu cj 2 {bu ci 2 {ae 0,aA bM (~~~2) (aA gY (~~~2) (ae 5))},aA bM (~~~35) (ae 5)}) (gN 6))
 (bp (bu dW 3 {ae 3,bu cj 2 {bu ci 2 {ae 0,aA bM (~~~1) (aA gY (~~~2) (ae 5))},aA bM (~~~31) (ae 5)},ae 6}) (gN 3)))):=by
  rw[G,Q];generalize wQ=z0 at*;generalize AM=z1 at*;generalize Au=z2 at*;exact⟨_,jg UK.never rfl z (bf (i:=5) eO.nd rfl (a8 rfl)) (ag y
   (au v)) (hs:=R),jr r aB (az q
   p)⟩
 clear G Q R z r y q v p;obtain⟨ak8,ad8,adZ⟩:∃t,PT (sI P w K mg base f h A e s H E) AY t/\TTO K E t (ay (aA dq (aA cq (aA c9 (ae 4) (~~~4)) (~~~4)) (~~~3))):=⟨_,(aK (bO hu) (bw fV (bw fk (pv 4) ao) ao) ao (aQ _)),(aG (ap bQ (ap eF (ap gy ad aq) aq) aq))⟩;obtain⟨ajo,adV,adK⟩:∃t,PS (sI P w K mg base f h A e s H E) Aq t/\SO K E t (bp (cH (ac (pC (.str "")) {pC (.str "keys"),pC (.str "keys 1 wait 1"),pC (.str "keys 1 wait 1\nlayer"),pC (.str "keys 1 wait 1\nlayer ")})) (gN 7)):=⟨_,(bh (i:=7) eO.nd rfl (a8 rfl) (cS (aa aL (aa aL (aa aL (aa aL (aa aL ah)))))) (hs:=HK)),(bF (c8 (af aJ (af aJ (af aJ (af aJ (af aJ ai)))))) aB)⟩;obtain⟨ajC,adM,o⟩:∃t,PS (sI P w K mg base f h A e s H E) Aj t/\SO K E t (bp (aA bM (ae 7) (cH {pC (.str "keys 1 wait 1\nlayer a\n")})) (gN 7)):=⟨_,(bh (i:=7) eO.nd rfl (a8 rfl) (bw b7 (pv 7) (cS (aa aL ah))) (hs:=gh)),(bF (ap b9 ad (c8 (af aJ ai))) aB)⟩;obtain⟨aqb,agA,L⟩:∃t,PS (sI P w K mg base f h A e s H E) zF t/\SO K E t (bp (aA bM (ae 7) (cH {pC (.str "keys 01 wait 1\nlayer a"),pC (.str "keys 1 wait 5\nlayer a"),pC (.str "keys 1 wait 1\nchord 0 a\nlayer a")})) (gN 7)):=⟨_,(bh (i:=7) eO.nd rfl (a8 rfl) (bw b7 (pv 7) (cS (aa aL (aa aL (aa aL ah))))) (hs:=gh)),(bF (ap b9 ad (c8 (af aJ (af aJ (af aJ ai))))) aB)⟩;obtain⟨ao3,T,Y⟩:∃t,PS (sI P w K mg base f h A e s H E) AC t/\SO K E t (bp (aA bM (ae 7) (cH {pC (.str "keys 1 wait 1\nlayer a\nchord 0 a"),pC (.str "keys 1 wait 1\nlayer >1"),pC (.str "keys 1 wait 1\nlayer _")})) (gN 7)):=⟨_,(bh (i:=7) eO.nd rfl (a8 rfl) (bw b7 (pv 7) (cS (aa aL (aa aL (aa aL ah))))) (hs:=gh)),(bF (ap b9 ad (c8 (af aJ (af aJ (af aJ ai))))) aB)⟩;obtain⟨anq,agG,X⟩:∃t,PS (sI P w K mg base f h A e s H E) zP t/\SO K E t (bp (aA bM (ae 7) (cH {pC (.str "keys 1 wait 1\nlayer a>"),pC (.str "keys 1 wait 1\nlayer ~"),pC (.str "keys 1 wait 1\nlayer a>1\nlayer _")})) (gN 7)):=⟨_,(bh (i:=7) eO.nd rfl (a8 rfl) (bw b7 (pv 7) (cS (aa aL (aa aL (aa aL ah))))) (hs:=gh)),(bF (ap b9 ad (c8 (af aJ (af aJ (af aJ ai))))) aB)⟩;obtain⟨apA,I,J⟩:∃t,PS (sI P w K mg base f h A e s H E) A4 t/\SO K E t (bp (aA bM (ae 7) (cH {pC (.str "keys 2 wait 1\nlayer a b\nchord 1+0 c"),pC (.str "keys 2 wait 1\nlayer a b\nchord 0+ c")})) (gN 7)):=⟨_,(bh (i:=7) eO.nd rfl (a8 rfl) (bw b7 (pv 7) (cS (aa aL (aa aL ah)))) (hs:=gh)),(bF (ap b9 ad (c8 (af aJ (af aJ ai)))) aB)⟩;obtain⟨aqs,O,S⟩:∃t,PS (sI P w K mg base f h A e s H E) Al t/\SO K E t (bp (aA bM (ae 7) (cH {pC (.str "keys 2 wait 1\nlayer a b\nchord 0+1 C"),pC (.str "keys 1 wait 100\nlayer a")})) (gN 7)):=⟨_,(bh (i:=7) eO.nd rfl (a8 rfl) (bw b7 (pv 7) (cS (aa aL (aa aL ah)))) (hs:=gh)),(bF (ap b9 ad (c8 (af aJ (af aJ ai)))) aB)⟩;obtain⟨ao8,M,ag2⟩:∃t,PS (sI P w K mg base f h A e s H E) A1 t/\SO K E t (bp (aA bM (ae 7) (cH {pC (.str "keys 10 wait 1\nlayer a"),pC (.str "keys 1 wait 1\nlayer a>100\nlayer b")})) (gN 7)):=⟨_,(bh (i:=7) eO.nd rfl (a8 rfl) (bw b7 (pv 7) (cS (aa aL (aa aL ah)))) (hs:=gh)),(bF (ap b9 ad (c8 (af aJ (af aJ ai)))) aB)⟩;obtain⟨arz,ag9,B⟩:∃t,PS (sI P w K mg base f h A e s H E) A5 t/\SO K E t (bp (aA bM (ae 7) (cH {pC (.str "keys 2 wait 1\nlayer a b\nchord 0+1 c\nchord 0+1 d")})) (gN 7)):=⟨_,(bh (i:=7) eO.nd rfl (a8 rfl) (bw b7 (pv 7) (cS (aa aL ah))) (hs:=gh)),(bF (ap b9 ad (c8 (af aJ ai))) aB)⟩;obtain⟨arH,agB,U⟩:∃t,PS (sI P w K mg base f h A e s H E) zZ t/\SO K E t (bp (aA bM (ae 7) (cH {pC (.str "keys 2 wait 1\nlayer a _\nlayer a")})) (gN 7)):=⟨_,(bh (i:=7) eO.nd rfl (a8 rfl) (bw b7 (pv 7) (cS (aa aL ah))) (hs:=gh)),(bF (ap b9 ad (c8 (af aJ ai))) aB)⟩;obtain⟨ao9,ag7,l⟩:∃t,PS (sI P w K mg base f h A e s H E) Aw t/\SO K E t (bp (aA bx (ae 7) (aA cq (aA c9 (ae 4) (~~~16)) (~~~23))) (gN 3)):=⟨_,(bh (i:=3) eO.nd rfl (a8 rfl) (bE aX (pv 7) (bw fV (bw fk (pv 4) ao) ao) (λ_ _=>rfl)) (hs:=rj)),(bF (ap bc ad (ap eF (ap gy ad aq) aq)) aB)⟩;have N:jb=.If AY [Aq,Aj,zF,AC,zP,A4,Al,A1,A5,zZ,Aw] [] (iP jb):=rfl;obtain⟨tq9,uq9,vq9⟩:∃t,PS (sI P w K mg base f h A e s H E) jb t/\SO K E t (dJ (ay (aA dq (aA cq (aA c9 (ae 4) (~~~4)) (~~~4)) (~~~3))) (aF (bp (cH (ac (pC (.str "")) {pC (.str "keys"),pC (.str "keys 1 wait 1"),pC (.str "keys 1 wait 1\nlayer"),pC (.str "keys 1 wait 1\nlayer ")})) (gN 7))
 (aF (bp (aA bM (ae 7) (cH {pC (.str "keys 1 wait 1\nlayer a\n")})) (gN 7))
 (aF (bp (aA bM (ae 7) (cH {pC (.str "keys 01 wait 1\nlayer a"),pC (.str "keys 1 wait 5\nlayer a"),pC (.str "keys 1 wait 1\nchord 0 a\nlayer a")})) (gN 7))
 (aF (bp (aA bM (ae 7) (cH {pC (.str "keys 1 wait 1\nlayer a\nchord 0 a"),pC (.str "keys 1 wait 1\nlayer >1"),pC (.str "keys 1 wait 1\nlayer _")})) (gN 7))
 (aF (bp (aA bM (ae 7) (cH {pC (.str "keys 1 wait 1\nlayer a>"),pC (.str "keys 1 wait 1\nlayer ~"),pC (.str "keys 1 wait 1\nlayer a>1\nlayer _")})) (gN 7))
 (aF (bp (aA bM (ae 7) (cH {pC (.str "keys 2 wait 1\nlayer a b\nchord 1+0 c"),pC (.str "keys 2 wait 1\nlayer a b\nchord 0+ c")})) (gN 7))
 (aF (bp (aA bM (ae 7) (cH {pC (.str "keys 2 wait 1\nlayer a b\nchord 0+1 C"),pC (.str "keys 1 wait 100\nlayer a")})) (gN 7))
 (aF (bp (aA bM (ae 7) (cH {pC (.str "keys 10 wait 1\nlayer a"),pC (.str "keys 1 wait 1\nlayer a>100\nlayer b")})) (gN 7))
 (aF (bp (aA bM (ae 7) (cH {pC (.str "keys 2 wait 1\nlayer a b\nchord 0+1 c\nchord 0+1 d")})) (gN 7))
 (aF (bp (aA bM (ae 7) (cH {pC (.str "keys 2 wait 1\nlayer a _\nlayer a")})) (gN 7))
 (bp (aA bx (ae 7) (aA cq (aA c9 (ae 4) (~~~16)) (~~~23))) (gN 3)))))))))))) bq):=by
  rw[N];generalize AY=z0 at*;generalize iP jb=z1 at*;generalize Aq=z2 at*;generalize Aj=z3 at*;generalize zF=z4 at*;generalize AC=z5 at*;generalize zP=z6 at*;generalize A4=z7 at*;generalize Al=z8 at*;generalize A1=z9 at*;generalize A5=z10 at*;generalize zZ=z11 at*;generalize Aw=z12 at*;exact⟨_,bH ad8 (ag adV
   (ag adM
   (ag agA
   (ag T
   (ag agG
   (ag I
   (ag O
   (ag M
   (ag ag9
   (ag agB
   (au ag7))))))))))) aN,bU adZ (az adK
   (az o
   (az L
   (az Y
   (az X
   (az J
   (az S
   (az ag2
   (az B
   (az U
   l)))))))))) bg⟩
 clear N ad8 adZ adV adK adM o agA L T Y agG X I J O S M ag2 ag9 B agB U ag7 l;obtain⟨aqk,akF,ajG⟩:∃t,PS (sI P w K mg base f h A e s H E) EJ t/\SO K E t (bp (bu dX 1 {ae 3}) (gN 8)):=⟨_,(bh (i:=8) eO.nd rfl (a8 rfl) (bj Wb j (aa (pv 3) ah)) (hs:=kY)),(bF (bv (af ad ai)) aB)⟩;obtain⟨aq4,ajJ,akr⟩:∃t,PS (sI P w K mg base f h A e s H E) Gm t/\SO K E t (dJ (ay (aA dq (dD dc {ae 8}) (~~~4))) (aF (bp (bu ir 1 {ae 8}) (gN 9))
 (aF (dJ (ay (aA lw (ae 9) (pC .none))) (bG (mV (bu b5 2 {bu aW 1 {ae 3},ae 8}) (bu b5 2 {bu aW 1 {ae 2},ae 1}))) bq)
 (bp (ae 9) (gN 8)))) bq):=⟨_,(bH (aK (bO hu) (aH cn rfl Su fD (aa (pv 8) ah)) ao (aQ _)) (ag (bh (i:=9) eO.nd rfl (a8 rfl) (bj X3 j (aa (pv 8) ah)) (hs:=kY))
   (ag (bH (aK l8 (pv 9) cy (aQ _)) (au (aU (fY (bj Sh j (aa (bj Vi j (aa (pv 3) ah)) (aa (pv 8) ah))) (fZ (bj Sh j (aa (bj Vi j (aa (pv 2) ah)) (aa (pv 1) ah))))))) aN)
   (au (bh (i:=8) eO.nd rfl (a8 rfl) (pv 9) (hs:=B3))))) aN),(bU (aG (ap bQ (bV fO (af ad ai)) aq)) (az (bF (bv (af ad ai)) aB)
   (az (bU (aG (ap qC ad d9)) (aZ (fU (bv (af (bv (af ad ai)) (af ad ai))) (bv (af (bv (af ad ai)) (af ad ai))))) bg)
   (bF ad aB))) bg)⟩
 obtain⟨aoB,akL,u⟩:∃t,PS (sI P w K mg base f h A e s H E) GY t/\SO K E t (bG (mV (aA dq (bu aW 1 {ae 3}) (ae 8)) (bu b5 2 {bu aW 1 {ae 2},ae 1}))):=⟨_,(aU (fY (dr (bO hu) (bj Vi j (aa (pv 3) ah)) (pv 8) (aQ _)) (fZ (bj Sh j (aa (bj Vi j (aa (pv 2) ah)) (aa (pv 1) ah)))))),(aZ (fU (ap bQ (bv (af ad ai)) ad) (bv (af (bv (af ad ai)) (af ad ai)))))⟩;have hb:(aC (top 60))=[Ez,DW,Fq,D5,qj,jb,EJ,Gm,GY]:=rfl;rw[hb];generalize Ez=z0 at*;generalize DW=z1 at*;generalize Fq=z2 at*;generalize D5=z3 at*;generalize qj=z4 at*;generalize jb=z5 at*;generalize EJ=z6 at*;generalize Gm=z7 at*;generalize GY=z8 at*;exact om (az vq1
   (az vq2
   (az vq3
   (az vq4
   (az vq5
   (az vq9
   (az ajG
   (az akr
   u)))))))) (ag uq1
   (ag uq2
   (ag uq3
   (ag uq4
   (ag uq5
   (ag uq9
   (ag akF
   (ag ajJ
   (au akL)))))))))
theorem se:Tz ["bed"] ["bed"] (aI (top 18)):=by fail "sc"
theorem rB(F:Vf K "check_numbers" "check_numbers" (top 18) f Z){c e b:Rq}{r:S5}{u:Obj}(l:L9.XC K c e b)(p:K.lookup b=ax u)(j:Us K (.ref b)=OK)(o:FnOk P w K mg base fF 1 b r ["self","layer","key"] (L9.qM c "layer" "key"))(q:Binds K r ["self","layer","key"] [])(i:RG K RD "NoBed"=ax (ax (.ref c)))(h:mg "NoBed"=ax (.ref c))(t:mg "len"=cL){C:Tok}(z:mg "MOST_KEYS"=ax (.int 5 C)){G:Tok}(I:mg "MOST_LAYERS"=ax (.int 3 G)){J:Tok}(L:mg "MOST_CHORDS"=ax (.int 4 J)){y:Tok}(B:mg "MOST_WAIT"=ax (.int 4 y)):FnOk P w K mg base (L4.sH P w) 3 f Z ["bed"] (iA K 1 dM):=by
 refine L4.Ox (k:=2) (n:=1) (m:=1) (g:=fJ) (FF:=dM) F se rfl rfl rfl (λM A d s H E a=>?_);have O:=a.units;have N:(A.deeper (Se "check_numbers" (aI (top 18)) s.heap.objs.size f M)).units+65<cLine:=by have:=a.un;ext
 exact⟨_,(ag (bH (PW.pt (i7 (iu (ny pd pd ao (bE aX (pv 0) ao (λ_ _=>rfl)) (fG (v:=.int 5) rfl z ⟨_,rfl⟩))) (jW (iu (ny pd pd ao (aH cn rfl t fD (aa (bE aX (pv 0) ao (λ_ _=>rfl)) ah)) (fG (v:=.int 3) rfl I ⟨_,rfl⟩)))))) (au (L9.iw l p j o q (a.mono (by decide)) rfl h (aa cy (aa cy ah)))) aN)
   (au (bH (PW.pt (i7 (aK ul (aH cn rfl t fD (aa (bE aX (pv 0) ao (λ_ _=>rfl)) ah)) (fG (v:=.int 4) rfl L ⟨_,rfl⟩) (aQ _)) (jW (iu (ny pd pd ao (bE aX (pv 0) ao (λ_ _=>rfl)) (fG (v:=.int 4) rfl B ⟨_,rfl⟩)))))) (au (L9.iw l p j o q (a.mono (by decide)) rfl h (aa cy (aa cy ah)))) aN))),(az (bU (gL (gA (aG (ie k9 k9 aq (ap bc ad aq) aq))) (gA (aG (ie k9 k9 aq (bV fO (af (ap bc ad aq) ai)) aq)))) (L9.mH (by decide) i (af d9 (af d9 ai))) bg)
   (bU (gL (aG (ap pj (bV fO (af (ap bc ad aq) ai)) aq)) (gA (aG (ie k9 k9 aq (ap bc ad aq) aq)))) (L9.mH (by decide) i (af d9 (af d9 ai))) bg))⟩
theorem iH:Tz ["bed","layer","meanings","key","meaning"] ["bed","layer"] (aI (top 19)):=by fail "sc"
theorem sZ(F:Vf K "check_layer" "check_layer" (top 19) f Z){c e b:Rq}{t:S5}{y:Obj}(o:L9.XC K c e b)(q:K.lookup b=ax y)(l:Us K (.ref b)=OK)(p:FnOk P w K mg base fF 1 b t ["self","layer","key"] (L9.qM c "layer" "key"))(r:Binds K t ["self","layer","key"] [])(j:RG K RD "NoBed"=ax (ax (.ref c)))(h:mg "NoBed"=ax (.ref c))(z:cQ P w K mg base 2 "may_mean" ["meaning","layer","layers"] 3 jh)(u:mg "len"=cL)(B:mg "enumerate"=cL):FnOk P w K mg base (L4.sH P w) 3 f Z ["bed","layer"] (iA K 2 dY):=by
 refine L4.Ox (k:=2) (n:=2) (m:=5) (g:=gH) (FF:=dY) F iH rfl rfl rfl (λC A d s H E a=>?_);have v:=a.units;have G:(A.deeper (Se "check_layer" (aI (top 19)) s.heap.objs.size f C)).units+65<cLine:=by have:=a.un;ext
 exact⟨_,(ag (bh (i:=2) iH.nd rfl (a8 rfl) (bE aX (bE aX (pv 0) ao (λ_ _=>rfl)) (pv 1) (λ_ _=>rfl)))
   (ag (bH (aK (kJ v) (aH cn rfl u fD (aa (pv 2) ah)) (bE aX (pv 0) ao (λ_ _=>rfl)) (aQ _)) (au (L9.iw o q l p r (a.mono (by decide)) rfl h (aa (pv 1) (aa cy ah)))) aN)
   (au (jg UK.leaving rfl (zq rfl B (aa (pv 2) ah)) (ji rfl (cz (bf (i:=3) iH.nd rfl (a8 rfl)) (cz (bf (i:=4) iH.nd rfl (a8 rfl)) g7))) (au (bH (iu (df (bj z a (aa (pv 4) (aa (pv 1) (aa (aH cn rfl u fD (aa (bE aX (pv 0) ao (λ_ _=>rfl)) ah)) ah)))))) (au (L9.iw o q l p r (a.mono (by decide)) rfl h (aa (pv 1) (aa (pv 3) ah)))) aN)))))),(az (bF (ap bc (ap bc ad aq) ad) aB)
   (az (bU (aG (ap kx (bV fO (af ad ai)) (ap bc ad aq))) (L9.mH (by decide) j (af ad (af d9 ai))) bg)
   (jr (Bq (af ad ai)) (jf (db aB (db aB jm))) (bU (gA (eS (bv (af ad (af ad (af (bV fO (af (ap bc ad aq) ai)) ai)))))) (L9.mH (by decide) j (af ad (af ad ai))) bg))))⟩
theorem nV:Tz ["bed","place","keys"] ["bed","place"] (aI (top 21)):=by fail "sc"
theorem sR(F:Vf K "check_chord" "check_chord" (top 21) f Z){c e b:Rq}{u:S5}{h:Obj}(p:L9.XC K c e b)(t:K.lookup b=ax h)(r:Us K (.ref b)=OK)(o:FnOk P w K mg base fF 1 b u ["self","place"] (L9.qY c "place"))(j:Binds K u ["self","place"] [])(q:RG K RD "NoChord"=ax (ax (.ref c)))(l:mg "NoChord"=ax (.ref c))(z:cQ P w K mg base 1 "is_letter" ["text"] 1 cY)(y:cQ P w K mg base 2 "is_chord_set" ["bed","keys"] 2 fK):FnOk P w K mg base (L4.sH P w) 3 f Z ["bed","place"] (iA K 2 fP):=by
 refine L4.Ox (k:=2) (n:=2) (m:=3) (g:=gS) (FF:=fP) F nV rfl rfl rfl (λB A d s H E a=>?_);have C:=a.units;have v:(A.deeper (Se "check_chord" (aI (top 21)) s.heap.objs.size f B)).units+65<cLine:=by have:=a.un;ext
 exact⟨_,(ag (bh (i:=2) nV.nd rfl (a8 rfl) (bE aX (bE aX (bE aX (pv 0) ao (λ_ _=>rfl)) (pv 1) (λ_ _=>rfl)) ao (λ_ _=>rfl)))
   (ag (bH (PW.pt (i7 (iu (df (bj z a (aa (bE aX (bE aX (bE aX (pv 0) ao (λ_ _=>rfl)) (pv 1) (λ_ _=>rfl)) ao (λ_ _=>rfl)) ah)))) (jW (iu (df (bj y a (aa (pv 0) (aa (pv 2) ah)))))))) (au (L9.iw p t r o j (a.mono (by decide)) rfl l (aa (pv 1) ah))) aN)
   (au (bH (aK (tR v) (pv 2) (cW ["chord"] [] rfl (eZ (cb tI (bE aX (pv 0) ao (λ_ _=>rfl)) di (cw (pv 1)))) (λ_ _ _ _=>(bf (i:=0) (show RY (["chord"]:cM Str) by left) rfl (a8 rfl))) (λ_ _ _ _=>ck) (λ_ _ _ _=>(bE aX (pv 0) ao (λ_ _=>rfl))) trivial rfl) (by with_unfolding_all rfl)) (au (L9.iw p t r o j (a.mono (by decide)) rfl l (aa (pv 1) ah))) aN)))),(az (bF (ap bc (ap bc (ap bc ad aq) ad) aq) aB)
   (az (bU (gL (gA (eS (bv (af (ap bc (ap bc (ap bc ad aq) ad) aq) ai)))) (gA (eS (bv (af ad (af ad ai)))))) (L9.ou q ad) bg)
   (bU (aG (ap uf ad (cO rfl rfl (gv (fE BV (ap bc ad aq) cJ (bR ad))) aB cf (ap bc ad aq)))) (L9.ou q ad) bg)))⟩
theorem pH:Tz ["bed","layer","place"] ["bed"] (aI (top 17)):=by fail "sc"
theorem yT(F:Vf K "checked" "checked" (top 17) f Z)(j:L4.rH P w K mg base 3 "check_numbers" ["bed"] 1 dM)(e:L4.rH P w K mg base 3 "check_layer" ["bed","layer"] 2 dY)(h:L4.rH P w K mg base 3 "check_chord" ["bed","place"] 2 fP)(c:mg "range"=cL)(d:mg "len"=cL):FnOk P w K mg base (L4.sH P w) 4 f Z ["bed"] (iA K 1 dR):=by
 refine L4.Ox (k:=3) (n:=1) (m:=3) (g:=jp) (FF:=dR) F pH rfl rfl rfl (λl A b s H E a=>?_);have p:=a.units;have o:(A.deeper (Se "checked" (aI (top 17)) s.heap.objs.size f l)).units+65<cLine:=by have:=a.un;ext
 exact⟨_,(ag (fq (L4.qD j L4.qE a (aa (pv 0) ah)))
   (ag (jg UK.leaving rfl (eJ rfl c (aa (aH cn rfl d fD (aa (bE aX (pv 0) ao (λ_ _=>rfl)) ah)) ah)) (bf (i:=1) pH.nd rfl (a8 rfl)) (au (fq (L4.qD e L4.qE a (aa (pv 0) (aa (pv 1) ah))))))
   (ag (jg UK.leaving rfl (eJ rfl c (aa (aH cn rfl d fD (aa (bE aX (pv 0) ao (λ_ _=>rfl)) ah)) ah)) (bf (i:=2) pH.nd rfl (a8 rfl)) (au (fq (L4.qD h L4.qE a (aa (pv 0) (aa (pv 2) ah))))))
   (au (aU (pv 0)))))),(az (gz (tq (af ad ai)))
   (az (jr (g6 (af (bV fO (af (ap bc ad aq) ai)) ai)) aB (gz (tq (af ad (af ad ai)))))
   (az (jr (g6 (af (bV fO (af (ap bc ad aq) ai)) ai)) aB (gz (tq (af ad (af ad ai)))))
   (aZ ad))))⟩
theorem eG:Tz ["text","rows","numbers","layers","chords","place","row","words","layer","chord"] ["text"] (aI (top 27)):=by fail "sc"
theorem wU(F:Vf K "read_bed" "read_bed" (top 27) f Z){l q j:Rq}{r:S5}{p:Obj}(u:L9.XC K l q j)(c:K.lookup j=ax p)(d:Us K (.ref j)=OK)(e:FnOk P w K mg base fF 1 j r ["self","row"] (L9.qY l "row"))(b:Binds K r ["self","row"] [])(h:RG K RD "NoText"=ax (ax (.ref l)))(t:mg "NoText"=ax (.ref l))(I:cQ P w K mg base 2 "read_numbers" ["words"] 1 gP)(C:cQ P w K mg base 3 "read_layer" ["words"] 1 iB)(B:cQ P w K mg base 3 "read_chord" ["words"] 1 i4)(z:L4.rH P w K mg base 4 "checked" ["bed"] 1 dR)(G:mg "enumerate"=cL)(v:mg "tuple"=cL):FnOk P w K mg base (L4.sH P w) 5 f Z ["text"] (iA K 1 cR):=by
 refine L4.Ox (k:=4) (n:=1) (m:=10) (g:=iv) (FF:=cR) F eG rfl rfl rfl (λJ A o s H E a=>?_);have y:=a.units;have L:(A.deeper (Se "read_bed" (aI (top 27)) s.heap.objs.size f J)).units+65<cLine:=by have:=a.un;ext
 exact⟨_,(ag (bh (i:=1) eG.nd rfl (a8 rfl) (eU RZ Tf Tg jN (pv 0) (aa aL ah)))
   (ag (bh (i:=2) eG.nd rfl (a8 rfl) (bj I a (aa (eU RZ Tf Tg jN (bE aX (pv 1) ao (λ_ _=>rfl)) (aa aL ah)) ah)))
   (ag (bH (aK l8 (pv 2) cy (aQ _)) (au (L9.iw u c d e b (a.mono (by decide)) rfl t (aa ao ah))) aN)
   (ag (bh (i:=3) eG.nd rfl (a8 rfl) (cS ah))
   (ag (bh (i:=4) eG.nd rfl (a8 rfl) (cS ah))
   (ag (jg UK.leaving rfl (zr rfl G (aa (cb tI (pv 1) (cw ao) di) ah)) (ji rfl (cz (bf (i:=5) eG.nd rfl (a8 rfl)) (cz (bf (i:=6) eG.nd rfl (a8 rfl)) g7))) (ag (bh (i:=7) eG.nd rfl (a8 rfl) (eU RZ Tf Tg jN (pv 6) (aa aL ah)))
   (ag (bh (i:=8) eG.nd rfl (a8 rfl) (bj C a (aa (pv 7) ah)))
   (ag (bh (i:=9) eG.nd rfl (a8 rfl) (bj B a (aa (pv 7) ah)))
   (au (bH (PW.pt (iS (aK xx (pv 8) cy (aQ _)) (gZ (aK (bO y) (pv 4) (cS ah) (aQ _))))) (au (fq (eU Sg SX SY gn (pv 3) (aa (pv 8) ah)))) (au (bH (aK xx (pv 9) cy (aQ _)) (au (fq (eU Sg SX SY gn (pv 4) (aa (pv 9) ah)))) (au (L9.iw u c d e b (a.mono (by decide)) rfl t (aa (pv 5) ah)))))))))))
   (au (aU (L4.qD z L4.qE a (aa (eh (aa (bE aX (pv 2) ao (λ_ _=>rfl)) (aa (b8 cC rfl v eD (aa (pv 3) ah)) (aa (b8 cC rfl v eD (aa (pv 4) ah)) (aa (bE aX (pv 2) ao (λ_ _=>rfl)) ah))))) ah)))))))))),(az (bF (j4 iU ad (af aJ ai)) aB)
   (az (bF (bv (af (j4 iU (ap bc ad aq) (af aJ ai)) ai)) aB)
   (az (bU (aG (ap qC ad d9)) (L9.ou h aq) bg)
   (az (bF (c8 ai) aB)
   (az (bF (c8 ai) aB)
   (az (jr (ye (af (fE BV ad (bR aq) cJ) ai)) (jf (db aB (db aB jm))) (az (bF (j4 iU ad (af aJ ai)) aB)
   (az (bF (bv (af ad ai)) aB)
   (az (bF (bv (af ad ai)) aB)
   (bU (gC (aG (ap wX ad d9)) (aG (ap bQ ad (c8 ai)))) (gz (lX ad)) (bU (aG (ap wX ad d9)) (gz (lX ad)) (L9.ou h ad)))))))
   (aZ (tq (af (fC (af (ap bc ad aq) (af (bV fM (af ad ai)) (af (bV fM (af ad ai)) (af (ap bc ad aq) ai))))) ai)))))))))⟩
end
end K24
namespace L2
open PySem PySem.Spec PyProof.Rows
section
variable{Z:St}{H:Hp}{Q:VK}{D:Ends}
theorem Hk{K:td}{c b:TE}{f:Str}(h:b Z H λy H1=>c Z H1 λx H2=>∃a C dx fs,x=.ref a/\H2 a=ax (.ins C dx fs)/\Cls K C/\uP K C f/\fs.length<1000/\D.nx Z (dg H2 a (.ins C dx (Lo f y fs)))):Pn K c b f D Z H:=h
theorem L8{c:TT}{t u:TE}(h:c Z H λb H1=>if b=OK then t Z H1 Q else u Z H1 Q):Q4 c t u Z H Q:=h
theorem Md{K:td}{b:TE}{f:Str}(h:b Z H λx H1=>∃a C dx fs v,x=.ref a/\H1 a=ax (.ins C dx fs)/\Cls K C/\uP K C f/\fs.lookup f=ax v/\Q v H1):P1 K b f Z H Q:=h
theorem HM{C:Rq}{m:Str}{sp:Sp}{E:XK}{b:TE}{t:TA}(h:b Z H λx H1=>∃a dx fs,x=.ref a/\H1 a=ax (.ins C dx fs)/\fs.lookup m=cL/\t Z H1 λvs H2=>sp (x::(vs++[])) H2 Q E):MD C m sp [] E b t Z H Q:=h
theorem Hq{C:Rq}{sp:Sp}{E:XK}{t:TA}(h:t Z H λvs H1=>∀x dx,H1 x=cL->H1 dx=cL->dx≠x->sp (.ref x::(vs++[])) (dg (dg H1 dx (.own x)) x (.ins C dx [])) (λv H2=>v=.Uo/\Q (.ref x) H2) E):Nh C sp [] E t Z H Q:=h
end
end L2
local macro_rules| `(tactic|fail "gh")=> `(tactic|repeat (first
 |specialize L2.KZ ?_
 |specialize L2.KI ?_
 |specialize L2.Hk ?_
 |specialize L2.L8 ?_
 |specialize L2.Md ?_
 |specialize L2.HM ?_
 |specialize L2.Hq ?_
 |specialize L2.HZ ?_
 |((with_reducible show L2.sE _ _ _ _);refine⟨_,rfl,?_⟩)
 |specialize L2.Pf ?_
 |specialize L2.NH ?_
 |specialize L2.amf ?_
 |specialize L2.alJ ?_
 |specialize L2.aov ?_
 |((specialize L2.ano ?_ ?_);first|exact⟨by decide,by decide⟩|exact⟨by decide,by decide,by decide⟩|exact(show(0:Int)<_ by decide)|exact⟨by decide,by left⟩)
 |((specialize L2.Oh ?_ ?_);exact rfl)
 |((specialize L2.Oy ?_ ?_);exact rfl)
 |specialize L2.KK ?_
 |specialize L2.IP ?_
 |specialize L2.LF ?_
 |specialize L2.HD ?_
 |specialize L2.agE ?_
 |specialize L2.aiu ?_
 |specialize L2.HQ ?_
 |specialize L2.Qo ?_
 |specialize L2.MZ ?_
 |specialize L2.alq ?_
 |specialize L2.N4 ?_
 |specialize L2.Kh ?_
 |specialize L2.aij ?_
 |specialize L2.alg ?_
 |specialize L2.aib ?_
 |specialize L2.K7 ?_
 |specialize L2.Iy ?_
 |specialize L2.MW ?_
 |specialize L2.Hc ?_
 |specialize L2.J8 ?_
 |specialize L2.LK ?_
 |specialize L2.N5 ?_
 |specialize L2.alB ?_
 |specialize L2.afH ?_
 |specialize L2.aiT ?_
 |specialize L2.aj0 ?_
 |specialize L2.agT ?_
 |specialize L2.agL ?_
 |specialize L2.aiP ?_
 |specialize L2.aiH ?_
 |specialize L2.aj8 ?_
 |specialize L2.aix ?_
 |specialize L2.ai8 ?_
 |specialize L2.agF ?_
 |specialize L2.aiw ?_
 |specialize L2.ahq ?_
 |specialize L2.ai0 ?_
 |specialize L2.aih ?_))
namespace K24
open PySem L2
theorem ND{n:Nat}(h:n<=10000):n<RL:=Yt h (by left)
theorem mZ{n:Nat}(h:n<=10000):n<=RL:=Vx (ND h)
section
variable{P:RT}{w:SG}{K:td}{mg:Str->c5 Rf}{base:Heap}{f:Rq}{fd:S5}
def Cgt(CR:Rq)(H:Hp)(e:Rq):Prop:=∃ob,H e=ax (.frz ob (.own e))/\ob.cls=.ref CR/\(∀p,ob.dict=ax p->∃fs,H p=ax (.xd fs))/\Zi ob=OK
theorem Cgt.same{CR:Rq}{H H':Hp}{e:Rq}(h:Cgt CR H e)(s:TC H H'):Cgt CR H' e:=by obtain⟨a,i,g,d,c⟩:=h;exact⟨a,s _ _ i,g,λp b=>let⟨fs,z⟩:=d p b;⟨fs,s _ _ z⟩,c⟩
theorem gq{K:td}{CR C:Rq}{m:cM Rf}{H:Hp}{e:Rq}{b:Bool}{Q:VK}(h:Cgt CR H e)(L:L4.VT K CR m)(k:Sq K (.ref CR) (.ref C)=ax b)(q:Q (.bl b) H):L4.GH K [.ref e,.ref C] H Q:=by obtain⟨a,i,g,d,c⟩:=h;exact⟨_,.inl ⟨C,rfl,e,a,CR,m,b,rfl,i,g,d,c,L,k,q⟩⟩
theorem Mh{K:td}{CR:Rq}{n:String}{m:cM Rf}{H:Hp}{e:Rq}{b:Bool}{Q:VK}(h:Cgt CR H e)(L:L4.VT K CR m)(k:Sq K (.ref CR) (.type n)=ax b)(q:Q (.bl b) H):L4.GH K [.ref e,.ty n] H Q:=by obtain⟨a,i,g,d,c⟩:=h;exact⟨_,.inr ⟨n,rfl,e,a,CR,m,b,rfl,i,g,d,c,L,k,q⟩⟩
theorem ua{K:td}(C:Rq):Sq K (.ref C) (.ref C)=ax OK:=by unfold Sq;rw[ak (beq_iff_eq.mpr rfl)]
theorem dS{K:td}{CR C:Rq}(hs:RK K (.ref CR) (.ref CR)=ax OK)(c:Ts K C=OK)(b:Td K (.ref C)=ax (.type "type"))(a:RK K (.ref CR) (.ref C)=ax Rh):Sq K (.ref CR) (.ref C)=ax Rh:=by
 have ne:(Rf.ref CR==Rf.ref C)=Rh:=by
  cases e:(Rf.ref CR==Rf.ref C)with
  |false=>rfl
  |true=>obtain rfl:=Rf.ref.inj (beq_iff_eq.mp e);rw[hs]at a;cases a
 unfold Sq;rw[ne,ar Rg];show(if((VA K C).isSome&&Td K (.ref C)==ax (.type "type"))=OK then RK K (.ref CR) (.ref C)else cL)=_;rw[show(VA K C).isSome=OK from c,b,ak (by rw[WL];exact beq_iff_eq.mpr rfl)];exact a
theorem Aa{K:td}{CR:Rq}(h:RK K (.ref CR) (.type "ValueError")=ax OK):Sq K (.ref CR) (.type "ValueError")=ax OK:=by unfold Sq;rw[ar (by intro z;cases beq_iff_eq.mp z)];show(if PySem.W.kitMeta "ValueError"=OK then RK K (.ref CR) (.type "ValueError")else cL)=_;rw[ak (by left)];exact h
def mo(C:Rq)(j:Nat):Sp:=λvs H Q _=>∃e,vs=[.ref e]/\Cgt C H e/\∀H',TC H H'->Q (.int (j:Int)) H'
theorem kg:Tz ["_law_e","_law_found"] ["_law_e"] (aI (top 46)):=⟨rfl,rfl,rfl,by left,rfl,by left,by left⟩
theorem PC:∀j,j<10->([decide (j=0),decide (j=1),decide (j=2),decide (j=3),decide (j=4),decide (j=5),decide (j=6),decide (j=7),decide (j=8),decide (j=9)]:cM Bool).count OK=1:=by decide
theorem Pp:∀j,j<10->([decide (j=0),decide (j=1),decide (j=2),decide (j=3),decide (j=4),decide (j=5),decide (j=6),decide (j=7),decide (j=8),decide (j=9)]:cM Bool)[j]?=ax OK:=by decide
theorem Qe:∀j,j<10->∀m,m<j->([decide (j=0),decide (j=1),decide (j=2),decide (j=3),decide (j=4),decide (j=5),decide (j=6),decide (j=7),decide (j=8),decide (j=9)]:cM Bool)[m]?≠ax OK:=by decide
theorem xu{C Ss Sa Sn Ve Vc UI Ud UJ Vd VD:Rq}{mR:cM Rf}{j:Nat}(I:j<10)(F:Vf K "_law_kind" "_law_kind" (top 46) f fd)(L:L4.VT K C mR)(W2:mg "NoBed"=ax (.ref Ss))(V0:mg "NoChord"=ax (.ref Sa))(WG:mg "NoText"=ax (.ref Sn))(Xs:mg "NoBook"=ax (.ref Ve))(Xp:mg "NoWord"=ax (.ref Vc))(WI:mg "NoFrame"=ax (.ref UI))(VH:mg "NoReading"=ax (.ref Ud))(WE:mg "TooMany"=ax (.ref UJ))(Xo:mg "NoKeys"=ax (.ref Vd))(Ym:mg "NoRow"=ax (.ref VD))(S:Sq K (.ref C) (.ref Ss)=ax (decide (j=0)))(T:Sq K (.ref C) (.ref Sa)=ax (decide (j=1)))(O:Sq K (.ref C) (.ref Sn)=ax (decide (j=2)))(N:Sq K (.ref C) (.ref Ve)=ax (decide (j=3)))(Y:Sq K (.ref C) (.ref Vc)=ax (decide (j=4)))(U:Sq K (.ref C) (.ref UI)=ax (decide (j=5)))(aaK:Sq K (.ref C) (.ref Ud)=ax (decide (j=6)))(X:Sq K (.ref C) (.ref UJ)=ax (decide (j=7)))(Z:Sq K (.ref C) (.ref Vd)=ax (decide (j=8)))(R:Sq K (.ref C) (.ref VD)=ax (decide (j=9)))(kV:Sq K (.ref C) (.type "ValueError")=ax OK)(a:mg "isinstance"=cL)(Vu:mg "ValueError"=cL):
  FnOk P w K mg base fF 1 f fd ["_law_e"] (mo C j):=by
 refine F.ok kg (λvs H Q E h=>?_) (λS4 A y s H vs Q E hr h=>?_)
 .obtain⟨_,rfl,_⟩:=h;rfl
 obtain⟨e,rfl,k,q⟩:=h;refine⟨_,(ag (bh (i:=1) kg.nd rfl (a8 rfl) (cS (aa (aH L4.gU rfl a aV (aa (pv 0) (aa (fG (v:=.ref Ss) rfl W2 rfl) ah))) (aa (aH L4.gU rfl a aV (aa (pv 0) (aa (fG (v:=.ref Sa) rfl V0 rfl) ah))) (aa (aH L4.gU rfl a aV (aa (pv 0) (aa (fG (v:=.ref Sn) rfl WG rfl) ah))) (aa (aH L4.gU rfl a aV (aa (pv 0) (aa (fG (v:=.ref Ve) rfl Xs rfl) ah))) ah))))))
   (ag (bh (i:=1) kg.nd rfl (a8 rfl) (bw L3.xE (pv 1) (cS (aa (aH L4.gU rfl a aV (aa (pv 0) (aa (fG (v:=.ref Vc) rfl Xp rfl) ah))) (aa (aH L4.gU rfl a aV (aa (pv 0) (aa (fG (v:=.ref UI) rfl WI rfl) ah))) (aa (aH L4.gU rfl a aV (aa (pv 0) (aa (fG (v:=.ref Ud) rfl VH rfl) ah))) ah))))))
   (ag (bh (i:=1) kg.nd rfl (a8 rfl) (bw L3.xE (pv 1) (cS (aa (aH L4.gU rfl a aV (aa (pv 0) (aa (fG (v:=.ref UJ) rfl WE rfl) ah))) (aa (aH L4.gU rfl a aV (aa (pv 0) (aa (fG (v:=.ref Vd) rfl Xo rfl) ah))) (aa (aH L4.gU rfl a aV (aa (pv 0) (aa (fG (v:=.ref VD) rfl Ym rfl) ah))) ah))))))
   (ag (bH (PW.pt (i7 (iu (df (aH L4.gU rfl a aV (aa (pv 0) (aa (dB (v:=.ty "ValueError") rfl Vu (show SS "ValueError"=ax (.type "ValueError")from rfl) rfl) ah))))) (jW (aK NU (eU Sg ZX PySem.F.type_list_count L4.Dm (pv 1) (aa uy ah)) ao (aQ _))))) (au (aU (JI Gx ao))) aN)
   (au (aU (eU Sg ZY PySem.F.type_list_index L4.Dk (pv 1) (aa uy ah)))))))),?_⟩
 fail "gh";refine gq k L S ?_;fail "gh";refine gq k L T ?_;fail "gh";refine gq k L O ?_;fail "gh";refine gq k L N ?_;fail "gh";refine⟨mZ (RP rfl),λp hp=>?_⟩;have s1:TC H (dg H p (.lst [.bl (decide (j=0)),.bl (decide (j=1)),.bl (decide (j=2)),.bl (decide (j=3))])):=ce hp _;have g:=k.same s1;fail "gh";refine gq g L Y ?_;fail "gh";refine gq g L U ?_;fail "gh";refine gq g L aaK ?_;fail "gh";refine⟨mZ (RP rfl),λr d=>?_⟩;have n2:p≠r:=λz=>by rw[<-z,bz]at d;cases d
 refine⟨p,r,[.bl (decide (j=0)),.bl (decide (j=1)),.bl (decide (j=2)),.bl (decide (j=3))],[.bl (decide (j=4)),.bl (decide (j=5)),.bl (decide (j=6))],rfl,rfl,.inl (Rd.of ((aM n2).trans bz)),.inl (Rd.of bz),mZ (RP rfl),λm G=>?_⟩;have s2:=s1.trans (ce d (.lst [.bl (decide (j=4)),.bl (decide (j=5)),.bl (decide (j=6))]));have u:=s2.trans (ce G (.lst ([.bl (decide (j=0)),.bl (decide (j=1)),.bl (decide (j=2)),.bl (decide (j=3))]++[.bl (decide (j=4)),.bl (decide (j=5)),.bl (decide (j=6))])));have b:=k.same u;fail "gh";have M:(dg (dg (dg H p (.lst [.bl (decide (j=0)),.bl (decide (j=1)),.bl (decide (j=2)),.bl (decide (j=3))])) r (.lst [.bl (decide (j=4)),.bl (decide (j=5)),.bl (decide (j=6))])) m (.lst ([.bl (decide (j=0)),.bl (decide (j=1)),.bl (decide (j=2)),.bl (decide (j=3))]++[.bl (decide (j=4)),.bl (decide (j=5)),.bl (decide (j=6))]))) m=ax (.lst ([.bl (decide (j=0)),.bl (decide (j=1)),.bl (decide (j=2)),.bl (decide (j=3))]++[.bl (decide (j=4)),.bl (decide (j=5)),.bl (decide (j=6))])):=bz;generalize dg (dg (dg H p (.lst [.bl (decide (j=0)),.bl (decide (j=1)),.bl (decide (j=2)),.bl (decide (j=3))])) r (.lst [.bl (decide (j=4)),.bl (decide (j=5)),.bl (decide (j=6))])) m (.lst ([.bl (decide (j=0)),.bl (decide (j=1)),.bl (decide (j=2)),.bl (decide (j=3))]++[.bl (decide (j=4)),.bl (decide (j=5)),.bl (decide (j=6))]))=H3 at u b M;refine gq b L X ?_;fail "gh";refine gq b L Z ?_;fail "gh";refine gq b L R ?_;fail "gh";refine⟨mZ (RP rfl),λo c=>?_⟩;have n4:m≠o:=λz=>by rw[<-z,M]at c;cases c
 refine⟨m,o,_,[.bl (decide (j=7)),.bl (decide (j=8)),.bl (decide (j=9))],rfl,rfl,.inl (Rd.of ((aM n4).trans M)),.inl (Rd.of bz),mZ (show 10<=10000 by decide),λl B=>?_⟩;have t:=(u.trans (ce c (.lst [.bl (decide (j=7)),.bl (decide (j=8)),.bl (decide (j=9))]))).trans (ce B (.lst (([.bl (decide (j=0)),.bl (decide (j=1)),.bl (decide (j=2)),.bl (decide (j=3))]++[.bl (decide (j=4)),.bl (decide (j=5)),.bl (decide (j=6))])++[.bl (decide (j=7)),.bl (decide (j=8)),.bl (decide (j=9))])));have n:(dg (dg H3 o (.lst [.bl (decide (j=7)),.bl (decide (j=8)),.bl (decide (j=9))])) l (.lst (([.bl (decide (j=0)),.bl (decide (j=1)),.bl (decide (j=2)),.bl (decide (j=3))]++[.bl (decide (j=4)),.bl (decide (j=5)),.bl (decide (j=6))])++[.bl (decide (j=7)),.bl (decide (j=8)),.bl (decide (j=9))]))) l=ax (.lst (([.bl (decide (j=0)),.bl (decide (j=1)),.bl (decide (j=2)),.bl (decide (j=3))]++[.bl (decide (j=4)),.bl (decide (j=5)),.bl (decide (j=6))])++[.bl (decide (j=7)),.bl (decide (j=8)),.bl (decide (j=9))])):=bz;generalize dg (dg H3 o (.lst [.bl (decide (j=7)),.bl (decide (j=8)),.bl (decide (j=9))])) l (.lst (([.bl (decide (j=0)),.bl (decide (j=1)),.bl (decide (j=2)),.bl (decide (j=3))]++[.bl (decide (j=4)),.bl (decide (j=5)),.bl (decide (j=6))])++[.bl (decide (j=7)),.bl (decide (j=8)),.bl (decide (j=9))]))=H5 at t n;have J:=k.same t;fail "gh";refine Mh J L kV ?_;fail "gh";rw[ar (by decide)];fail "gh";refine⟨.inl ⟨rfl,_,Wh.of n⟩,?_⟩;fail "gh";refine⟨l,[decide (j=0),decide (j=1),decide (j=2),decide (j=3),decide (j=4),decide (j=5),decide (j=6),decide (j=7),decide (j=8),decide (j=9)],OK,rfl,n,rfl,?_⟩;rw[PC j I];fail "gh";rw[ar (by decide)];fail "gh";refine⟨.inl ⟨rfl,_,Wh.of n⟩,?_⟩;fail "gh";exact⟨l,[decide (j=0),decide (j=1),decide (j=2),decide (j=3),decide (j=4),decide (j=5),decide (j=6),decide (j=7),decide (j=8),decide (j=9)],OK,j,rfl,n,rfl,Pp j I,Qe j I,by ext,q _ t⟩
end
section
open L3 L4
variable{P:RT}{w:SG}{K:td}{mg:Str->c5 Rf}{base:Heap}{f:Rq}{Z:S5}
theorem oW:Tz ["self","place"] ["self","place"] (aI (ke (top 5) 0)):=⟨rfl,rfl,rfl,by left,rfl,by left,by left⟩
theorem CM{C B fI:Rq}(F:Vf K "__init__" "NoChord.__init__" (ke (top 5) 0) f Z)(l:L9.XC K C B fI)(i:mg "BedError"=ax (.ref B))(c:VP K B (.type "type")=OK)(j:VQ K (.ref B) (.type "type") "__init__"=ax (.val (.builtin "ValueError.__init__")))
  (b:Ur K (.ref B) "__getattribute__"=ax (ax (.builtin "type.__getattribute__"))) (g:RI K (.ref C) "place"=ax cL):FnOk P w K mg base fF 1 f Z ["self","place"] (L9.qY C "place"):=by
 refine F.ok oW (λvs H Q E h=>?_) (λo A a s H vs Q E n h=>?_)
 .obtain⟨_,_,rfl,_⟩:=h;rfl
 obtain⟨e,v,rfl,m,k,q⟩:=h;refine⟨_,(ag (fq (L9.uJ rfl i c j b l (aa (pv 0) (aa (L9.wE (L9.wG (by decide) (L9.wz (pv 1) L9.AH)) (by decide)) ah)))) (au (L9.wv l g (pv 0) (pv 1) rfl))),?_⟩;fail "gh";refine⟨V.ref e,rfl,v,rfl,m,λy=>⟨e,y,rfl,k,?_⟩⟩;exact⟨v,rfl,V.ref e,rfl,e,rfl,k,λp g d=>q p g d⟩
theorem pE:Tz ["self","row"] ["self","row"] (aI (ke (top 6) 0)):=⟨rfl,rfl,rfl,by left,rfl,by left,by left⟩
theorem C1{C B fI:Rq}(F:Vf K "__init__" "NoText.__init__" (ke (top 6) 0) f Z)(l:L9.XC K C B fI)(i:mg "BedError"=ax (.ref B))(c:VP K B (.type "type")=OK)(j:VQ K (.ref B) (.type "type") "__init__"=ax (.val (.builtin "ValueError.__init__")))
  (b:Ur K (.ref B) "__getattribute__"=ax (ax (.builtin "type.__getattribute__"))) (g:RI K (.ref C) "row"=ax cL):FnOk P w K mg base fF 1 f Z ["self","row"] (L9.qY C "row"):=by
 refine F.ok pE (λvs H Q E h=>?_) (λo A a s H vs Q E n h=>?_)
 .obtain⟨_,_,rfl,_⟩:=h;rfl
 obtain⟨e,v,rfl,m,k,q⟩:=h;refine⟨_,(ag (fq (L9.uJ rfl i c j b l (aa (pv 0) (aa (L9.wE (L9.wG (by decide) (L9.wz (pv 1) L9.AH)) (by decide)) ah)))) (au (L9.wv l g (pv 0) (pv 1) rfl))),?_⟩;fail "gh";refine⟨V.ref e,rfl,v,rfl,m,λy=>⟨e,y,rfl,k,?_⟩⟩;exact⟨v,rfl,V.ref e,rfl,e,rfl,k,λp g d=>q p g d⟩
theorem qq:Tz ["self","layer","key"] ["self","layer","key"] (aI (ke (top 4) 0)):=⟨rfl,rfl,rfl,by left,rfl,by left,by left⟩
theorem yY{C B fI:Rq}(F:Vf K "__init__" "NoBed.__init__" (ke (top 4) 0) f Z)(k:L9.XC K C B fI)(i:mg "BedError"=ax (.ref B))(d:VP K B (.type "type")=OK)(j:VQ K (.ref B) (.type "type") "__init__"=ax (.val (.builtin "ValueError.__init__")))
  (c:Ur K (.ref B) "__getattribute__"=ax (ax (.builtin "type.__getattribute__"))) (g:RI K (.ref C) "layer"=ax cL) (m:RI K (.ref C) "key"=ax cL):FnOk P w K mg base fF 1 f Z ["self","layer","key"] (L9.qM C "layer" "key"):=by
 refine F.ok qq (λvs H Q E h=>?_) (λt A b s H vs Q E r h=>?_)
 .obtain⟨_,_,_,rfl,_⟩:=h;rfl
 obtain⟨e,v,u,rfl,n,o,l,q⟩:=h;refine⟨_,(ag (fq (L9.uJ rfl i d j c k (aa (pv 0) (aa (L9.wE (L9.wG (by decide) (L9.wz (pv 1) (L9.wG (by decide) (L9.wz (pv 2) L9.AH)))) (by decide)) ah)))) (ag (L9.wv k g (pv 0) (pv 1) rfl) (au (L9.Gy k m (pv 0) (pv 2) rfl)))),?_⟩;fail "gh";refine⟨V.ref e,rfl,v,rfl,n,u,rfl,o,λy=>⟨e,y,rfl,l,?_⟩⟩;refine⟨v,rfl,V.ref e,rfl,e,rfl,l,λp g a=>?_⟩;refine⟨u,rfl,V.ref e,rfl,e,p,[("layer",v)],rfl,?_,bz,(show 1<1000 by decide),?_⟩
 .rw[aM (et a),bz]
 .rw[Hf];exact q p g a
end
end K24
namespace K24
open PySem L2
section
variable{P:RT}{w:SG}{K:td}{mg:Str->c5 Rf}{base:Heap}{f:Rq}{fd:S5}
theorem qG{X:Cx}{K:td}{P:RT}{w:SG}{mg:Str->c5 Rf}{base:Heap}{k j n:Nat}{x:Str}{ps:cM Str}{F:L3.FN}{E:XK}{e:SI}{es:cM SI}{t:TA}{p a:Pos}(C:L4.rH P w K mg base k x ps n F)(q:X.prog=P)(h:X.w=w)(r:X.K=K)(hm:X.mg=mg)(o:X.base=base)(g:pI (L4.sH X.prog X.w) X E)(i:U5 j X.A)(ha:PA X (e::es) t)(c:k<=j:=by decide)(l:Gl X x:=by rfl)
  (d:(x==("__debug__":Str))=Rh:=by decide) (m:R0 (e::es) X.env=(Rh,eval e X.env)::R0 es X.env:=by rfl) (b:(backTo a (R0 es X.env)).any (·.1)=Rh:=by rfl):
  PE X (.Call (.Name x p) (e::es) [] a) (tP (L3.iA K n F) [] E t):=by
 subst q h r hm o;exact L4.qD C g i ha c l d m b
theorem bC:Tz ["_law_text_here","_law_caught","_law_found","_law_e","_law_kind_here"] ["_law_text_here"] (aI (top 59)):=⟨rfl,rfl,rfl,by left,rfl,by left,by left⟩
theorem HP{CN CC CT CB:Rq}{m m2 m3 mB:cM Rf}(F:Vf K "_law_told" "_law_told" (top 59) f fd)(ad4:qX P w K mg base 1 "_law_kind" ["_law_e"] (mo CN 0))(adJ:qX P w K mg base 1 "_law_kind" ["_law_e"] (mo CC 1))(ad5:qX P w K mg base 1 "_law_kind" ["_law_e"] (mo CT 2))
  (ab2:L4.rH P w K mg base 5 "read_bed" ["text"] 1 cR)
  (hB:mg "BedError"=ax (.ref CB)) (xB:L4.nz K CB mB) (bB:mB.contains (.type "BaseException")=OK)
  (xN:L4.nz K CN m) (upN:(Rf.ref CN::m).contains (.ref CB)=OK) (nN:RG K RD "NoBed"=ax (ax (.ref CN))) (LN:L4.VT K CN m) (hhN:T7 K CN=OK) (hpl:RI K (.ref CN) "layer"=ax cL) (hpk:RI K (.ref CN) "key"=ax cL)
  (xC:L4.nz K CC m2) (upC:(Rf.ref CC::m2).contains (.ref CB)=OK) (nC:RG K RD "NoChord"=ax (ax (.ref CC))) (LC:L4.VT K CC m2) (hhC:T7 K CC=OK) (hpp:RI K (.ref CC) "place"=ax cL)
  (xT:L4.nz K CT m3) (upT:(Rf.ref CT::m3).contains (.ref CB)=OK) (nT:RG K RD "NoText"=ax (ax (.ref CT))) (LT:L4.VT K CT m3) (hhT:T7 K CT=OK) (hpr:RI K (.ref CT) "row"=ax cL):
  FnOk P w K mg base fF 7 f fd ["_law_text_here"] (L3.iA K 1 aW):=by
 refine F.ok bC (λvs H Q E h=>h.1) (λS4 A outer s H vs Q E hr h=>?_);have hu:=hr.units;obtain⟨hl,O,ds,hO,dv,j⟩:=h;obtain⟨b,rfl⟩:∃b,ds=[b]:=by
  have:=dv.length
  match ds,this.symm.trans hl with
  |[b],_=>exact⟨b,rfl⟩
 obtain⟨v0,rfl,d0⟩:∃v0,vs=[v0]/\L3.DV O K H v0 b:=by
  cases dv with
  |cons d0 r0=>cases r0;exact⟨_,rfl,d0⟩
 have away:∀H5,TC H H5->∀t,H5 t=cL->H t=cL:=λH5 s5 t ht=>by
  cases z:H t with
  |none=>rfl
  |some o=>rw[s5 _ _ z]at ht;cases ht
 cases J:cR [b]with
 |bad=>unfold aW at j;dsimp only at j;rw[J]at j;exact j.elim
 |ok rv=>
  cases rv with
  |ow es=>unfold aW at j;dsimp only at j;rw[J]at j;exact j.elim
  |fz d=>
   have q:∀v C,TC H C->L3.DV O K C v d->Q v C:=by
    have e:aW [b]=.ok (.fz d):=by unfold aW;dsimp only;rw[J]
    rw[e]at j;exact j
   refine⟨_,(ag (bh (i:=1) bC.nd rfl (a8 rfl) cy)
    (ag (bh (i:=2) bC.nd rfl (a8 rfl) cy)
    (ag (L4.xl (i:=3) (E2:=λ_ _ _=>False) rfl bC.nd rfl rfl rfl hB xB bB rfl rfl
     (λl=>au (bh (i:=2) bC.nd rfl (a8 rfl) (qG ab2 rfl rfl rfl rfl rfl (L4.mF rfl) hr (aa (pv 0) ah))))
     (λl e=>au (bh (i:=1) bC.nd rfl (a8 rfl) (pv 3)))
     (λc dx a h=>h.elim))
    (ag (bH (aK l8 (pv 1) cy (aQ _)) (au (aU (pv 2))) aN)
    (ag eN (ag eN (ag eN (ag eN (au eN))))))))),?_⟩
   fail "gh";unfold L4.Fz;refine⟨?_,λc dx a h2=>h2.elim⟩;fail "gh";refine⟨rfl,O,[b],hO,.cons d0 .nil,?_⟩;rw[J];intro v C s' R;fail "gh";refine⟨rfl,OK,?_,?_⟩
   .show V.bl (decide (V.Uo=V.Uo))=V.bl OK;rw[a4 rfl]
   rw[ak rfl];fail "gh";exact q _ _ s' R
 |er x=>
  have agd:(∃k l,cR [b]=.er ⟨"NoBed",[("key",k),("layer",l)]⟩/\L9.r6 k=OK/\L9.r6 l=OK)\/(∃d,cR [b]=.er ⟨"NoChord",[("place",d)]⟩/\L9.r6 d=OK)\/∃d,cR [b]=.er ⟨"NoText",[("row",d)]⟩/\L9.r6 d=OK:=by
   unfold aW at j;dsimp only at j;rw[J]at j;obtain⟨xc,xf⟩:=x;dsimp only at j;split at j
   .rename_i N
    subst N;split at j
    .rename_i g k f l
     split at j
     .rename_i hf;obtain⟨rfl,rfl,hk,hl⟩:=hf;exact .inl ⟨k,l,J,hk,hl⟩
     .exact j.elim
    .exact j.elim
   .split at j
    .rename_i N
     subst N;split at j
     .rename_i f d
      split at j
      .rename_i hf;obtain⟨rfl,hd⟩:=hf;exact .inr (.inl ⟨d,J,hd⟩)
      .exact j.elim
     .exact j.elim
    .split at j
     .rename_i N
      subst N;split at j
      .rename_i f d
       split at j
       .rename_i hf;obtain⟨rfl,hd⟩:=hf;exact .inr (.inr ⟨d,J,hd⟩)
       .exact j.elim
      .exact j.elim
     .exact j.elim
  rcases agd with⟨kk,ll,J,hk0,hl0⟩|⟨d,J,hd0⟩|⟨d,J,hd0⟩
  .have q:∀v C,TC H C->L3.DV O K C v (.tuple [.int 0,ll,kk])->Q v C:=by
    have e:aW [b]=.ok (.fz (.tuple [.int 0,ll,kk])):=by unfold aW;dsimp only;rw[J];dsimp only;rw[ak rfl,ak ⟨rfl,rfl,hk0,hl0⟩]
    rw[e]at j;exact j
   clear j;refine⟨_,(ag (bh (i:=1) bC.nd rfl (a8 rfl) cy)
    (ag (bh (i:=2) bC.nd rfl (a8 rfl) cy)
    (ag (L4.xl (i:=3) (E2:=λc dx a=>TC H a/\c=.ref CN/\∃p fs v u,dx=ax p/\a p=ax (.xd fs)/\fs.lookup ("layer":Str)=ax v/\fs.lookup ("key":Str)=ax u/\L3.DV O K a v ll/\L3.DV O K a u kk) rfl bC.nd rfl rfl rfl hB xB bB rfl rfl
     (λl=>au (bh (i:=2) bC.nd rfl (a8 rfl) (qG ab2 rfl rfl rfl rfl rfl (L4.mF rfl) hr (aa (pv 0) ah))))
     (λl e=>au (bh (i:=1) bC.nd rfl (a8 rfl) (pv 3)))
     (λc dx a h=>⟨CN,m,h.2.1,xN,upN⟩))
    (ag (bH (aK l8 (pv 1) cy (aQ _)) (au (aU (pv 2))) aN)
    (ag (bh (i:=4) bC.nd rfl (a8 rfl) (bj ad4 hr (aa (pv 1) ah)))
    (ag (bH (aK vE (pv 4) ao (aQ _)) (au (aU (eh (aa ao (aa (L9.tf (pv 1) rfl) (aa (L9.tf (pv 1) rfl) ah)))))) aN)
    (ag eN (ag eN (au eN))))))))),?_⟩
   fail "gh";unfold L4.Fz;refine⟨?_,λc dx a h2 G e n hl he N hd hn=>?_⟩
   .fail "gh"
    refine⟨rfl,O,[b],hO,.cons d0 .nil,?_⟩;rw[J];rintro c dx C s' ⟨⟨a',e1,e2⟩,fs,g2,g3⟩;obtain⟨nn,v,k1,k2⟩:=g3 "layer" ll rfl;obtain⟨_,u,k3,k4⟩:=g3 "key" kk rfl;have e3:=nN.symm.trans e2;cases e3;cases dx with
    |none=>exact a7 rfl nn
    |some p=>exact⟨s',e1,p,fs,v,u,rfl,g2 p rfl,k1,k3,k2,k4⟩
   .obtain⟨Z,Y,X,U,T,rfl⟩:∃Z Y X U T,G=[Z,Y,X,U,T]:=by
     match G,hl with
     |[Z,Y,X,U,T],_=>exact⟨Z,Y,X,U,T,rfl⟩
    obtain⟨s1,rfl,p,fs,v,u,rfl,hx,hv,hu',R,dvu⟩:=h2;have r:TC a (dg a e (.frz n (.own e))):=ce he _;have s2:TC H (dg a e (.frz n (.own e))):=s1.trans r;have y:=r _ _ hx;have L:L3.DV O K (dg a e (.frz n (.own e))) v ll:=L3.DV.ev (L3.Ev.grow r) R;have du2:L3.DV O K (dg a e (.frz n (.own e))) u kk:=L3.DV.ev (L3.Ev.grow r) dvu;have eE:(dg a e (.frz n (.own e))) e=ax (.frz n (.own e)):=bz;have cg:Cgt CN (dg a e (.frz n (.own e))) e:=⟨n,bz,N,λp' I=>by rw[hd]at I;cases I;exact⟨fs,y⟩,hn⟩;generalize dg a e (.frz n (.own e))=H2 at s2 y L du2 eE cg;fail "gh";refine⟨rfl,Rh,?_,?_⟩
    .show V.bl (decide (V.ref e=V.Uo))=V.bl Rh;rw[a5 (λz=>nomatch z)]
    rw[ar Rg];fail "gh";refine⟨e,rfl,cg,λH3 s3=>?_⟩;fail "gh";have xf:∀(M:L2.St) (B:Hp) (S:VK),M[1]?=ax (ax (.ref e))->TC H2 B->S v B->L9.yl K (sE 1) "layer" M B S:=λM B S z s4 hq=>⟨V.ref e,z,e,n,CN,m,p,fs,v,rfl,s4 _ _ eE,N,hd,hn,LN,hhN,hpl,s4 _ _ y,hv,hq⟩;have xg:∀(M:L2.St) (B:Hp) (S:VK),M[1]?=ax (ax (.ref e))->TC H2 B->S u B->L9.yl K (sE 1) "key" M B S:=λM B S z s4 hq=>⟨V.ref e,z,e,n,CN,m,p,fs,u,rfl,s4 _ _ eE,N,hd,hn,LN,hhN,hpk,s4 _ _ y,hu',hq⟩;rw[ak (by decide)];fail "gh";refine xf _ _ _ rfl s3 ?_;fail "gh";refine xg _ _ _ rfl s3 ?_;fail "gh";refine⟨mZ (show 3<=10000 by decide),λt ht=>?_⟩;have s6:TC H2 (dg H3 t (.tup [.int 0,v,u])):=s3.trans (ce ht _);exact q _ _ (s2.trans s6) (.tup ⟨.inl (.inl bz),λz=>a7 (away H3 (s2.trans s3) t ht) (hO t z)⟩ (.cons (.int 0) (.cons (L3.DV.ev (L3.Ev.grow s6) L) (.cons (L3.DV.ev (L3.Ev.grow s6) du2) .nil))))
  .have q:∀v C,TC H C->L3.DV O K C v (.tuple [.int 1,d,.none])->Q v C:=by
    have e:aW [b]=.ok (.fz (.tuple [.int 1,d,.none])):=by unfold aW;dsimp only;rw[J];dsimp only;rw[ar (by decide),ak rfl,ak ⟨rfl,hd0⟩]
    rw[e]at j;exact j
   clear j;refine⟨_,(ag (bh (i:=1) bC.nd rfl (a8 rfl) cy)
    (ag (bh (i:=2) bC.nd rfl (a8 rfl) cy)
    (ag (L4.xl (i:=3) (E2:=λc dx a=>TC H a/\c=.ref CC/\∃p fs v,dx=ax p/\a p=ax (.xd fs)/\fs.lookup ("place":Str)=ax v/\L3.DV O K a v d) rfl bC.nd rfl rfl rfl hB xB bB rfl rfl
     (λl=>au (bh (i:=2) bC.nd rfl (a8 rfl) (qG ab2 rfl rfl rfl rfl rfl (L4.mF rfl) hr (aa (pv 0) ah))))
     (λl e=>au (bh (i:=1) bC.nd rfl (a8 rfl) (pv 3)))
     (λc dx a h=>⟨CC,m2,h.2.1,xC,upC⟩))
    (ag (bH (aK l8 (pv 1) cy (aQ _)) (au (aU (pv 2))) aN)
    (ag (bh (i:=4) bC.nd rfl (a8 rfl) (bj adJ hr (aa (pv 1) ah)))
    (ag (bH (aK vE (pv 4) ao (aQ _)) (au eN) aN)
    (ag (bH (aK vE (pv 4) ao (aQ _)) (au (aU (eh (aa ao (aa (L9.tf (pv 1) rfl) (aa cy ah)))))) aN)
    (ag eN (au eN))))))))),?_⟩
   fail "gh";unfold L4.Fz;refine⟨?_,λc dx a h2 G e n hl he N hd hn=>?_⟩
   .fail "gh"
    refine⟨rfl,O,[b],hO,.cons d0 .nil,?_⟩;rw[J];rintro c dx C s' ⟨⟨a',e1,e2⟩,fs,g2,g3⟩;obtain⟨nn,v,k1,k2⟩:=g3 "place" d rfl;have e3:=nC.symm.trans e2;cases e3;cases dx with
    |none=>exact a7 rfl nn
    |some p=>exact⟨s',e1,p,fs,v,rfl,g2 p rfl,k1,k2⟩
   .obtain⟨Z,Y,X,U,T,rfl⟩:∃Z Y X U T,G=[Z,Y,X,U,T]:=by
     match G,hl with
     |[Z,Y,X,U,T],_=>exact⟨Z,Y,X,U,T,rfl⟩
    obtain⟨s1,rfl,p,fs,v,rfl,hx,hv,R⟩:=h2;have r:TC a (dg a e (.frz n (.own e))):=ce he _;have s2:TC H (dg a e (.frz n (.own e))):=s1.trans r;have y:=r _ _ hx;have L:L3.DV O K (dg a e (.frz n (.own e))) v d:=L3.DV.ev (L3.Ev.grow r) R;have eE:(dg a e (.frz n (.own e))) e=ax (.frz n (.own e)):=bz;have cg:Cgt CC (dg a e (.frz n (.own e))) e:=⟨n,bz,N,λp' I=>by rw[hd]at I;cases I;exact⟨fs,y⟩,hn⟩;generalize dg a e (.frz n (.own e))=H2 at s2 y L eE cg;fail "gh";refine⟨rfl,Rh,?_,?_⟩
    .show V.bl (decide (V.ref e=V.Uo))=V.bl Rh;rw[a5 (λz=>nomatch z)]
    rw[ar Rg];fail "gh";refine⟨e,rfl,cg,λH3 s3=>?_⟩;fail "gh";have xf:∀(M:L2.St) (B:Hp) (S:VK),M[1]?=ax (ax (.ref e))->TC H2 B->S v B->L9.yl K (sE 1) "place" M B S:=λM B S z s4 hq=>⟨V.ref e,z,e,n,CC,m2,p,fs,v,rfl,s4 _ _ eE,N,hd,hn,LC,hhC,hpp,s4 _ _ y,hv,hq⟩;rw[ar (by decide)];fail "gh";rw[ak (by decide)];fail "gh";refine xf _ _ _ rfl s3 ?_;fail "gh";refine⟨mZ (show 3<=10000 by decide),λt ht=>?_⟩;have s6:TC H2 (dg H3 t (.tup [.int 1,v,.Uo])):=s3.trans (ce ht _);exact q _ _ (s2.trans s6) (.tup ⟨.inl (.inl bz),λz=>a7 (away H3 (s2.trans s3) t ht) (hO t z)⟩ (.cons (.int 1) (.cons (L3.DV.ev (L3.Ev.grow s6) L) (.cons .Uo .nil))))
  .have q:∀v C,TC H C->L3.DV O K C v (.tuple [.int 2,d,.none])->Q v C:=by
    have e:aW [b]=.ok (.fz (.tuple [.int 2,d,.none])):=by unfold aW;dsimp only;rw[J];dsimp only;rw[ar (by decide),ar (by decide),ak rfl,ak ⟨rfl,hd0⟩]
    rw[e]at j;exact j
   clear j;refine⟨_,(ag (bh (i:=1) bC.nd rfl (a8 rfl) cy)
    (ag (bh (i:=2) bC.nd rfl (a8 rfl) cy)
    (ag (L4.xl (i:=3) (E2:=λc dx a=>TC H a/\c=.ref CT/\∃p fs v,dx=ax p/\a p=ax (.xd fs)/\fs.lookup ("row":Str)=ax v/\L3.DV O K a v d) rfl bC.nd rfl rfl rfl hB xB bB rfl rfl
     (λl=>au (bh (i:=2) bC.nd rfl (a8 rfl) (qG ab2 rfl rfl rfl rfl rfl (L4.mF rfl) hr (aa (pv 0) ah))))
     (λl e=>au (bh (i:=1) bC.nd rfl (a8 rfl) (pv 3)))
     (λc dx a h=>⟨CT,m3,h.2.1,xT,upT⟩))
    (ag (bH (aK l8 (pv 1) cy (aQ _)) (au (aU (pv 2))) aN)
    (ag (bh (i:=4) bC.nd rfl (a8 rfl) (bj ad5 hr (aa (pv 1) ah)))
    (ag (bH (aK vE (pv 4) ao (aQ _)) (au eN) aN)
    (ag (bH (aK vE (pv 4) ao (aQ _)) (au eN) aN)
    (ag (bH (aK vE (pv 4) ao (aQ _)) (au (aU (eh (aa ao (aa (L9.tf (pv 1) rfl) (aa cy ah)))))) aN)
    (au eN))))))))),?_⟩
   fail "gh";unfold L4.Fz;refine⟨?_,λc dx a h2 G e n hl he N hd hn=>?_⟩
   .fail "gh"
    refine⟨rfl,O,[b],hO,.cons d0 .nil,?_⟩;rw[J];rintro c dx C s' ⟨⟨a',e1,e2⟩,fs,g2,g3⟩;obtain⟨nn,v,k1,k2⟩:=g3 "row" d rfl;have e3:=nT.symm.trans e2;cases e3;cases dx with
    |none=>exact a7 rfl nn
    |some p=>exact⟨s',e1,p,fs,v,rfl,g2 p rfl,k1,k2⟩
   .obtain⟨Z,Y,X,U,T,rfl⟩:∃Z Y X U T,G=[Z,Y,X,U,T]:=by
     match G,hl with
     |[Z,Y,X,U,T],_=>exact⟨Z,Y,X,U,T,rfl⟩
    obtain⟨s1,rfl,p,fs,v,rfl,hx,hv,R⟩:=h2;have r:TC a (dg a e (.frz n (.own e))):=ce he _;have s2:TC H (dg a e (.frz n (.own e))):=s1.trans r;have y:=r _ _ hx;have L:L3.DV O K (dg a e (.frz n (.own e))) v d:=L3.DV.ev (L3.Ev.grow r) R;have eE:(dg a e (.frz n (.own e))) e=ax (.frz n (.own e)):=bz;have cg:Cgt CT (dg a e (.frz n (.own e))) e:=⟨n,bz,N,λp' I=>by rw[hd]at I;cases I;exact⟨fs,y⟩,hn⟩;generalize dg a e (.frz n (.own e))=H2 at s2 y L eE cg;fail "gh";refine⟨rfl,Rh,?_,?_⟩
    .show V.bl (decide (V.ref e=V.Uo))=V.bl Rh;rw[a5 (λz=>nomatch z)]
    rw[ar Rg];fail "gh";refine⟨e,rfl,cg,λH3 s3=>?_⟩;fail "gh";have xf:∀(M:L2.St) (B:Hp) (S:VK),M[1]?=ax (ax (.ref e))->TC H2 B->S v B->L9.yl K (sE 1) "row" M B S:=λM B S z s4 hq=>⟨V.ref e,z,e,n,CT,m3,p,fs,v,rfl,s4 _ _ eE,N,hd,hn,LT,hhT,hpr,s4 _ _ y,hv,hq⟩;rw[ar (by decide)];fail "gh";rw[ar (by decide)];fail "gh";rw[ak (by decide)];fail "gh";refine xf _ _ _ rfl s3 ?_;fail "gh";refine⟨mZ (show 3<=10000 by decide),λt ht=>?_⟩;have s6:TC H2 (dg H3 t (.tup [.int 2,v,.Uo])):=s3.trans (ce ht _);exact q _ _ (s2.trans s6) (.tup ⟨.inl (.inl bz),λz=>a7 (away H3 (s2.trans s3) t ht) (hO t z)⟩ (.cons (.int 2) (.cons (L3.DV.ev (L3.Ev.grow s6) L) (.cons .Uo .nil))))
end
end K24
theorem QV{α:Type}:∀{l:cM α},l.length=1->∃a,l=[a]
 |[a],_=>⟨a,rfl⟩
theorem QU{α:Type}:∀{l:cM α},l.length=2->∃a b,l=[a,b]
 |[a,b],_=>⟨a,b,rfl⟩
theorem QT{α:Type}:∀{l:cM α},l.length=3->∃a b c,l=[a,b,c]
 |[a,b,c],_=>⟨a,b,c,rfl⟩
local macro_rules| `(tactic|fail "ba")=> `(tactic|(intro _ _ _ _ _ _ us hl;first|(obtain⟨_,h⟩:=QV hl;subst h;rfl)|(obtain⟨_,_,h⟩:=QU hl;subst h;rfl)|(obtain⟨_,_,_,h⟩:=QT hl;subst h;rfl)|(match us,hl with|[_,_,_,_],_=>rfl)|(match us,hl with|[_,_,_,_,_],_=>rfl)|(match us,hl with|[],_=>rfl)))| `(tactic|fail "fl")=> `(tactic|first|exact List.forall_mem_nil _|(refine List.forall_mem_cons.mpr ⟨?_,?_⟩;(·(show RI _ _ _=_;k_is));fail "fl"))| `(tactic|fail "ki")=> `(tactic|first|(refine' L3.NI.mk ?a' ⟨_,L2.Fh ?b' ?c' ?d'⟩;(case a'=>k_is);(case b'=>k_is);(case c'=>k_is);(case d'=>k_is))|(refine' L3.MI.mk ?a' ?e' ⟨_,L2.Fh ?b' ?c' ?d'⟩;(case a'=>k_is);(case e'=>k_is);(case b'=>k_is);(case c'=>k_is);(case d'=>k_is))|(refine' L3.CI.mk ?a' ?b' ?c' ?d' ?e' ?f' ?g' ?i';(case a'=>k_is);(case b'=>k_is);(case c'=>k_is);(case d'=>k_is);(case e'=>k_is);(case f'=>k_is);(case g'=>k_is);(case i'=>fail "fl"))|k_is|k_exc|rfl|left|(rw[<-acR];rfl))
namespace K24
open PySem L2 L3
theorem all_mk{l:acD}{w:SG}{K:td}{h:Heap}{mg:Str->c5 Rf}{fa:Rq}
  {YC:Tok}
  {Xj:Tok}
  {Wv:Tok}
  {Ws:Tok}
  {Xv:Tok}
  {f0 f1 f2 f3 f4 f5 f6 f7 f8 f9 f10 f11 f12 f13 f14 f15 f16 f17 f18 f19 f20 f21 f22 f23 f24 f25 f26 f27 f28 f29 f30 f31 f32 f33 f34 f35 f36 f37 f38 f39 f40 L J I:Rq}
  {a Y c O Q S b R U T f:Rq} {mB:cM Rf}
  {nmR qR:Str} {NR:Rq} {bsR:cM Rf} {snR:cM Str} {ajM:cM Rf} {abR:Bool} {aku:c5 Bool} {ddR:c5 Rq} {k0R k1R k2R k3R k5R:c5 Rf}
  {nmS qS:Str} {NS:Rq} {bsS:cM Rf} {snS:cM Str} {akE:cM Rf} {abS:Bool} {ajz:c5 Bool} {ddS:c5 Rq} {k0S k1S k2S k3S k5S:c5 Rf}
  {nmT qT:Str} {NT:Rq} {bsT:cM Rf} {snT:cM Str} {ak7:cM Rf} {abT:Bool} {ajp:c5 Bool} {ddT:c5 Rq} {k0T k1T k2T k3T k5T:c5 Rf}
  {nmB qB:Str} {NB:Rq} {bsB:cM Rf} {hdB:Bool} {snB:cM Str} {subB:cM Rf} {abB:Bool} {ala:c5 Bool} {ddB:c5 Rq} {k0B k1B k2B k3B k5B:c5 Rf} {idB:String}
  {ocR:Rf} {odR:c5 Rq} {esR:Array WJ} {nR:Nat} {slR:Array (c5 Rf)}
  {ocS:Rf} {odS:c5 Rq} {esS:Array WJ} {nS:Nat} {slS:Array (c5 Rf)}
  {ocT:Rf} {odT:c5 Rq} {esT:Array WJ} {nT:Nat} {slT:Array (c5 Rf)} (X:K.In h) (G:h.Ns RD mg) (hfa:mg "law"=ax (.ref fa))
  (h0:NI K f0 "_law_cell" (top 36))
  (h1:NI K f1 "_law_stirred" (top 37))
  (h2:NI K f2 "_law_stream" (top 39))
  (h3:NI K f3 "_law_letter" (top 41))
  (h4:NI K f4 "_law_meaning_of" (top 43))
  (h5:NI K f5 "_law_read_bed" (top 44))
  (h6:NI K f6 "_law_wide" (top 38))
  (h7:NI K f7 "_law_meaning" (top 42))
  (h8:NI K f8 "_law_bed" (top 45))
  (h9:NI K f9 "_law_word" (top 52))
  (h10:NI K f10 "_law_text" (top 53))
  (h11:NI K f11 "_law_changed" (top 54))
  (h12:NI K f12 "_law_figures" (top 55))
  (h13:NI K f13 "_law_is_letter" (top 47))
  (h14:NI K f14 "_law_meant" (top 56))
  (h15:NI K f15 "_law_row" (top 57))
  (h16:NI K f16 "_law_reading" (top 58))
  (h17:NI K f17 "_law_means" (top 48))
  (h18:NI K f18 "_law_chord_good" (top 49))
  (h19:NI K f19 "_law_due" (top 50))
  (h20:NI K f20 "read_number" (top 34))
  (h21:NI K f21 "all_read" (top 31))
  (h22:NI K f22 "read_numbers" (top 28))
  (h23:NI K f23 "is_letter" (top 24))
  (h24:NI K f24 "read_meaning" (top 32))
  (h25:NI K f25 "read_layer" (top 29))
  (h26:NI K f26 "read_parted" (top 33))
  (h27:NI K f27 "read_chord" (top 30))
  (h28:NI K f28 "check_numbers" (top 18))
  (h29:NI K f29 "may_mean" (top 20))
  (h30:NI K f30 "check_layer" (top 19))
  (h31:NI K f31 "rises" (top 23))
  (h32:NI K f32 "is_chord_set" (top 22))
  (h33:NI K f33 "check_chord" (top 21))
  (h34:NI K f34 "checked" (top 17))
  (h35:NI K f35 "read_bed" (top 27))
  (h36:NI K f36 "_law_whole" (top 40))
  (n:NI K f37 "_law_like" (top 51))
  (E:NI K f38 "_law_kind" (top 46))
  (h39:NI K f39 "_law_told" (top 59))
  (h40:NI K f40 "law" (top 60))
  (Yh:RG K RD "NoBed"=ax (ax (.ref a)))
  (abp:RG K RD "NoFrame"=ax (ax (.ref Y)))
  (X2:RG K RD "NoChord"=ax (ax (.ref c)))
  (aaq:RG K RD "NoReading"=ax (ax (.ref T)))
  (acu:RG K RD "NoKeys"=ax (ax (.ref Q)))
  (acW:RG K RD "NoRow"=ax (ax (.ref S)))
  (Yy:RG K RD "NoText"=ax (ax (.ref b)))
  (acj:RG K RD "NoWord"=ax (ax (.ref R)))
  (abv:RG K RD "TooMany"=ax (ax (.ref U)))
  (acf:RG K RD "NoBook"=ax (ax (.ref O)))
  (aa1:RG K RD "BedError"=ax (ax (.ref f)))
  (xR:K.lookup a=ax (excClassObj nmR qR a NR bsR (.ref f::[.type "ValueError",.type "Exception",.type "BaseException",.type "object"]) OK snR ajM abR aku ddR k0R k1R k2R k3R k5R "ValueError.__new__"))
  (xS:K.lookup c=ax (excClassObj nmS qS c NS bsS (.ref f::[.type "ValueError",.type "Exception",.type "BaseException",.type "object"]) OK snS akE abS ajz ddS k0S k1S k2S k3S k5S "ValueError.__new__"))
  (xB:K.lookup f=ax (excClassObj nmB qB f NB bsB mB hdB snB subB abB ala ddB k0B k1B k2B k3B k5B idB))
  (eI:XN K f [.type "ValueError",.type "Exception",.type "BaseException",.type "object"] "ValueError.__new__"=OK)
  (beB:mB.contains (.type "BaseException")=OK)
  (gaR:RI K (.ref a) "__getattribute__"=ax (ax (.builtin "BaseException.__getattribute__")))
  (gtR:RI K (.ref a) "__getattr__"=ax cL)
  (csR:RI K (.ref a) "__class__"=ax (ax (.builtin "object.__class__")))
  (obR:XM K a (.type "object")=ax OK)
  (m:RK K (.ref a) (.ref a)=ax OK)
  (svR:RK K (.ref a) (.type "ValueError")=ax OK)
  (aaY:RK K (.ref a) (.ref c)=ax Rh)
  (abz:RK K (.ref a) (.ref b)=ax Rh)
  (abH:RK K (.ref a) (.ref O)=ax Rh)
  (abK:RK K (.ref a) (.ref R)=ax Rh)
  (aa3:RK K (.ref a) (.ref Y)=ax Rh)
  (ZT:RK K (.ref a) (.ref T)=ax Rh)
  (aaU:RK K (.ref a) (.ref U)=ax Rh)
  (abn:RK K (.ref a) (.ref Q)=ax Rh)
  (acm:RK K (.ref a) (.ref S)=ax Rh)
  (lR:K.lookup NR=ax ⟨ocR,odR,.dict esR nR,slR⟩)
  (B:(esR.all λe=>match e.key with|.str _ _=>OK|_=>Rh)=OK)
  (inR:RG K NR "__init__"=ax (ax (.ref L)))
  (saR:RI K (.ref a) "__setattr__"=ax (ax (.builtin "object.__setattr__")))
  (hdR:T7 K a=OK)
  (aaW:RI K (.ref a) "layer"=ax cL)
  (acS:RI K (.ref a) "key"=ax cL)
  (gaS:RI K (.ref c) "__getattribute__"=ax (ax (.builtin "BaseException.__getattribute__")))
  (gtS:RI K (.ref c) "__getattr__"=ax cL)
  (csS:RI K (.ref c) "__class__"=ax (ax (.builtin "object.__class__")))
  (obS:XM K c (.type "object")=ax OK)
  (k:RK K (.ref c) (.ref c)=ax OK)
  (svS:RK K (.ref c) (.type "ValueError")=ax OK)
  (acn:RK K (.ref c) (.ref a)=ax Rh)
  (abr:RK K (.ref c) (.ref b)=ax Rh)
  (abu:RK K (.ref c) (.ref O)=ax Rh)
  (abw:RK K (.ref c) (.ref R)=ax Rh)
  (aaT:RK K (.ref c) (.ref Y)=ax Rh)
  (ZR:RK K (.ref c) (.ref T)=ax Rh)
  (aaM:RK K (.ref c) (.ref U)=ax Rh)
  (abC:RK K (.ref c) (.ref Q)=ax Rh)
  (ack:RK K (.ref c) (.ref S)=ax Rh)
  (lS:K.lookup NS=ax ⟨ocS,odS,.dict esS nS,slS⟩)
  (N6:(esS.all λe=>match e.key with|.str _ _=>OK|_=>Rh)=OK)
  (MA:RG K NS "__init__"=ax (ax (.ref J)))
  (saS:RI K (.ref c) "__setattr__"=ax (ax (.builtin "object.__setattr__")))
  (hdS:T7 K c=OK)
  (aaL:RI K (.ref c) "place"=ax cL)
  (xT:K.lookup b=ax (excClassObj nmT qT b NT bsT (.ref f::[.type "ValueError",.type "Exception",.type "BaseException",.type "object"]) OK snT ak7 abT ajp ddT k0T k1T k2T k3T k5T "ValueError.__new__"))
  (gaT:RI K (.ref b) "__getattribute__"=ax (ax (.builtin "BaseException.__getattribute__")))
  (gtT:RI K (.ref b) "__getattr__"=ax cL)
  (csT:RI K (.ref b) "__class__"=ax (ax (.builtin "object.__class__")))
  (obT:XM K b (.type "object")=ax OK)
  (g:RK K (.ref b) (.ref b)=ax OK)
  (svT:RK K (.ref b) (.type "ValueError")=ax OK)
  (aca:RK K (.ref b) (.ref a)=ax Rh)
  (aa4:RK K (.ref b) (.ref c)=ax Rh)
  (abJ:RK K (.ref b) (.ref O)=ax Rh)
  (abq:RK K (.ref b) (.ref R)=ax Rh)
  (aaX:RK K (.ref b) (.ref Y)=ax Rh)
  (ZS:RK K (.ref b) (.ref T)=ax Rh)
  (aaQ:RK K (.ref b) (.ref U)=ax Rh)
  (abL:RK K (.ref b) (.ref Q)=ax Rh)
  (acr:RK K (.ref b) (.ref S)=ax Rh)
  (lT:K.lookup NT=ax ⟨ocT,odT,.dict esT nT,slT⟩)
  (A:(esT.all λe=>match e.key with|.str _ _=>OK|_=>Rh)=OK)
  (inT:RG K NT "__init__"=ax (ax (.ref I)))
  (saT:RI K (.ref b) "__setattr__"=ax (ax (.builtin "object.__setattr__")))
  (hdT:T7 K b=OK)
  (adf:RI K (.ref b) "row"=ax cL)
  (aaZ:Ts K a=OK)
  (aaS:Td K (.ref a)=ax (.type "type"))
  (Zl:Ts K c=OK)
  (Zt:Td K (.ref c)=ax (.type "type"))
  (Z6:Ts K b=OK)
  (Z9:Td K (.ref b)=ax (.type "type"))
  (YM:Ts K O=OK)
  (Yz:Td K (.ref O)=ax (.type "type"))
  (YL:Ts K R=OK)
  (YK:Td K (.ref R)=ax (.type "type"))
  (X7:Ts K Y=OK)
  (X4:Td K (.ref Y)=ax (.type "type"))
  (WZ:Ts K T=OK)
  (W3:Td K (.ref T)=ax (.type "type"))
  (X6:Ts K U=OK)
  (X1:Td K (.ref U)=ax (.type "type"))
  (YI:Ts K Q=OK)
  (YD:Td K (.ref Q)=ax (.type "type"))
  (ZC:Ts K S=OK)
  (Zz:Td K (.ref S)=ax (.type "type"))
  (y:VP K f (.type "type")=OK)
  (H:VQ K (.ref f) (.type "type") "__init__"=ax (.val (.builtin "ValueError.__init__")))
  (u:Ur K (.ref f) "__getattribute__"=ax (ax (.builtin "type.__getattribute__")))
  (C:MI K a L "__init__" "NoBed.__init__" (ke (top 4) 0))
  (h42:MI K c J "__init__" "NoChord.__init__" (ke (top 5) 0))
  (h43:MI K b I "__init__" "NoText.__init__" (ke (top 6) 0))
  (abE:RG K RD "FIGURES"=ax (ax (.str "0123456789" YC)))
  (aap:RG K RD "MOST_KEYS"=ax (ax (.int 5 Xj)))
  (Zy:RG K RD "MOST_LAYERS"=ax (ax (.int 3 Wv)))
  (Zu:RG K RD "MOST_CHORDS"=ax (ax (.int 4 Ws)))
  (aan:RG K RD "MOST_WAIT"=ax (ax (.int 4 Xv)))
  (y0:RG K RD "max"=ax cL)
  (y1:RG K RD "range"=ax cL)
  (y2:RG K RD "tuple"=ax cL)
  (y3:RG K RD "len"=ax cL)
  (y4:RG K RD "int"=ax cL)
  (y5:RG K RD "str"=ax cL)
  (y6:RG K RD "all"=ax cL)
  (y7:RG K RD "list"=ax cL)
  (y8:RG K RD "sorted"=ax cL)
  (y9:RG K RD "set"=ax cL)
  (y10:RG K RD "enumerate"=ax cL)
  (y11:RG K RD "zip"=ax cL)
  (y12:RG K RD "isinstance"=ax cL)
  (y13:RG K RD "bool"=ax cL)
  (y14:RG K RD "ValueError"=ax cL):
  ∃fd:S5,(∀(s:Ro) (v:Rf),YO s fd ⟨[v],[]⟩ [("_law_script",v)])/\∀base:Heap,K.In base->base.Ns RD mg->FnOk l.prog w K mg base fF 8 fa fd ["_law_script"] (L3.iA K 1 F_law):=by
 have Xk:=Sx X G y0;have N:=Sx X G y1;have p:=Sx X G y2;have d:=Sx X G y3;have Wd:=Sx X G y4;have t:=Sx X G y5;have q:=Sx X G y6;have abA:=Sx X G y7;have ZA:=Sx X G y8;have adi:=Sx X G y9;have Vj:=Sx X G y10;have M:=Sx X G y11;have r:=Sx X G y12;have abl:=Sx X G y13;have Vu:=Sx X G y14;have YG:=SK X G abE;have Xr:=SK X G aap;have Wt:=SK X G Zy;have Wq:=SK X G Zu;have Xm:=SK X G aan;refine h40.law X G hfa (by fail "ba") λbase fd aeI=>?_;have Uv:=h0.Wr (P:=l.prog) (w:=w) (mg:=mg) (base:=base) X G (by fail "ba") λ_ z=>xn z;have Vt:=h1.Wr (P:=l.prog) (w:=w) (mg:=mg) (base:=base) X G (by fail "ba") λ_ z=>sN z;have XU:=h2.Wr (P:=l.prog) (w:=w) (mg:=mg) (base:=base) X G (by fail "ba") λ_ z=>tU z Vt Xk N;have TZ:=h3.Wr (P:=l.prog) (w:=w) (mg:=mg) (base:=base) X G (by fail "ba") λ_ z=>uM z;have Vv:=h4.Wr (P:=l.prog) (w:=w) (mg:=mg) (base:=base) X G (by fail "ba") λ_ z=>pJ z TZ Xk;have W7:=h5.Wr (P:=l.prog) (w:=w) (mg:=mg) (base:=base) X G (by fail "ba") λ_ z=>sf z Vv TZ N p d;have Uu:=h6.Wr (P:=l.prog) (w:=w) (mg:=mg) (base:=base) X G (by fail "ba") λ_ z=>wP z Vt Xk;have V8:=h7.Wr (P:=l.prog) (w:=w) (mg:=mg) (base:=base) X G (by fail "ba") λ_ z=>sU z TZ Xk;have XY:=h8.Wr (P:=l.prog) (w:=w) (mg:=mg) (base:=base) X G (by fail "ba") λ_ z=>x6 z Uv XU W7 Uu V8 TZ Wd N p d;have Xi:=h9.Wr (P:=l.prog) (w:=w) (mg:=mg) (base:=base) X G (by fail "ba") λ_ z=>xh z t;have Xw:=h10.Wr (P:=l.prog) (w:=w) (mg:=mg) (base:=base) X G (by fail "ba") λ_ z=>xi z Xi t;have V7:=h11.Wr (P:=l.prog) (w:=w) (mg:=mg) (base:=base) X G (by fail "ba") λ_ z=>sK z d;have TH:=h12.Wr (P:=l.prog) (w:=w) (mg:=mg) (base:=base) X G (by fail "ba") λ_ z=>sQ z d q Wd;have SU:=h13.Wr (P:=l.prog) (w:=w) (mg:=mg) (base:=base) X G (by fail "ba") λ_ z=>qJ z d;have WW:=h14.Wr (P:=l.prog) (w:=w) (mg:=mg) (base:=base) X G (by fail "ba") λ_ z=>vd z SU TH Wd Xk;have W0:=h15.Wr (P:=l.prog) (w:=w) (mg:=mg) (base:=base) X G (by fail "ba") λ_ z=>yV z TH WW SU d p;have Wb:=h16.Wr (P:=l.prog) (w:=w) (mg:=mg) (base:=base) X G (by fail "ba") λ_ z=>sL z W0 N d p;have Yi:=h17.Wr (P:=l.prog) (w:=w) (mg:=mg) (base:=base) X G (by fail "ba") λ_ z=>vw z SU;have Wk:=h18.Wr (P:=l.prog) (w:=w) (mg:=mg) (base:=base) X G (by fail "ba") λ_ z=>pi z SU d abA ZA adi q;have X3:=h19.Wr (P:=l.prog) (w:=w) (mg:=mg) (base:=base) X G (by fail "ba") λ_ z=>zd z Yi Wk d N;have TF:=h20.Wr (P:=l.prog) (w:=w) (mg:=mg) (base:=base) X G (by fail "ba") λ_ z=>uj z d q Wd YG;have TX:=h21.Wr (P:=l.prog) (w:=w) (mg:=mg) (base:=base) X G (by fail "ba") λ_ z=>zt z p;have V3:=h22.Wr (P:=l.prog) (w:=w) (mg:=mg) (base:=base) X G (by fail "ba") λ_ z=>sJ z TF TX d;have T4:=h23.Wr (P:=l.prog) (w:=w) (mg:=mg) (base:=base) X G (by fail "ba") λ_ z=>xP z d;have V5:=h24.Wr (P:=l.prog) (w:=w) (mg:=mg) (base:=base) X G (by fail "ba") λ_ z=>sX z T4 TF TX;have W4:=h25.Wr (P:=l.prog) (w:=w) (mg:=mg) (base:=base) X G (by fail "ba") λ_ z=>vp z V5 TX d;have XQ:=h26.Wr (P:=l.prog) (w:=w) (mg:=mg) (base:=base) X G (by fail "ba") λ_ z=>u7 z TF TX;have WY:=h27.Wr (P:=l.prog) (w:=w) (mg:=mg) (base:=base) X G (by fail "ba") λ_ z=>vg z T4 XQ d;have XZ:=h29.Wr (P:=l.prog) (w:=w) (mg:=mg) (base:=base) X G (by fail "ba") λ_ z=>yL z T4;have abW:=h31.Wr (P:=l.prog) (w:=w) (mg:=mg) (base:=base) X G (by fail "ba") λ_ z=>F1 z q M;have V4:=h32.Wr (P:=l.prog) (w:=w) (mg:=mg) (base:=base) X G (by fail "ba") λ_ z=>sS z abW d q;have Z:=h36.Wr (P:=l.prog) (w:=w) (mg:=mg) (base:=base) X G (by fail "ba") λ_ z=>vq z r Wd abl;have o:L3.cQ l.prog w K mg base 1 "_law_like" ["_law_found","_law_due_here"] 2 jD:=n.Wr X G (by fail "ba") λ_ _=>L3.Ls rfl;have o:L3.cQ l.prog w K mg base 2 "_law_like" ["_law_found","_law_due_here"] 2 gr:=n.Wr X G (by fail "ba") λ_ z=>uA z Z r p d q M t o;have o:L3.cQ l.prog w K mg base 3 "_law_like" ["_law_found","_law_due_here"] 2 gm:=n.Wr X G (by fail "ba") λ_ z=>uw z Z r p d q M t o;have o:L3.cQ l.prog w K mg base 4 "_law_like" ["_law_found","_law_due_here"] 2 gu:=n.Wr X G (by fail "ba") λ_ z=>uX z Z r p d q M t o;have o:L3.cQ l.prog w K mg base 5 "_law_like" ["_law_found","_law_due_here"] 2 gp:=n.Wr X G (by fail "ba") λ_ z=>ud z Z r p d q M t o;have o:L3.cQ l.prog w K mg base 6 "_law_like" ["_law_found","_law_due_here"] 2 gs:=n.Wr X G (by fail "ba") λ_ z=>u6 z Z r p d q M t o;have o:L3.cQ l.prog w K mg base 7 "_law_like" ["_law_found","_law_due_here"] 2 b5:=n.Wr X G (by fail "ba") λ_ z=>uU z Z r p d q M t o;have B:UY K NR=OK:=by unfold UY;rw[lR];exact B
 have XR:L4.nz K a (.ref f::[.type "ValueError",.type "Exception",.type "BaseException",.type "object"]):=⟨_,_,_,_,_,_,_,_,_,_,_,_,_,_,_,_,xR⟩;have LR:L4.VT K a (.ref f::[.type "ValueError",.type "Exception",.type "BaseException",.type "object"]):=⟨XR,rfl,gaR,gtR,csR,obR⟩;have YR:L9.XC K a f L:=⟨⟨_,_,_,_,_,_,_,_,_,_,_,_,_,_,xR,B,inR⟩,eI,saR⟩;have N6:UY K NS=OK:=by unfold UY;rw[lS];exact N6
 have XS:L4.nz K c (.ref f::[.type "ValueError",.type "Exception",.type "BaseException",.type "object"]):=⟨_,_,_,_,_,_,_,_,_,_,_,_,_,_,_,_,xS⟩;have LS:L4.VT K c (.ref f::[.type "ValueError",.type "Exception",.type "BaseException",.type "object"]):=⟨XS,rfl,gaS,gtS,csS,obS⟩;have YS:L9.XC K c f J:=⟨⟨_,_,_,_,_,_,_,_,_,_,_,_,_,_,xS,N6,MA⟩,eI,saS⟩;have A:UY K NT=OK:=by unfold UY;rw[lT];exact A
 have XT:L4.nz K b (.ref f::[.type "ValueError",.type "Exception",.type "BaseException",.type "object"]):=⟨_,_,_,_,_,_,_,_,_,_,_,_,_,_,_,_,xT⟩;have LT:L4.VT K b (.ref f::[.type "ValueError",.type "Exception",.type "BaseException",.type "object"]):=⟨XT,rfl,gaT,gtT,csT,obT⟩;have YT:L9.XC K b f I:=⟨⟨_,_,_,_,_,_,_,_,_,_,_,_,_,_,xT,A,inT⟩,eI,saT⟩;have XB:L4.nz K f mB:=⟨_,_,_,_,_,_,_,_,_,_,_,_,_,_,_,_,xB⟩;have W2:=SK X G Yh;have V0:=SK X G X2;have WG:=SK X G Yy;have Xs:=SK X G acf;have Xp:=SK X G acj;have WI:=SK X G abp;have VH:=SK X G aaq;have WE:=SK X G abv;have Xo:=SK X G acu;have Ym:=SK X G acW;have WT:=SK X G aa1;have adG:qX l.prog w K mg base 1 "_law_kind" ["_law_e"] (mo a 0):=E.Wr (P:=l.prog) (w:=w) (mg:=mg) (base:=base) X G (by fail "ba") λ_ z=>xu (j:=0) (by decide) z LR W2 V0 WG Xs Xp WI VH WE Xo Ym (ua _) (dS m Zl Zt aaY) (dS m Z6 Z9 abz) (dS m YM Yz abH) (dS m YL YK abK) (dS m X7 X4 aa3) (dS m WZ W3 ZT) (dS m X6 X1 aaU) (dS m YI YD abn) (dS m ZC Zz acm) (Aa svR) r Vu;have aea:qX l.prog w K mg base 1 "_law_kind" ["_law_e"] (mo c 1):=E.Wr (P:=l.prog) (w:=w) (mg:=mg) (base:=base) X G (by fail "ba") λ_ z=>xu (j:=1) (by decide) z LS W2 V0 WG Xs Xp WI VH WE Xo Ym (dS k aaZ aaS acn) (ua _) (dS k Z6 Z9 abr) (dS k YM Yz abu) (dS k YL YK abw) (dS k X7 X4 aaT) (dS k WZ W3 ZR) (dS k X6 X1 aaM) (dS k YI YD abC) (dS k ZC Zz ack) (Aa svS) r Vu;have ad0:qX l.prog w K mg base 1 "_law_kind" ["_law_e"] (mo b 2):=E.Wr (P:=l.prog) (w:=w) (mg:=mg) (base:=base) X G (by fail "ba") λ_ z=>xu (j:=2) (by decide) z LT W2 V0 WG Xs Xp WI VH WE Xo Ym (dS g aaZ aaS aca) (dS g Zl Zt aa4) (ua _) (dS g YM Yz abJ) (dS g YL YK abq) (dS g X7 X4 aaX) (dS g WZ W3 ZS) (dS g X6 X1 aaQ) (dS g YI YD abL) (dS g ZC Zz acr) (Aa svT) r Vu;obtain⟨fdR,zR⟩:=C.F;obtain⟨_,_,_,_,_,_,_,_,_,rfl,lIR,_⟩:=zR.ex;have oR:=yY (P:=l.prog) (w:=w) (mg:=mg) (base:=base) zR YR WT y H u aaW acS;obtain⟨fdS,zS⟩:=h42.F;obtain⟨_,_,_,_,_,_,_,_,_,rfl,lIS,_⟩:=zS.ex;have oS:=CM (P:=l.prog) (w:=w) (mg:=mg) (base:=base) zS YS WT y H u aaL;obtain⟨fdT,zT⟩:=h43.F;obtain⟨_,_,_,_,_,_,_,_,_,rfl,lIT,_⟩:=zT.ex;have oT:=C1 (P:=l.prog) (w:=w) (mg:=mg) (base:=base) zT YT WT y H u adf;have VS:L4.rH l.prog w K mg base 3 "check_numbers" ["bed"] 1 dM:=h28.acT (P:=l.prog) (w:=w) (mg:=mg) (base:=base) X G (by fail "ba") λ_ z=>rB z YR lIR C.i oR (zR.binds (by fail "ba")) Yh W2 d Xr Wt Wq Xm;have Ww:L4.rH l.prog w K mg base 3 "check_layer" ["bed","layer"] 2 dY:=h30.acT (P:=l.prog) (w:=w) (mg:=mg) (base:=base) X G (by fail "ba") λ_ z=>sZ z YR lIR C.i oR (zR.binds (by fail "ba")) Yh W2 XZ d Vj;have Wu:L4.rH l.prog w K mg base 3 "check_chord" ["bed","place"] 2 fP:=h33.acT (P:=l.prog) (w:=w) (mg:=mg) (base:=base) X G (by fail "ba") λ_ z=>sR z YS lIS h42.i oS (zS.binds (by fail "ba")) X2 V0 T4 V4;have YJ:L4.rH l.prog w K mg base 4 "checked" ["bed"] 1 dR:=h34.acT (P:=l.prog) (w:=w) (mg:=mg) (base:=base) X G (by fail "ba") λ_ z=>yT z VS Ww Wu N d;have abF:L4.rH l.prog w K mg base 5 "read_bed" ["text"] 1 cR:=h35.acT (P:=l.prog) (w:=w) (mg:=mg) (base:=base) X G (by fail "ba") λ_ z=>wU z YT lIT h43.i oT (zT.binds (by fail "ba")) Yy WG V3 W4 WY YJ Vj p;have Vi:L3.cQ l.prog w K mg base 7 "_law_told" ["_law_text_here"] 1 aW:=h39.Wr (P:=l.prog) (w:=w) (mg:=mg) (base:=base) X G (by fail "ba") λ_ z=>HP z adG aea ad0 abF WT XB beB XR (by rw[Tx,Tx,fo,Ux,Uy]) Yh LR hdR aaW acS XS (by rw[Tx,Tx,fo,Ux,Uy]) X2 LS hdS aaL XT (by rw[Tx,Tx,fo,Ux,Uy]) Yy LT hdT adf;exact Lz aeI XY Xw Uv Uu V7 Wb X3 Vi o N d
end K24
inductive PySem.W.Fast|tw12371373566758817112|tw6489937921417483623|tw3526992631031890626|tw15826867140908915123|tw10856232184735549030|tw5535212600907765019|tw3303143760482696511|tw13992858056630529316|tw16396762431614898157|tw665927289885281753|tw8336505945049950216|tw5189053139958974296|tw18272984126115927142|tw5822284138800034710|tw7781185995128542349|tw13090534742125528243|tw9621412089807556165|tw15118660722470706421|tw6819180015291559655|tw3034782650716450337|tw439866523634587871|tw3048742735154952323|tw2994051865726872420|tw9611636261581487492|tw6462855443109292686|tw16036568345701007506|tw14876479290509354245|tw3161248608652639771|tw17505766447805106524|tw15344463538380637687|tw4649140627574277409|tw11663287352029438178|tw18122514057910309626|tw14398584466199399995|tw11969886011181743187|tw17173904081643509898|tw11669277101982264690|tw8841629411567518723|tw19944762111557342|tw5172094247009101642|tw14755943443303571969|tw1270385843426025954|tw18419795816359190098|tw16878361383394660339|tw16238043998169127546|tw169042500926248146|tw7376768520121641479|tw11079559538908666742|tw13367118046375920004|tw14974060523765990015|tw13056611555344614656|tw13000960231995899063|tw3079704578976871285|tw11891275978571467017|tw4563923741980237315|tw1108133906988571240|tw8781221220084735515|tw5935926881409868527|tw4750620773021686908|tw18392626185406369950|tw866455691319834317|tw8063815996830418971|tw15703791690101476013|tw11091094317314790213|tw17262700193728423756|tw3037008980582111846|tw17612111628957098497|tw11601861394385919851|tw17271915729296793640|tw10655358240277840245|tw7581383126076716032|tw9025109687841899031|tw11016433983592028191|tw16922521896150189367|tw9631684451868708892|tw8730229130559988960|tw6613551677120239547|tw15137645074806009472|tw16539775771919285997|tw4494918963186768100|tw18180667664671839892|tw2131500972752595558|tw14426548098589138978|tw14037496027416668176|tw3594715392902516003|tw17035263558309701591|tw1836952289048955163|tw15285716219895763367|tw4971281771625777628|tw5388804509200642330|tw14072332686971215152|tw6500633523337679462|tw6515207750939734254|tw2486588632742996809|tw6155278152357792121|tw12197662647371963177|tw4956830700114925443|tw10760919340056781850|tw16860486976742989803|tw3835975055433292155|tw17063312308980394734|tw16134978572092456275|tw11704129059279288279|tw822836965468004001|tw526124882734425356|tw1249534216285115309
open PySem PySem.W PyProof.Rows
set_option maxRecDepth 100000 in
set_option maxHeartbeats 0 in
theorem PySem.Challenge.cw_chordbed_k24_whole_beds_read_holds : PySem.Challenge.rw_chordbed_k24_whole_beds_read.Holds := by
 w_on;o_law;k_head;(case hw=>w_witness2)
 k_fill
 refine L3.MH (l:=PySem.Challenge.rw_chordbed_k24_whole_beds_read) (n:=63) (k:=8) (x:= "_law_script") (F:=K24.F_law) rfl (by decide) rfl ⟨rfl,by decide,by decide⟩ (λw h Y=>PySem.W.kIn_of Y) ?F K24.main
 case F=>
  intro w c d h b G a
  apply K24.all_mk b G a
  all_goals fail "ki"
