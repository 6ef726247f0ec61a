import PyProof.Rows.All
import Wide.All
import OpenK.AllK
import Wide.FinOn
import Lean
import PyProof.EqAt
import PyProof.EqKinds
import PyProof.TupleCall
import KE.KIntText
import KE.KRevSl
import PyProof.Rows.SeqMore
import PyProof.WalkInts
import PyProof.Rows.MinMaxN
import PyProof.ExcInit
import OpenK.KMake
import PyProof.InstStoreFacts
import PyProof.FString2
import PyProof.Rows.FStr
import PyProof.Rows.SetFrom
import PyProof.SeqRoads2
import PyProof.RangeFor
import PyProof.WalksMore
import PyProof.StrBlock2
import PyProof.Rows.SortShell
import PyProof.TupleOfSeq
import KE.KDictList
import KE.KDictOf
import PyProof.IsiH_tuple
import PyProof.Rows.RuleN_abs
import PyProof.Rows.Range3
import KE.KRevIter
import PyProof.StrLawsRepr
import PyProof.ReprStr
import PyProof.IsiH_list
import PyProof.Rows.TupDisplay
import PyProof.SetKind
import PyProof.SetScanFacts
import PyProof.CollectIter
import PyProof.Rows.SortStr
import PySem.Challenge.RW_chordbed_k24_whole_beds_read
set_option compiler.extract_closed false
set_option genSizeOf false
set_option genInjectivity false
set_option Elab.async false
set_option linter.all false
set_option maxRecDepth 100000
abbrev ak:=@if_pos
abbrev ar:=@if_neg
abbrev a4:=@decide_eq_true
abbrev a5:=@decide_eq_false
abbrev a6:=@of_decide_eq_true
abbrev a7:=@absurd
abbrev a8:=@Or.inl
abbrev ck:=@List
abbrev cv:=@Option
abbrev cM:=@PySem.Heap.get?_push_of_some
abbrev c5:=@PySem.Heap.lt_size
abbrev c6:=@PySem.Heap.get?_push_size
abbrev dt:=@PySem.Heap.get?_update_other
abbrev dN:=@PySem.Heap.get?_update_self
abbrev d4:=@PySem.Heap.size_push
abbrev ea:=@PySem.Heap.get?_none_of_le
abbrev ec:=@PySem.Obj.data_mapFields
abbrev ek:=@PySem.Obj.isFreed_of_fields
abbrev en:=@Ne.symm
abbrev ey:=@congrArg
abbrev ez:=@beq_self_eq_true
local macro_rules|`(tactic|left)=>`(tactic|decide+kernel)|`(tactic|change $e)=>`(tactic|with_reducible exact $e)|`(tactic|specialize $e)=>`(tactic|with_reducible refine $e)
local macro_rules|`(def $i:declId $s:optDeclSig $v:declVal)=>`(noncomputable def $i:declId $s:optDeclSig $v:declVal)|`(abbrev $i:declId $s:optDeclSig $v:declVal)=>`(noncomputable abbrev $i:declId $s:optDeclSig $v:declVal)
local macro_rules|`(tactic|ext)=>`(tactic|omega)
local macro_rules|`(tactic|ext)=>`(tactic|lia)
open Option renaming some->ax,none->CL,bind_eq_some_iff->UG,map_eq_some_iff->U9,isSome_iff_exists->WJ,map_eq_none_iff->Yf,toList_some->YM,isNone_iff_eq_none->Z8,toList_none->ab6,getD_none->acR,bind_some->acV
open PySem.W renaming Frag->cL,findIn->T6,subIn->T7,nsIn->T9,kitOne->Uv,mg_of->UM,typeIn->U6,isClsIn->Vf,hasDictIn->VG,keepIn->VT,specialIn->VZ,nsOkIn->Wu,isFn->Wx,fnOf->Wy,kia_one->WK,cellsFrom_some->WU,InstAt->WX,excIn->W3,clsIn->W4,readsIn->Xe,findCls->Xf,codeIn->Yk,tailIn->Yn,mroIn->YA,methodObj->YQ,notCls->ZM,pyHash_slot->abl,tail_of_in->abC,plainOver->ab3,plainGet->ack,instObj->acN,makesIn->acQ,OpenLaw->acT,lookIn->ac5
open PySem renaming PyData->lD,wpAny_bind->OK,Value->Tw,Shared->TK,Addr->TM,wpAny_pure->TR,mainGlobals->T5,sizeLine->T8,NameKind->Ua,Expr->Ue,Program->Ug,starEach->Uh,Builtin->Um,Around->Ut,World->Ux,bootBuiltins->UK,wpAny_field->UL,FuncData->U3,compareOp->U8,codeAny_call_builtin->Vo,mem_of_lookup->Vq,wpAny_truthy_bool->Vv,wpAny_newObj_type->Vw,wpAny_callSpecial?_slot->VQ,wpAny_loadPart_at->VS,call_meets->VU,wpAny_standAt->VY,cellsFrom->V0,binaryOp->V2,wpAny_seqItems->V3,Scope->V5,intText?->V7,wpAny_pyIter_tuple->Wd,wpAny_call_entry->Wh,wpAny_setField->Wi,Stmt->Wo,wpAny_setField_rec->Wt,wpAny_holding->Wz,wpAny_pyIter_enum->WB,codeAny_mono->WN,wpAny_isSubtype_exc->WW,sizeLine_eq->W0,wpAny_getItem_str_slice->W2,ExcBaseFacts->Xd,DictEntry->Xr,Comprehension->Xz,wpAny_passesOwn->XJ,wpAny_loadPart'->XM,swapsWith->X1,typeIs_str->X5,wpAny_letOwnedTupleGo_enum->X6,Keyword->Yi,GenState->Yv,wpAny_call->YC,wpAny_execs_nil->YL,post_val_or_str->YN,IsPart->Y5,ReadsAll->Y7,wpAny_pyIter_list->Y8,wpAny_updateSeq_pair->Y9,refuseLoop_ref->Za,BindsTo->Zp,wpAny_onRaise->Zz,wpAny_Call_Name_kw->ZF,typeIs_int->ZH,JoinOk->ZL,wpAny_typeOf->Z1,Data->Z2,ZipApart->Z3,wpAny_Call_ofName->Z5,eqIsQuiet_byValue->Z7,plainObj_wpAny_Assign_Attribute->aan,Code->aat,Model->aaJ,wpAny_letGo->aaN,pushCells_keeps->aaT,codeAny_of_tree->aaU,OsState->abk,CmpOp->abr,fitsIndex_both->abt,IsEnum->abv,Reads->abw,wpAny_rule->aby,IsZip->abz,wpAny_loadPart->abA,wpAny_binaryOp_repeat_ref->ab5,wpAny_comprehension_free->acm,Drawn->acO,PassesOwn->acP,wpAny_pyNext_enum_itemD->acS,wpAny_pyNext_enum_endD->ac6,weight_type_call_type->adF,Operator->adO,sysModules->aez,Within->aeA,wpAny_Name->aeB,wpAny_Constant_int->aeC,Result->aeE,wpAny_assign_Name->afk,Walks->afl,wpAny_sequenceKey->afm,slot_list_getitem->afn,OwnTail->afp,wpAny_pyHash_int->afT,wpAny_pyHash_str->afU,wpAny_execs_cons->afV,noFill_tuple_add->af4,call->af5,wpAny_isInstance->af6,wpAny_pyIter_zip->af7,wpAny_lookBehind->agc,pastItsLine_dict->agd,beq_builtin_none->age,wpAny_stack_any->ahF,codeAny_builtin->ahG,intBits_le_64->akT,seq_tuple_add->akU,evalPart_none->akV,call_list_seq->akW,sub_enumerate->akX,wpAny_attempt->akY,strLen_append->akZ
open Bool renaming true->Ld,and_eq_true->Tu,false->Tx,false_ne_true->Tz,false_or->UJ,not_eq_true'->UX,and_self->U7,or_eq_true->Vt,eq_iff_iff->VN,or_true->V4,true_or->We,false_eq_true->WT,true_and->Xa,decide_and->Xo,eq_false_iff->XQ,false_and->Yz,or_eq_false_iff->YB,or_false->YU,and_true->YW,not_eq_false'->Y3,noConfusion->ZA,not_true->aaO
open List renaming length_map->Tv,mem_cons_self->TC,getElem?_eq_getElem->TF,mem_cons_of_mem->TH,length_cons->TJ,mem_cons->TL,getElem?_eq_some_iff->TN,getElem?_map->TU,mem_singleton->TX,not_mem_nil->TY,mem_map->TZ,replicate->T1,size_toArray->T3,length_append->T4,map_cons->Ub,mem_append_right->Ud,mem_of_getElem?->Uk,length_range->Ul,range->Uo,length_take->Uq,mem_range->Ur,mem_append->Uy,map_map->Uz,length_drop->UB,getD_eq_getElem?_getD->UE,lookup_cons->UN,append_nil->UQ,all_cons->UR,length_singleton->US,replicate_succ->UU,map_append->UY,getElem?_set->U4,take_add_one->U5,take_of_length_le->Va,getElem?_append_left->Vc,mem_iff_getElem?->Ve,find?_range_eq_some->Vg,pairwise_cons->Vj,contains_cons->Vk,isEmpty_iff->Vm,getElem?_append_right->Vr,map_nil->Vs,length_nil->Vu,take_append_drop->Vx,all_eq_true->Vy,getElem_mem->Vz,mem_append_left->VF,append_assoc->VI,mem_filter->VJ,drop_eq_nil_of_le->VR,cons_append->VV,find?_eq_none->VW,take_length->V8,nodup_cons->Wk,length_set->Wl,length_replicate->Wq,getElem?_eq_none->Wr,flatten_cons->Ws,mem_of_mem_take->WA,cons_ne_nil->WC,getElem?_eq_none_iff->WE,foldl_cons->WO,getElem?_replicate->WV,cons_lt_cons_iff->W6,any_cons->Xb,sum_cons->Xg,lookup->Xj,mem_of_mem_drop->Xk,nil_append->Xn,map_congr_left->Xs,getElem?_drop->XH,drop_eq_getElem_cons->XO,ext_getElem?->XU,count_append->XW,map_drop->X4,getElem?_cons_succ->Ye,getElem?_set_self->Yh,foldl->Yj,forIn_cons->Ym,getElem?_set_ne->Yy,filterMap_cons->YK,map_take->YV,mem_filterMap->Y1,getElem_range->Y2,foldlM_append->Y4,of_mem_zip->ZZ,forIn_nil->aaj,drop_zero->aam,filterMap->aao,pairwise_iff_getElem->aaw,getElem?_take_of_lt->aaK,filterMap_cons_none->aaL,filterMap_cons_some->aaM,take_nil->aaP,headD_eq_head?_getD->aaQ,pairwise_singleton->aaW,head?_eq_getElem?->abm,contains_iff_mem->abD,take_eq_take_iff->abE,count_cons_of_ne->abF,length->ab4,count_le_length->ab8,map_eq_nil_iff->aco,map_inj_right->acU,set_cons_zero->acX,set_cons_succ->acY,zipIdx_cons->adE,any_eq_true->adG,perm_middle->adH,zipIdx_nil->adP,foldlM->agk
open Nat renaming le_refl->TQ,lt_of_lt_of_le->Uc,ne_of_lt->Ui,le_of_ble_eq_true->Uj,le_trans->UH,ne_of_gt->Vb,zero_le->Vd,lt_irrefl->VD,lt_succ_of_lt->Ww,le_of_lt->WZ,le_succ->Xl,not_lt_zero->Xt,zero_add->XD,add_sub_cancel->XN,le_of_succ_le->X2,lt_of_le_of_lt->Y6,add_comm->Zr,min_le_right->ZG,le_of_not_lt->ZI,lt_succ_self->ZJ,succ_ne_self->ZK,min_eq_left->Z9,succ_mul->abu,lt_trans->abx,pow_le_pow_right->acp,succ_ne_zero->adQ,lt_of_not_le->adR,mul_le_mul->aeF,add_assoc->afq,sub_zero->agb,sub_self->agf,log2_lt->ahE
open PySem.Str renaming join->TV,length_append->U0,ofString->VP,append_assoc->WQ,empty->X3,cps_append->aav,ext'->amI
open Option.some renaming inj->Us
open PyProof.Rows renaming step_dedup->Uw,envOfC->UA,slot_tuple_getitem->UZ,callWith_type1->Wa,firstMet->ZN,callWith_builtin1->ahD,evalArgs_kwB->ahH,kws_cons->ahI,kws_nil->ahJ,split_pos->ahK,IntsAre->ahL,codeAny_set_update_loopS->ahM,SetOf_congr->ahN,setObjOf_fresh->ahO,litPairs->ahP,strKeyed->ahQ,strKeysOf->ahR
open Int renaming toNat_natCast->UI,emod_nonneg->Vi,emod_lt_of_pos->VA,toNat_of_nonneg->WL,le_trans->aga,le_refl->ahS
open Array renaming getElem?_eq_some_iff->UW,mem_toList_iff->W9,length_toList->Xm,getElem?_toList->Yl,getElem?_setIfInBounds_self_of_lt->Ys,all_eq_true_iff_forall_mem->Zb,getElem?_setIfInBounds_ne->Zq,toList_inj->Zt,toList_append->ab7,find?_toList->acj,forIn_toList->acn,all_toList->ac7,toList->aeD
open PySem.F renaming attrBase_ValueError->Wm,excBase_ValueError->Wv,plainAttrs_list->WM,args_tuple_add_2->Z0,slot_list_insert->Z4,store_ValueError->Z6,entry_tuple_add->aai,slot_list_count->aak,slot_list_index->aal,slot_tuple_add->aau,store_object->aaV
open List.cons renaming inj->WY,injEq->amL
open List.Pairwise renaming nil->Xi,filter->ZO
open PySem.StrLaws renaming subAt_one->Xu,glued_eq_join->YO,joinFits->Zu,join_split->af8,split_free->af9,found_one->agg,sliced_plain->agh,strSliceIndices_plain->agi,occ_head->agj
open List.Sublist renaming refl->Yt
open List.Perm renaming refl->Zs,swap->amG
open PyProof.Rows.IntsAre renaming int_at->acW
open PySem.AutoSeq1 renaming list_insert_list_int_val_1->afo
open PySem.EqMixed renaming eq_bool_str->afW,eq_int_str->afX,eq_str_bool->afY,eq_str_int->afZ,ne_bool_str->af0,ne_int_str->af1,ne_str_bool->af2,ne_str_int->af3
open PySem.EqNone renaming eq_none_none->ahp,eq_none_bool->ahq,eq_none_int->ahr,eq_none_str->ahs,eq_bool_none->aht,eq_int_none->ahu,eq_str_none->ahv,ne_none_none->ahw,ne_none_bool->ahx,ne_none_int->ahy,ne_none_str->ahz,ne_bool_none->ahA,ne_int_none->ahB,ne_str_none->ahC
open PySem.SeqAt renaming compareEq_reads->aiR,compareNe_reads->aiS,in_list_reads->aiT,in_tuple_reads->aiU,notIn_list_reads->aiV,notIn_tuple_reads->aiW
open PySem.W.KIN renaming call_text->aiX
open PySem.IsL renaming update->amE
open PyProof.V renaming same_str->amH
namespace L2
open PySem PySem.Spec PyProof.Rows
abbrev mP:=Sum Int Str
def HR:mP->Tw->Bool
 |.inl k,v=>Tw.isInt k v
 |.inr x,v=>Tw.isStrOf x v
def QM(w:Ux):mP->Int
 |.inl k=>hashInt k
 |.inr x=>hashStr w x
theorem cP:∀{k:mP} {v:Tw},HR k v=Ld->(∃i t,k=Sum.inl i/\v=Tw.int i t)\/(∃x t,k=Sum.inr x/\v=Tw.str x t)
 |.inl i,v,h=>by obtain⟨t,e⟩:=Tw.isInt_shape h;exact .inl ⟨i,t,rfl,e⟩
 |.inr x,v,h=>by obtain⟨t,e⟩:=Tw.isStrOf_shape h;exact .inr ⟨x,t,rfl,e⟩
theorem Me(a b:Int):decide ((Sum.inl a:mP)=Sum.inl b)=(a==b):=by
 by_cases e:a=b
 .subst e;simp
 .have h:¬(Sum.inl a:mP)=Sum.inl b:=λq=>e (Sum.inl.inj q);rw[a5 h];exact(beq_eq_false_iff_ne.mpr e).symm
theorem LL(a b:Str):decide ((Sum.inr a:mP)=Sum.inr b)=decide (a=b):=by
 by_cases e:a=b
 .subst e;simp
 .have h:¬(Sum.inr a:mP)=Sum.inr b:=λq=>e (Sum.inr.inj q);rw[a5 h,a5 e]
theorem KI(a:Int)(b:Str):decide ((Sum.inl a:mP)=Sum.inr b)=Tx:=a5 (λq=>nomatch q)
theorem Km(a:Str)(b:Int):decide ((Sum.inr a:mP)=Sum.inl b)=Tx:=a5 (λq=>nomatch q)
def x6(prog:Ug)(w:Ux):PySem.KeyKind prog w mP where
 is:=HR
 hash:=QM w
 inj:=λv a b ha f=>by
  rcases cP ha with⟨i,t,rfl,rfl⟩|⟨x,t,rfl,rfl⟩
  .rcases cP f with⟨j,u,rfl,e⟩|⟨y,u,rfl,e⟩
   .injection e with e1 _;rw[e1]
   .exact nomatch e
  .rcases cP f with⟨j,u,rfl,e⟩|⟨y,u,rfl,e⟩
   .exact nomatch e
   .injection e with e1 _;rw[e1]
 byValue:=λk v h=>by rcases cP h with⟨i,t,rfl,rfl⟩|⟨x,t,rfl,rfl⟩<;>rfl
 pyHash:=λd h=>by
  rcases cP d with⟨i,t,rfl,rfl⟩|⟨x,t,rfl,rfl⟩
  .exact afT h
  .exact afU h
 eqBool:=λg d h=>by
  rcases cP g with⟨i,t,rfl,rfl⟩|⟨x,t,rfl,rfl⟩
  .rcases cP d with⟨j,u,rfl,rfl⟩|⟨y,u,rfl,rfl⟩
   .rw[Me]at h;exact wpAny_eqBool_int h
   .rw[KI]at h;exact SeqAt.EqAt.int_str i t y u _ _ _ _ h
  .rcases cP d with⟨j,u,rfl,rfl⟩|⟨y,u,rfl,rfl⟩
   .rw[Km]at h;exact SeqAt.EqAt.str_int x t j u _ _ _ _ h
   .rw[LL]at h;exact wpAny_eqBool_str h
 «strs»:=λk x t v h=>by
  rcases cP h with⟨i,u,rfl,e⟩|⟨y,u,rfl,e⟩
  .exact nomatch e
  .injection e with e1 _
   subst e1;cases v<;>rfl
inductive V where
 |VX|bl (b:Bool)|int (i:Int)|str (x:Str)|byt (b:Array UInt8)|flt (b:UInt64)|ref (a:TM)|ty (n:String)
 deriving DecidableEq
def RelV:V->Tw->Prop
 |.VX,u=>u=Tw.none
 |.bl b,u=>u=Tw.bool b
 |.int i,u=>∃t,u=Tw.int i t
 |.str x,u=>∃t,u=Tw.str x t
 |.byt b,u=>∃t,u=Tw.bytes b t
 |.flt b,u=>∃t,u=Tw.float b t
 |.ref a,u=>u=Tw.ref a
 |.ty n,u=>u=Tw.type n
abbrev Vals:ck V->ck Tw->Prop:=Paired RelV
theorem Vals.length(r:Vals xs us):xs.length=us.length:=Paired.length r
theorem Vals.get:∀{xs:ck V} {a:ck Tw} {i:Nat} {x:V},Vals xs a->xs[i]?=ax x->∃u,a[i]?=ax u/\RelV x u
 |_,_,_,_,.nil,e=>by simp at e
 |_,_,0,_,.cons r _,e=>by simp at e;subst e;exact⟨_,rfl,r⟩
 |_,_,i+1,x,.cons _ t,e=>by obtain⟨u,d,b⟩:=Vals.get t (by simpa using e);exact⟨u,by simpa using d,b⟩
theorem Vals.append:∀{xs a:ck V} {b ws:ck Tw},Vals xs b->Vals a ws->Vals (xs++a) (b++ws)
 |_,_,_,_,.nil,s=>s
 |_,_,_,_,.cons r t,s=>.cons r (Vals.append t s)
theorem Vals.take:∀{xs:ck V} {a:ck Tw} (n:Nat),Vals xs a->Vals (xs.take n) (a.take n)
 |_,_,0,_=>.nil
 |_,_,_+1,.nil=>.nil
 |_,_,n+1,.cons r t=>.cons r (Vals.take n t)
theorem Vals.drop:∀{xs:ck V} {a:ck Tw} (n:Nat),Vals xs a->Vals (xs.drop n) (a.drop n)
 |_,_,0,r=>r
 |_,_,_+1,.nil=>.nil
 |_,_,n+1,.cons _ t=>Vals.drop n t
def aa4:cv V->cv Tw->Prop
 |some v,ax u=>RelV v u
 |none,CL=>True
 |_,_=>False
def KV:ck (κ×V)->ck (κ×Tw)->Prop:=Paired λ(p:κ×V) (q:κ×Tw)=>p.1=q.1/\RelV p.2 q.2
def kV:mP->V
 |.inl i=>.int i
 |.inr x=>.str x
inductive HO where
 |lst (xs:ck V)
 |tup (xs:ck V)
 |dK (Yc:ck (mP×V))|dT (Yc:ck (ck mP×V))
 |set (S:Int->Bool) (n:Nat)
 |ins (C dx:TM) (fs:ck (Str×V))
 |own (x:TM)
 |xd (fs:ck (Str×V))
 |met (f x:TM)
 |rng (lo hi:Int)
 |frz (o:Obj) (u:HO)
 |tbl (ps:Array Tw)
 |ext (φ:Heap->Prop)
 |exw (φ:Ux->Heap->Prop)
abbrev Hp:=TM->cv HO
def bz(H:Hp)(a:TM)(o:HO):Hp:=λb=>if b=a then ax o else H b
theorem aF:bz H a o a=ax o:=by unfold bz;rw[ak rfl]
theorem am(h:b≠a):bz H a o b=H b:=by unfold bz;rw[ar h]
theorem GV:bz (bz H a o) a u=bz H a u:=by funext b;unfold bz;split<;>rfl
theorem bW{H:Hp}(h:H a=ax o)(h':H b=CL):a≠b:=by intro e;subst e;rw[h]at h';cases h'
def ZV(h:Heap)(a:TM)(b:Array Tw):Prop:=∃o,h.get? a=ax o/\(o.cls=.type "tuple"/\∃n,o.data=.seq b n)/\o.dict=CL
theorem ZV.tup(x:ZV h a items):IsTup h a items:=let⟨o,e,c,_⟩:=x;⟨o,e,c⟩
theorem ZV.lt(x:ZV h a items):a<h.objs.size:=let⟨_,e,_⟩:=x;c5 e
theorem ZV.new(h:Heap)(xs:Array Tw):ZV (h.push {cls:=.type "tuple",data:=.seq xs}) h.objs.size xs:=⟨_,c6 _ rfl,⟨rfl,_,rfl⟩,rfl⟩
section
variable(P:Ug)(w:Ux)
def V9(H:Hp)(h:Heap)(a:TM):HO->Prop
 |.lst xs=>xs.length<=T8/\∃(b:ck Tw) (n:Nat),Vals xs b/\h.get? a=ax {cls:=.type "list",data:=.seq b.toArray n}
 |.tup xs=>xs.length<=T8/\∃b:ck Tw,Vals xs b/\ZV h a b.toArray
 |.dK Yc=>Yc.length<=T8/\(a==aez)=Tx/\∃vs,KV Yc vs/\h.DictOf (x6 P w) a vs
 |.dT Yc=>Yc.length<=T8/\(a==aez)=Tx/\∃xs:ck (ck mP×TM×Tw),
   Paired (λ(p:ck mP×V) (q:ck mP×TM×Tw)=>p.1=q.1/\H q.2.1=ax (.tup (p.1.map kV))/\RelV p.2 q.2.2) Yc xs/\
   ∃o es ep,h.get? a=ax o/\o.ExactDict/\o.data=.dict es ep/\es.toList=xs.map (entryOfKey (tupleKind (x6 P w)))/\(xs.map (·.1)).Nodup
 |.set S n=>h.SetOf (intKind P w) a S n
 |.ins C dx fs=>H dx=ax (.own a)/\fs.length<=1000/\dx≠a/\h.get? a=ax (acN C dx)/\
   ∃mA,h.Ns1 dx mA/\(∀f,aa4 (fs.lookup f) (mA f))/\aeA mA (fs.map (·.1))
 |.own _=>∃o,h.get? a=ax o
 |.xd fs=>∃mA,h.Ns1 a mA/\∀f,aa4 (fs.lookup f) (mA f)
 |.rng lo hi=>∃t u v,h.get? a=ax {cls:=.type "range",data:=.fields #[.int lo t,.int hi u,.int 1 v]}
 |.frz o u=>h.get? a=ax o/\V9 H h a u
 |.tbl ps=>h.get? a=ax {cls:=.none,data:=.fields ps}
 |.met f x=>h.get? a=ax (YQ (.ref f) (.ref x))
 |.ext φ=>φ h/\(∃o,h.get? a=ax o)/\∀h1 h2:Heap,φ h1->(∀o,h1.get? a=ax o->h2.get? a=ax o)->φ h2
 |.exw φ=>φ w h/\(∃o,h.get? a=ax o)/\∀h1 h2:Heap,φ w h1->(∀o,h1.get? a=ax o->h2.get? a=ax o)->φ w h2
def Zn(H:Hp)(h:Heap):Prop:=∀a o,H a=ax o->V9 P w H h a o
end
section
variable{P:Ug}{w:Ux}{H H':Hp}{h h':Heap}{a:TM}{o:HO}
theorem V9.lt(x:V9 P w H h a o):a<h.objs.size:=by
 cases o with
 |lst xs=>obtain⟨_,_,_,_,e⟩:=x;exact c5 e
 |tup xs=>obtain⟨_,_,_,p⟩:=x;exact p.lt
 |dK Yc=>obtain⟨_,_,_,_,o,_,_,e,_⟩:=x;exact c5 e
 |dT Yc=>obtain⟨_,_,_,_,o,_,_,e,_⟩:=x;exact c5 e
 |set S n=>obtain⟨o,_,_,_,e,_⟩:=x;exact c5 e
 |ins C dx fs=>obtain⟨_,_,_,e,_⟩:=x;exact c5 e
 |own y=>obtain⟨_,e⟩:=x;exact c5 e
 |xd fs=>obtain⟨_,⟨_,_,_,e,_⟩,_⟩:=x;exact c5 e
 |rng lo hi=>obtain⟨_,_,_,e⟩:=x;exact c5 e
 |frz b u=>obtain⟨e,_⟩:=x;exact c5 e
 |tbl ps=>exact c5 (show h.get? a=ax _ from x)
 |met f y=>exact c5 (show h.get? a=ax _ from x)
 |ext φ=>obtain⟨_,⟨_,e⟩,_⟩:=x;exact c5 e
 |exw φ=>obtain⟨_,⟨_,e⟩,_⟩:=x;exact c5 e
theorem Paired.afj:∀{l₁:ck α} {l₂:ck β},Paired F l₁ l₂->(∀a b,F a b->G a b)->Paired G l₁ l₂
 |_,_,.nil,_=>.nil
 |_,_,.cons r t,f=>.cons (f _ _ r) (Paired.afj t f)
theorem V9.Ya(x:V9 P w H h a o)(k:∀b u,(b=a\/H b=ax (.own a))->h.get? b=ax u->h'.get? b=ax u)
  (G:∀b,H b=ax (.own a)->H' b=ax (.own a)) (F:∀b xs,H b=ax (.tup xs)->H' b=ax (.tup xs)):V9 P w H' h' a o:=by
 induction o with
 |lst xs=>obtain⟨z,B,n,r,e⟩:=x;exact⟨z,B,n,r,k _ _ (.inl rfl) e⟩
 |tup xs=>obtain⟨z,B,r,g,e,c⟩:=x;exact⟨z,B,r,g,k _ _ (.inl rfl) e,c⟩
 |dK Yc=>obtain⟨z,y,vs,r,g,i,j,e,c⟩:=x;exact⟨z,y,vs,r,g,i,j,k _ _ (.inl rfl) e,c⟩
 |dT Yc=>obtain⟨z,y,xs,r,g,i,j,e,c⟩:=x;exact⟨z,y,xs,Paired.afj r λp q z=>⟨z.1,F _ _ z.2.1,z.2.2⟩,g,i,j,k _ _ (.inl rfl) e,c⟩
 |set S n=>obtain⟨g,i,j,t,e,c⟩:=x;exact⟨g,i,j,t,k _ _ (.inl rfl) e,c⟩
 |ins C dx fs=>obtain⟨d,z,ne,e,A,⟨m,i,j,I,c⟩,r⟩:=x;exact⟨G _ d,z,ne,k _ _ (.inl rfl) e,A,⟨m,i,j,k _ _ (.inr d) I,c⟩,r⟩
 |own y=>obtain⟨g,e⟩:=x;exact⟨g,k _ _ (.inl rfl) e⟩
 |xd fs=>obtain⟨A,⟨m,i,j,e,c⟩,r⟩:=x;exact⟨A,⟨m,i,j,k _ _ (.inl rfl) e,c⟩,r⟩
 |rng lo hi=>obtain⟨t,u,v,e⟩:=x;exact⟨t,u,v,k _ _ (.inl rfl) e⟩
 |frz g u E=>obtain⟨e,q⟩:=x;exact⟨k _ _ (.inl rfl) e,E q⟩
 |tbl ps=>have e:h.get? a=ax {cls:=.none,data:=.fields ps}:=x;show h'.get? a=ax {cls:=.none,data:=.fields ps};exact k a _ (.inl rfl) e
 |met f y=>have e:h.get? a=ax (YQ (.ref f) (.ref y)):=x;show h'.get? a=ax (YQ (.ref f) (.ref y));exact k a _ (.inl rfl) e
 |ext φ=>obtain⟨p,⟨o,e⟩,l⟩:=x;exact⟨l _ _ p λo q=>k _ _ (.inl rfl) q,⟨o,k _ _ (.inl rfl) e⟩,l⟩
 |exw φ=>obtain⟨p,⟨o,e⟩,l⟩:=x;exact⟨l _ _ p λo q=>k _ _ (.inl rfl) q,⟨o,k _ _ (.inl rfl) e⟩,l⟩
theorem Zn.lt(x:Zn P w H h)(e:H a=ax o):a<h.objs.size:=(x a o e).lt
theorem Zn.fresh(x:Zn P w H h)(e:h.objs.size<=a):H a=CL:=by
 cases q:H a with
 |none=>rfl
 |some u=>exact a7 (Uc (x.lt q) e) (VD _)
theorem Zn.kept(x:Zn P w H h)(k:∀b u,h.get? b=ax u->h'.get? b=ax u):Zn P w H h':=λa o e=>
 (x a o e).Ya (λb u _ q=>k b u q) (λ_ q=>q) λ_ _ q=>q
theorem Zn.laid(x:Zn P w H h)(k:∀b u,h.get? b=ax u->h'.get? b=ax u)(f:h.objs.size<=a)(new:V9 P w (bz H a o) h' a o):Zn P w (bz H a o) h':=λb u e=>by
 have hn:=x.fresh f;by_cases d:b=a
 .subst d;rw[aF]at e;cases e;exact new
 .rw[am d]at e;exact(x b u e).Ya (λc v _ q=>k c v q) (λc q=>by rw[am (bW q hn)];exact q) λc xs q=>by rw[am (bW q hn)];exact q
end
def Rd(H:Hp)(a:TM)(u:HO):Prop:=H a=ax u\/∃o,H a=ax (.frz o u)
theorem Rd.of(h:H a=ax u):Rd H a u:=.inl h
theorem Rd.ok(r:Rd H a u)(x:Zn P w H h):V9 P w H h a u:=by
 rcases r with r|⟨o,r⟩
 .exact x a u r
 .obtain⟨_,q⟩:=x a _ r;exact q
def P4:cv HO->Prop
 |some (.lst _)=>True
 |some (.dK _)=>True
 |some (.dT _)=>True
 |some (.set _ _)=>True
 |some (.ins _ _ _)=>True
 |some (.ext _)=>True
 |some (.exw _)=>True
 |_=>False
section
variable{P:Ug}{w:Ux}{H:Hp}{h h':Heap}{x e:TM}{Z:HO}
theorem Zn.write(ok:Zn P w H h)(f:P4 (H x))(n:e=x\/H e=ax (.own x))(k:∀b u,b≠e->h.get? b=ax u->h'.get? b=ax u)(j:∃u,h'.get? e=ax u)
  (new:V9 P w (bz H x Z) h' x Z):Zn P w (bz H x Z) h':=λb u q=>by
 have d:∀c y,H c=ax (.own y)->c≠x:=λc y r z=>by subst z;rw[r]at f;exact f
 have l:∀c xs,H c=ax (.tup xs)->c≠x:=λc xs r z=>by subst z;rw[r]at f;exact f
 by_cases i:b=x
 .subst i;rw[aF]at q;cases q;exact new
 .rw[am i]at q
  by_cases a:b=e
  .have m:H b=ax (.own x):=by
    rcases n with z|z
    .exact a7 (a.trans z) i
    .rw[a];exact z
   rw[q]at m;cases m;obtain⟨v,o⟩:=j;exact⟨v,by rw[a];exact o⟩
  .refine(ok b u q).Ya (λc v g r=>k c v ?_ r) (λc r=>by rw[am (d c b r)];exact r) λc xs r=>by rw[am (l c xs r)];exact r
   rcases g with rfl|g
   .exact a
   .rintro rfl
    rcases n with z|z
    .exact d c b g z
    .rw[g]at z;cases z;exact i rfl
end
structure Un(fs ex:ck TM)(H H':Hp)(h h':Heap):Prop where
 keep:∀b o,h.get? b=ax o->H b=CL->b∉fs->b∉ex->h'.get? b=ax o
 slot:∀b o,h.get? b=ax o->H b=CL->b∈fs->b∉ex->∃sl,h'.get? b=ax {o with slots:=sl}
 free:∀b o,h.get? b=ax o->H b=CL->b∉ex->H' b=CL
 there:∀b o,h.get? b=ax o->b∉ex->∃o',h'.get? b=ax o'
 Zx:∀b xs,H b=ax (.tup xs)->H' b=ax (.tup xs)
 Zd:∀b o u,H b=ax (.frz o u)->H' b=ax (.frz o u)
 Zv:∀b ps,H b=ax (.tbl ps)->∃more,H' b=ax (.tbl (ps++more))
section
variable{fs fs' ex ex':ck TM}{H H1 H2:Hp}{h h1 h2 h':Heap}{a x e:TM}{o:HO}
theorem Un.any(u:Un fs ex H H1 h h1)(q:h.get? b=ax ob)(n:H b=CL)(d:b∉ex):∃sl,h1.get? b=ax {ob with slots:=sl}:=by
 by_cases f:b∈fs
 .exact u.slot b ob q n f d
 .exact⟨ob.slots,u.keep b ob q n f d⟩
theorem Un.kept(k:∀b u,h.get? b=ax u->h'.get? b=ax u):Un fs ex H H h h':=
 ⟨λb d q _ _ _=>k b d q,λb d q _ _ _=>⟨d.slots,k b d q⟩,λ_ _ _ n _=>n,λb d q _=>⟨d,k b d q⟩,λ_ _ q=>q,λ_ _ _ q=>q,λ_ ps q=>⟨#[],by rw[q];simp⟩⟩
theorem Un.refl:Un fs ex H H h h:=Un.kept λ_ _ q=>q
theorem Un.laid(k:∀b u,h.get? b=ax u->h'.get? b=ax u)(d:h.objs.size<=a)(hn:H a=CL):Un fs ex H (bz H a o) h h' where
 keep:=λb u q _ _ _=>k b u q
 slot:=λb u q _ _ _=>⟨u.slots,k b u q⟩
 free:=λb u q n _=>by rw[am (Ui (Uc (c5 q) d))];exact n
 there:=λb u q _=>⟨u,k b u q⟩
 Zx:=λb xs q=>by rw[am (bW q hn)];exact q
 Zd:=λb u xs q=>by rw[am (bW q hn)];exact q
 Zv:=λb ps q=>⟨#[],by rw[am (bW q hn),q];simp⟩
theorem Un.write(f:P4 (H x))(m:e=x\/H e=ax (.own x))(k:∀b u,b≠e->h.get? b=ax u->h'.get? b=ax u)(g:∃u,h'.get? e=ax u):Un fs ex H (bz H x o) h h':=by
 have i:∀b,H b=CL->b≠x:=λb n z=>by subst z;rw[n]at f;exact f
 have j:∀b,H b=CL->b≠e:=λb n z=>by
  subst z;rcases m with r|r
  .exact i b n r
  .rw[n]at r;cases r
 have hm:∀b u,H b=ax u->¬P4 (ax u)->b≠x:=λb u q l z=>by subst z;rw[q]at f;exact l f
 refine⟨λb u q n _ _=>k b u (j b n) q,λb u q n _ _=>⟨u.slots,k b u (j b n) q⟩,λb u q n _=>by rw[am (i b n)];exact n,λb u q _=>?_,
  λb xs q=>by rw[am (hm b _ q λz=>z)];exact q,λb u xs q=>by rw[am (hm b _ q λz=>z)];exact q,λb ps q=>⟨#[],by rw[am (hm b _ q λz=>z),q];simp⟩⟩
 by_cases d:b=e
 .subst d;exact g
 .exact⟨u,k b u d q⟩
end
def PY(h:Heap)(H:Hp):ck TM:=(Uo h.objs.size).filter λa=>(H a).isSome
def tI(h:Heap)(H:Hp):Heap:=PySem.W.hideAll h (PY h H)
theorem zh(h:Heap)(H:Hp):(tI h H).objs.size=h.objs.size:=PySem.W.hideAll_size _ _
theorem B3(e:h.get? b=ax o)(n:H b=CL):(tI h H).get? b=ax o:=
 PySem.W.hideAll_get _ e λhm=>by have q:=(VJ.mp hm).2;rw[n]at q;simp at q
theorem Gq(e:(tI h H).get? b=ax o):h.get? b=ax o/\H b=CL:=by
 have a:=PySem.W.of_hideAll (PY h H) e;refine⟨a,?_⟩;cases q:H b with
 |none=>rfl
 |some x=>have hm:b∈PY h H:=VJ.mpr ⟨Ur.mpr (c5 a),by simp[q]⟩;have z:(tI h H).get? b=CL:=PySem.W.hideAll_none (PY h H) hm;rw[z]at e;cases e
structure Mod(K:cL)(mg:Str->cv Tw)(base:Heap):Prop where
 kin:K.In base
 glob:base.Ns T5 mg
 blt:∃mb,base.Ns builtinsNs mb/\∀x:Str,x≠ "__name__"->mb x=UK x
 nolimit:base.NoLimit
structure Cx where
 prog:Ug
 w:Ux
 K:cL
 mg:Str->cv Tw
 base:Heap
 A:Ut
 N:ck Str
 s₀:TK
 H₀:Hp
 env:Env
 outer:ck Env
 stack:ck Env
 ex:ck TM
 fn:Str->Bool
 calm:Bool
 pn:ck (TM×Obj)
 xe:Tw->TK->Prop
def vL(l:ck Env):ck TM:=l.filterMap (·.frame)
abbrev Cx.fs(X:Cx):ck TM:=vL X.outer
def PX(sc:V5)(x:Str):Prop:=sc.names.lookup x=ax .local\/sc.names.lookup x=ax .cell\/sc.names.lookup x=ax .free
def Ms(sc:V5)(x:Str):Prop:=sc.names.lookup x=ax .local\/sc.names.lookup x=ax .cell
def QD(env:Env)(h:Heap)(m:Str->cv Tw)(x:Str)(u:Tw):Prop:=
 (env.kindOf x=ax .local/\m x=ax u)\/((env.kindOf x=ax .cell\/env.kindOf x=ax .free)/\∃c,env.cells.lookup x=ax c/\h.IsCell c (ax u))
structure Cx.Ok(X:Cx):Prop where
 mod:Mod X.K X.mg X.base
 kind:X.env.scope.kind=.function
 glob:X.env.globals=T5
 blt:X.env.builtins=builtinsNs
 above:X.s₀.heap.objs.size<=X.env.locals
 inj:∀x y c,X.env.cells.lookup x=ax c->X.env.cells.lookup y=ax c->x=y
 has:∀x,(X.env.kindOf x=ax .cell\/X.env.kindOf x=ax .free)->∃c,X.env.cells.lookup x=ax c
 cab:∀x c,X.fn x=Ld->X.env.cells.lookup x=ax c->X.s₀.heap.objs.size<=c
 hd:X.calm=Ld->X.A.handled=CL
 frames:X.A.frames=ax X.stack
 stk:X.stack=X.outer\/(X.stack=X.env::X.outer/\X.env.frame=ax X.env.locals)
 exf:∀b∈X.ex,b≠X.env.locals/\∀x c,X.env.cells.lookup x=ax c->c≠b
 bs:∀b o,X.base.get? b=ax o->X.s₀.heap.get? b=ax o/\X.H₀ b=CL
 bsz:X.base.objs.size<=X.s₀.heap.objs.size
 aaZ:∀b o,X.base.get? b=ax o->b∉X.ex
 aa9:∀b∈X.ex,b∉X.fs
 YF:X.s₀.heap.FunFrames X.base X.outer
 frf:∀b∈X.fs,X.H₀ b=CL
structure Inv(X:Cx)(pins:ck (TM×Obj))(σ:ck (cv V))(H:Hp)(s:TK):Prop where
 ok:X.Ok
 os:s.os=X.s₀.os
 bare:AllBare s.gens
 base:Un X.fs X.ex X.H₀ H X.s₀.heap s.heap
 loc:∃m,s.heap.Ns X.env.locals m/\∀(i:Nat) (x:Str) (v:V),X.N[i]?=ax x->σ[i]?=ax (ax v)->PX X.env.scope x->∃u,RelV v u/\QD X.env s.heap m x u
 cell:∀x c,X.env.cells.lookup x=ax c->∃v,s.heap.IsCell c v
 free:H X.env.locals=CL
 W8:∀x c,X.env.cells.lookup x=ax c->H c=CL
 pin:∀p∈X.pn++pins,s.heap.get? p.1=ax p.2/\H p.1=CL/\p.1≠X.env.locals/\p.1∉X.fs/\∀v,p.2.data≠.cell v
 Vp:Zn X.prog X.w H s.heap
 len:σ.length=X.N.length
section
variable{X:Cx}{Z:ck (TM×Obj)}{Y:ck (cv V)}{H H':Hp}{s:TK}{h':Heap}
theorem Cx.Ok.ajY(ok:X.Ok)(e:X.base.get? b=ax o):b∉X.fs:=λa=>by have:=(ok.YF.mem a).1;rw[e]at this;cases this
theorem Inv.bs(I:Inv X Z Y H s):∀b o,X.base.get? b=ax o->s.heap.get? b=ax o/\H b=CL:=λb o e=>
 ⟨I.base.keep b o (I.ok.bs b o e).1 (I.ok.bs b o e).2 (I.ok.ajY e) (I.ok.aaZ b o e),I.base.free b o (I.ok.bs b o e).1 (I.ok.bs b o e).2 (I.ok.aaZ b o e)⟩
theorem Inv.bk(I:Inv X Z Y H s):∀b o,X.base.get? b=ax o->s.heap.get? b=ax o:=λb o e=>(I.bs b o e).1
theorem Inv.mod(I:Inv X Z Y H s):Mod X.K X.mg X.base:=I.ok.mod
theorem Inv.Zm(I:Inv X Z Y H s):X.K.In s.heap:=I.ok.mod.kin.keeps I.bk
theorem Inv.lt(I:Inv X Z Y H s):X.env.locals<s.heap.objs.size:=let⟨_,hn,_⟩:=I.loc;hn.lt
theorem Inv.sz(I:Inv X Z Y H s):X.s₀.heap.objs.size<=s.heap.objs.size:=UH I.ok.above (WZ I.lt)
theorem Inv.ahh(I:Inv X Z Y H s)(h:s.heap.objs.size<=a):a∉X.fs:=λd=>by obtain⟨_,o,b,_⟩:=I.ok.YF.mem d;exact a7 (Uc (c5 b) (UH I.sz h)) (VD _)
theorem Inv.cne(I:Inv X Z Y H s):∀x c,X.env.cells.lookup x=ax c->c≠X.env.locals:=λx c e z=>by obtain⟨v,o,b,d⟩:=I.cell x c e;obtain⟨m,⟨g,h,i,a,f,_⟩,_⟩:=I.loc;rw[z,a]at b;cases b;rw[f]at d;cases d
theorem Inv.YF(I:Inv X Z Y H s):s.heap.FunFrames X.base X.outer:=by
 have all:∀(l:ck Env),(∀b∈vL l,b∈X.fs)->X.s₀.heap.FunFrames X.base l->s.heap.FunFrames X.base l:=by
  intro l
  induction l with
  |nil=>intro _ _;trivial
  |cons p r h=>intro g k;obtain⟨m,⟨L,o,a,hn,j,n⟩,i⟩:=k;have f:=g L (by unfold vL;rw[YK,a];exact TC);obtain⟨q,e⟩:=I.base.slot L o j (I.ok.frf L f) f λz=>I.ok.aa9 L z f;exact⟨m,⟨L,_,a,hn,e,n⟩,h (λb d=>g b (by unfold vL;rw[YK,a];exact TH _ d)) i⟩
 exact all X.outer (λ_ d=>d) I.ok.YF
theorem Inv.stack(I:Inv X Z Y H s):s.heap.FunFrames X.base X.stack:=by
 rcases I.ok.stk with e|⟨e,hf⟩
 .rw[e];exact I.YF
 .rw[e];obtain⟨m,hn,_⟩:=I.loc;refine .cons (by rw[I.ok.kind];decide) hf hn ?_ I.YF;exact ea (UH I.ok.bsz I.ok.above)
theorem Inv.Zi(I:Inv X Z Y H s):∀b∈vL X.stack,b∈X.env.locals::X.fs:=λb a=>by
 rcases I.ok.stk with e|⟨e,hf⟩
 .rw[e]at a;exact TH _ a
 .rw[e]at a;unfold vL at a;rw[YK,hf]at a;exact a
theorem Inv.ZD(I:Inv X Z Y H s):∀b∈vL X.stack,H b=CL:=λb a=>by
 rcases TL.mp (I.Zi b a)with e|a
 .rw[e];exact I.free
 .obtain⟨_,o,d,_⟩:=I.ok.YF.mem a;exact I.base.free b o d (I.ok.frf b a) λz=>I.ok.aa9 b z a
theorem Inv.step{g':Array Yv}{t':Nat}{d':acO}{ch:ck TM}(I:Inv X Z Y H s)
  (g:∀b∈ch,(b∈X.ex\/X.s₀.heap.objs.size<=b)/\b≠X.env.locals/\(∀x c,X.env.cells.lookup x=ax c->c≠b)/\∀p∈X.pn++Z,p.1≠b)
  (keep:∀b o,b≠X.env.locals->b∉X.fs->b∉ch->s.heap.get? b=ax o->H b=CL->h'.get? b=ax o)
  (slot:∀b o,b≠X.env.locals->b∈X.fs->b∉ch->s.heap.get? b=ax o->H b=CL->∃sl,h'.get? b=ax {o with slots:=sl}) (free:∀b o,b∉ch->s.heap.get? b=ax o->H b=CL->H' b=CL)
  (there:∀b o,b∉ch->s.heap.get? b=ax o->∃o',h'.get? b=ax o')
  (Zx:∀b xs,H b=ax (.tup xs)->H' b=ax (.tup xs)) (Zd:∀b o u,H b=ax (.frz o u)->H' b=ax (.frz o u)) (Zv:∀b ps,H b=ax (.tbl ps)->∃more,H' b=ax (.tbl (ps++more)))
  (ns:∀m,s.heap.Ns X.env.locals m->h'.Ns X.env.locals m) (Vp:Zn X.prog X.w H' h') (O:AllBare g'):
  Inv X Z Y H' {s with heap:=h',gens:=g',drawn:=d',toks:=t'}:=by
 have B:∀b o,X.s₀.heap.get? b=ax o->b≠X.env.locals:=λb o e=>Ui (Uc (c5 e) I.ok.above);have j:∀b o,X.s₀.heap.get? b=ax o->b∉X.ex->b∉ch:=λb o e a y=>by
  rcases(g b y).1 with z|z
  .exact a z
  .exact a7 (Uc (c5 e) z) (VD _)
 have h:∀x c,X.env.cells.lookup x=ax c->∀v,s.heap.IsCell c v->h'.IsCell c v:=λx c e v ⟨o,A,F⟩=>by
  have f:c∉ch:=λz=>(g c z).2.2.1 x c e rfl;by_cases K:c∈X.fs
  .obtain⟨sl,q⟩:=slot c o (I.cne x c e) K f A (I.W8 x c e);exact⟨_,q,F⟩
  .exact⟨o,keep c o (I.cne x c e) K f A (I.W8 x c e),F⟩
 refine⟨I.ok,I.os,O,⟨λb o e n y a=>?_,λb o e n y a=>?_,λb o e n a=>?_,λb o e a=>?_,λb xs e=>Zx b xs (I.base.Zx b xs e),λb o xs e=>Zd b o xs (I.base.Zd b o xs e),λb ps e=>?_⟩,?_,λx c e=>?_,?_,λx c e=>?_,λp J=>?_,Vp,I.len⟩
 .exact keep b o (B b o e) y (j b o e a) (I.base.keep b o e n y a) (I.base.free b o e n a)
 .obtain⟨sl,t⟩:=I.base.slot b o e n y a;obtain⟨E,C⟩:=slot b _ (B b o e) y (j b o e a) t (I.base.free b o e n a);exact⟨E,C⟩
 .obtain⟨o',t⟩:=I.base.there b o e a;exact free b o' (j b o e a) t (I.base.free b o e n a)
 .obtain⟨o',t⟩:=I.base.there b o e a;exact there b o' (j b o e a) t
 .obtain⟨M,t⟩:=I.base.Zv b ps e;obtain⟨L,C⟩:=Zv b _ t;exact⟨M++L,by rw[C,Array.append_assoc]⟩
 .obtain⟨m,hn,N⟩:=I.loc
  refine⟨m,ns m hn,λi x v t C e3=>?_⟩;obtain⟨u,r,l⟩:=N i x v t C e3;refine⟨u,r,?_⟩;rcases l with l|⟨k,c,e,z⟩
  .exact .inl l
  .exact .inr ⟨k,c,e,h x c e _ z⟩
 .obtain⟨v,z⟩:=I.cell x c e;exact⟨v,h x c e v z⟩
 .obtain⟨m,⟨o,_,_,A,_⟩,_⟩:=I.loc;exact free _ o (λz=>(g _ z).2.1 rfl) A I.free
 .obtain⟨v,o,A,F⟩:=I.cell x c e;exact free c o (λz=>(g c z).2.2.1 x c e rfl) A (I.W8 x c e)
 .obtain⟨e,n,ne,G,d⟩:=I.pin p J;have f:p.1∉ch:=λz=>(g p.1 z).2.2.2 p J rfl;exact⟨keep p.1 p.2 ne G f e n,free p.1 p.2 f e n,ne,G,d⟩
theorem Inv.un{t':Nat}(I:Inv X Z Y H s)(u:Un X.fs [] H H' s.heap h')(Vp:Zn X.prog X.w H' h'):Inv X Z Y H' {s with heap:=h',toks:=t'}:=by obtain⟨m,⟨o,q,t,h,r⟩,_⟩:=id I.loc;obtain⟨k,j⟩:=u.any h I.free (by simp);exact I.step (g':=s.gens) (d':=s.drawn) (ch:=[]) (λ_ z=>nomatch z) (λb o _ d _ e n=>u.keep b o e n d (by simp)) (λb o _ d _ e n=>u.slot b o e n d (by simp)) (λb o _ e n=>u.free b o e n (by simp)) (λb o _ e=>u.there b o e (by simp)) u.Zx u.Zd u.Zv (λp hm=>by obtain⟨l,f,g,a,i⟩:=hm;rw[h]at a;cases a;exact⟨_,f,g,j,i⟩) Vp I.bare
theorem Inv.call{g':Array Yv}{t':Nat}{d':acO}{ch:ck TM}(I:Inv X Z Y H s)(u:Un (vL X.stack) ch H H' s.heap h')(Vp:Zn X.prog X.w H' h')(l:AllBare g')
  (f:∀b∈ch,(b∈X.ex\/X.s₀.heap.objs.size<=b)/\b≠X.env.locals/\(∀x c,X.env.cells.lookup x=ax c->c≠b)/\∀p∈X.pn++Z,p.1≠b):
  Inv X Z Y H' {s with heap:=h',gens:=g',drawn:=d',toks:=t'}:=by
 obtain⟨m,⟨o,A,B,j,r⟩,_⟩:=id I.loc;obtain⟨t,g⟩:=u.any j I.free λz=>(f _ z).2.1 rfl;exact I.step (ch:=ch) f (λb o g q a e n=>u.keep b o e n (λz=>(TL.mp (I.Zi b z)).elim g q) a) (λb o _ _ a e n=>u.any e n a) (λb o a e n=>u.free b o e n a) (λb o a e=>u.there b o e a) u.Zx u.Zd u.Zv (λy hm=>by obtain⟨v,h,i,d,k⟩:=hm;rw[j]at d;cases d;exact⟨_,h,i,g,k⟩) Vp l
theorem Inv.turned{t':Nat}{it:TM}(I:Inv X Z Y H s)(k:∀b o,b≠it->s.heap.get? b=ax o->h'.get? b=ax o)(hn:H it=CL)(f:it≠X.env.locals)
  (l:it∈X.ex\/X.s₀.heap.objs.size<=it) (j:∀x c,X.env.cells.lookup x=ax c->c≠it) (i:∀p∈X.pn++Z,p.1≠it):Inv X Z Y H {s with heap:=h',toks:=t'}:=by
 have d:∀b u,H b=ax u->b≠it:=λb u e z=>by rw[z,hn]at e;cases e
 refine I.step (g':=s.gens) (d':=s.drawn) (ch:=[it]) (λb h=>?_) (λb o _ _ a e _=>k b o (λz=>a (by simp[z])) e) (λb o _ _ a e _=>⟨o.slots,k b o (λz=>a (by simp[z])) e⟩) (λ_ _ _ _ n=>n)
  (λb o a e=>⟨o,k b o (λz=>a (by simp[z])) e⟩) (λ_ _ e=>e) (λ_ _ _ e=>e) (λb ps e=>⟨#[],by rw[e];simp⟩) (λm hm=>?_) (λb u e=>?_) I.bare
 .have e:b=it:=by simpa using h
  subst e;exact⟨l,f,j,i⟩
 .obtain⟨o,t,w,g,r⟩:=hm;exact⟨o,t,w,k _ o (en f) g,r⟩
 .refine(I.Vp b u e).Ya (λc v a q=>k c v ?_ q) (λ_ q=>q) λ_ _ q=>q
  rcases a with z|z
  .rw[z];exact d b u e
  .exact d c _ z
theorem Inv.tok(I:Inv X Z Y H s)(t:Nat):Inv X Z Y H {s with toks:=t}:=I.un Un.refl I.Vp
theorem Inv.kept{t':Nat}(I:Inv X Z Y H s)(k:∀b u,s.heap.get? b=ax u->h'.get? b=ax u):Inv X Z Y H {s with heap:=h',toks:=t'}:=I.un (Un.kept k) (I.Vp.kept k)
theorem Inv.laid{a:TM}{o:HO}{t':Nat}(I:Inv X Z Y H s)(k:∀b u,s.heap.get? b=ax u->h'.get? b=ax u)(d:s.heap.objs.size<=a)(new:V9 X.prog X.w (bz H a o) h' a o):
  Inv X Z Y (bz H a o) {s with heap:=h',toks:=t'}:=I.un (Un.laid k d (I.Vp.fresh d)) (I.Vp.laid k d new)
theorem Inv.write{x e:TM}{o:HO}{t':Nat}(I:Inv X Z Y H s)(d:P4 (H x))(f:e=x\/H e=ax (.own x))(k:∀b u,b≠e->s.heap.get? b=ax u->h'.get? b=ax u)(a:∃u,h'.get? e=ax u)
  (new:V9 X.prog X.w (bz H x o) h' x o):Inv X Z Y (bz H x o) {s with heap:=h',toks:=t'}:=I.un (Un.write d f k a) (I.Vp.write d f k a new)
theorem Inv.Y0(I:Inv X Z Y H s)(h:∀p∈ahg,s.heap.get? p.1=ax p.2/\H p.1=CL/\p.1≠X.env.locals/\p.1∉X.fs/\∀v,p.2.data≠.cell v):Inv X ahg Y H s:=
 ⟨I.ok,I.os,I.bare,I.base,I.loc,I.cell,I.free,I.W8,λp a=>(Uy.mp a).elim (λz=>I.pin p (VF _ z)) (h p),I.Vp,I.len⟩
theorem pf{N:ck Str}(d:N.Nodup){i j:Nat}(a:N[i]?=ax x)(b:N[j]?=ax x):i=j:=by obtain⟨h,f⟩:=TN.mp a;obtain⟨g,e⟩:=TN.mp b;exact(List.getElem_inj d).mp (f.trans e.symm)
theorem rO{M:aaJ}{A:Ut}{E:Tw->TK->Prop}{i:Nat}{x:Str}{v:V}{u:Tw}{Q:Unit->TK->Prop}(I:Inv X Z Y H s)(hN:X.N.Nodup)(hi:X.N[i]?=ax x)(hx:Ms X.env.scope x)(r:RelV v u)
  (h:∀s',Inv X Z (Y.set i (ax v)) H s'->(∃a,Heap.SameBut a s.heap s'.heap/\(a=X.env.locals\/X.env.cells.lookup x=ax a))->Q () s') (hf:X.fn x=Ld\/X.env.scope.names.lookup x=ax .local:=by first|exact .inl rfl|exact .inr rfl|assumption):wpAny M A (storeName X.env x u) Q E s:=by
 obtain⟨m,hn,hl⟩:=id I.loc;have aeO:(X.env.scope.kind==.class||(X.env.scope.kind==.module&&X.env.locals !=X.env.globals))=Tx:=by rw[I.ok.kind];rfl
 have hiσ:i<Y.length:=by rw[I.len];exact(TN.mp hi).1
 have cne:=I.cne;have tracked:∀{a:TM} {h':Heap},(∃o,s.heap.get? a=ax o/\H a=CL)->Heap.SameBut a s.heap h'->Zn X.prog X.w H h':=λ{a h'} ha hs b ob e=>by
  obtain⟨_,_,aew⟩:=ha;refine(I.Vp b ob e).Ya (λc w' hc q=>(hs.2 c ?_).trans q) (λ_ q=>q) λ_ _ q=>q;rintro rfl;rcases hc with rfl|hc
  .rw[aew]at e;cases e
  .rw[aew]at hc;cases hc
 rcases hx with hk|hk
 .refine wpAny_storeName_local hk hn (λh' hn' hs=>?_) aeO
  obtain⟨oL,_,_,hoL,_⟩:=id hn;refine h _ ⟨I.ok,I.os,I.bare,⟨λb o e n hb hx=>?_,λb o e n hb hx=>?_,I.base.free,λb o e hx=>?_,I.base.Zx,I.base.Zd,I.base.Zv⟩,⟨_,hn',λj y v' e1 e2 e3=>?_⟩,λy c e=>?_,I.free,I.W8,λp hp=>?_,tracked ⟨oL,hoL,I.free⟩ hs,by simpa using I.len⟩ ⟨_,hs,.inl rfl⟩
  .exact(hs.2 b (Ui (Uc (c5 e) I.ok.above))).trans (I.base.keep b o e n hb hx)
  .obtain⟨sl,e1⟩:=I.base.slot b o e n hb hx;exact⟨sl,(hs.2 b (Ui (Uc (c5 e) I.ok.above))).trans e1⟩
  .obtain⟨o',e1⟩:=I.base.there b o e hx;exact⟨o',(hs.2 b (Ui (Uc (c5 e) I.ok.above))).trans e1⟩
  .by_cases hj:j=i
   .subst hj;rw[hi]at e1;cases e1;rw[Yh hiσ]at e2;cases e2;exact⟨u,r,.inl ⟨hk,by simp⟩⟩
   .rw[Yy (en hj)]at e2
    obtain⟨u',r',q⟩:=hl j y v' e1 e2 e3;refine⟨u',r',?_⟩;rcases q with⟨k,e⟩|⟨k,c,e,z⟩
    .refine .inl ⟨k,?_⟩;have:y≠x:=λe=>hj (pf hN e1 (e▸hi));simp[this,e]
    .exact .inr ⟨k,c,e,z.sameBut hs (cne y c e)⟩
  .obtain⟨w',z⟩:=I.cell y c e;exact⟨w',z.sameBut hs (cne y c e)⟩
  .obtain⟨e,n,ne,nf,d⟩:=I.pin p hp;exact⟨(hs.2 p.1 ne).trans e,n,ne,nf,d⟩
 .have hfn:X.fn x=Ld:=by
   rcases hf with z|z
   .exact z
   .rw[z]at hk;cases hk
  obtain⟨c,hc⟩:=I.ok.has x (.inl hk);obtain⟨w',z⟩:=I.cell x c hc;refine wpAny_storeName_cell I.ok.kind hk hc z (λh' hc' hs=>?_);obtain⟨oc,hoc,akL⟩:=id z;refine h {s with heap:=h'} ⟨I.ok,I.os,I.bare,⟨λb o e n hb hx=>?_,λb o e n hb hx=>?_,I.base.free,λb o e hx=>?_,I.base.Zx,I.base.Zd,I.base.Zv⟩,⟨m,hn.sameBut hs (en (cne x c hc)),λj y v' e1 e2 e3=>?_⟩,λy c' e=>?_,I.free,I.W8,λp hp=>?_,tracked ⟨oc,hoc,I.W8 x c hc⟩ hs,by simpa using I.len⟩ ⟨c,hs,.inr hc⟩
  .exact(hs.2 b (Ui (Uc (c5 e) (I.ok.cab x c hfn hc)))).trans (I.base.keep b o e n hb hx)
  .obtain⟨sl,e1⟩:=I.base.slot b o e n hb hx;exact⟨sl,(hs.2 b (Ui (Uc (c5 e) (I.ok.cab x c hfn hc)))).trans e1⟩
  .obtain⟨o',e1⟩:=I.base.there b o e hx;exact⟨o',(hs.2 b (Ui (Uc (c5 e) (I.ok.cab x c hfn hc)))).trans e1⟩
  .by_cases hj:j=i
   .subst hj;rw[hi]at e1;cases e1;rw[Yh hiσ]at e2;cases e2;exact⟨u,r,.inr ⟨.inl hk,c,hc,hc'⟩⟩
   .rw[Yy (en hj)]at e2
    obtain⟨u',r',q⟩:=hl j y v' e1 e2 e3;refine⟨u',r',?_⟩;rcases q with q|⟨k,c',e,z'⟩
    .exact .inl q
    .refine .inr ⟨k,c',e,z'.sameBut hs ?_⟩;rintro rfl;exact hj (pf hN e1 (I.ok.inj _ _ _ e hc▸hi))
  .by_cases hcc:c'=c
   .subst hcc;exact⟨_,hc'⟩
   .obtain⟨w2,z2⟩:=I.cell y c' e;exact⟨w2,z2.sameBut hs hcc⟩
  .obtain⟨e,n,ne,nf,d⟩:=I.pin p hp;refine⟨(hs.2 p.1 ?_).trans e,n,ne,nf,d⟩;intro q;rw[q,hoc]at e;have q':oc=p.2:=Us e;exact d w' (by rw[<-q'];exact akL)
theorem pz{i:Nat}{v:V}{u:Tw}{Q:Unit->TK->Prop}(I:Inv X Z Y H s)(hN:X.N.Nodup)(hi:X.N[i]?=ax x)(hx:Ms X.env.scope x)(r:RelV v u)
  (h:∀s',Inv X Z (Y.set i (ax v)) H s'->Q () s') (hf:X.fn x=Ld\/X.env.scope.names.lookup x=ax .local:=by first|exact .inl rfl|exact .inr rfl|assumption):wpAny M A (storeName X.env x u) Q E s:=
 rO I hN hi hx r (λs' I' _=>h s' I') hf
theorem Inv.ac8{a:TK}{ch:ck TM}(I:Inv X Z Y H s)(g:a.os=s.os)(u:Un (vL X.stack) ch H H' s.heap a.heap)(Vp:Zn X.prog X.w H' a.heap)(h:AllBare a.gens)
  (d:∀b∈ch,(b∈X.ex\/X.s₀.heap.objs.size<=b)/\b≠X.env.locals/\(∀x c,X.env.cells.lookup x=ax c->c≠b)/\∀p∈X.pn++Z,p.1≠b):Inv X Z Y H' a:=by
 obtain⟨h',g',d',t',f⟩:=a;have e:f=s.os:=g;subst e;exact I.call (g':=g') (t':=t') (d':=d') u Vp h d
end
abbrev XK:=Tw->cv TM->Hp->Prop
abbrev St:=ck (cv V)
abbrev VK:=V->Hp->Prop
abbrev TE:=St->Hp->VK->Prop
abbrev TT:=St->Hp->(Bool->Hp->Prop)->Prop
abbrev TA:=St->Hp->(ck V->Hp->Prop)->Prop
structure Ends where
 nx:St->Hp->Prop
 rt:VK
 bk:St->Hp->Prop:=λ_ _=>False
 ct:St->Hp->Prop:=λ_ _=>False
abbrev TS:=Ends->St->Hp->Prop
def EP(X:Cx)(a:ck (TM×Obj))(b:St)(Q:VK)(u:Tw)(d:TK):Prop:=∃v H',Inv X a b H' d/\RelV v u/\Q v H'
def TP(X:Cx)(a:ck (TM×Obj))(d:St)(Q:Bool->Hp->Prop)(b:Bool)(e:TK):Prop:=∃H',Inv X a d H' e/\Q b H'
def AP(X:Cx)(a:ck (TM×Obj))(b:St)(Q:ck V->Hp->Prop)(d:ck Tw)(e:TK):Prop:=∃vs H',Inv X a b H' e/\Vals vs d/\Q vs H'
def SP(X:Cx)(a:ck (TM×Obj))(D:Ends)(f:Flow)(b:TK):Prop:=
 match f with
 |.next=>∃σ' H',Inv X a σ' H' b/\D.nx σ' H'
 |.brk=>∃σ' H',Inv X a σ' H' b/\D.bk σ' H'
 |.cont=>∃σ' H',Inv X a σ' H' b/\D.ct σ' H'
 |.ret u=>∃v σ' H',Inv X a σ' H' b/\RelV v u/\D.rt v H'
def PE(X:Cx)(e:Ue)(t:TE):Prop:=
 ∀(a:ck (TM×Obj)) (s:TK) (b:St) (H:Hp) (Q:VK),Inv X a b H s->t b H Q->wpAny (model X.prog X.w) X.A (eval e X.env) (EP X a b Q) X.xe s
def PT(X:Cx)(e:Ue)(t:TT):Prop:=
 ∀(a:ck (TM×Obj)) (s:TK) (b:St) (H:Hp) (Q:Bool->Hp->Prop),Inv X a b H s->t b H Q->wpAny (model X.prog X.w) X.A (isTrue e X.env (eval e X.env)) (TP X a b Q) X.xe s
def PW(X:Cx)(e:Ue)(t:TT):Prop:=
 ∀(b:Sem Tw) (a:ck (TM×Obj)) (s:TK) (d:St) (H:Hp) (Q:Bool->Hp->Prop),Inv X a d H s->t d H Q->wpAny (model X.prog X.w) X.A (isTrue e X.env b) (TP X a d Q) X.xe s
theorem PW.pt(h:PW X e t):PT X e t:=h _
def PA(X:Cx)(es:ck Ue)(t:TA):Prop:=
 ∀(d:Pos) (a:ck (TM×Obj)) (s:TK) (b:St) (H:Hp) (Q:ck V->Hp->Prop),Inv X a b H s->t b H Q->wpAny (model X.prog X.w) X.A (spliced (backTo d (Uh es X.env))) (AP X a b Q) X.xe s
def PS(X:Cx)(st:Wo)(t:TS):Prop:=
 ∀(a:ck (TM×Obj)) (s:TK) (b:St) (H:Hp) (D:Ends),Inv X a b H s->t D b H->wpAny (model X.prog X.w) X.A (exec st X.env) (SP X a D) X.xe s
def PSs(X:Cx)(st:ck Wo)(t:TS):Prop:=
 ∀(a:ck (TM×Obj)) (s:TK) (b:St) (H:Hp) (D:Ends),Inv X a b H s->t D b H->wpAny (model X.prog X.w) X.A (execs st X.env) (SP X a D) X.xe s
theorem c9{α:Type}{t:Sem α}{Q b:α->TK->Prop}{M:aaJ}{A:Ut}{E:Tw->TK->Prop}{s:TK}(h:wpAny M A t Q E s)(d:∀a s,Q a s->b a s):wpAny M A t b E s:=wpAny_mono h d λ_ _ x=>x
section
variable{X:Cx}
def lB(i:Nat):TE:=λa H Q=>∃v,a[i]?=ax (ax v)/\Q v H
def tC(v:V):TE:=λ_ H Q=>Q v H
theorem DR(p:X.N[i]?=ax x)(n:PX X.env.scope x)(hd:(x==("__debug__":Str))=Tx:=by decide)(g:(x==("__classdict__":Str))=Tx:=by decide):PE X (.Name x pos) (lB i):=by
 intro d s k H Q I h;obtain⟨v,e,h⟩:=h;obtain⟨m,hn,o⟩:=I.loc;obtain⟨u,r,l⟩:=o i x v p e n;have b:EP X d k Q u s:=⟨v,H,I,r,h⟩;rcases l with⟨a,hm⟩|⟨a,c,j,f⟩
 .exact aeB (wpAny_loadName_local I.ok.kind a hn hm b) hd
 .rcases a with a|a
  .exact aeB (wpAny_loadName_cell I.ok.kind a j f b) hd
  .exact aeB (wpAny_loadName_free I.ok.kind a j f b g) hd
theorem hJ{i j pos}:PE X (.Constant (.int i) j pos) (tC (.int i)):=λ_ _ _ H _ I h=>aeC ⟨.int i,H,I.tok _,⟨_,rfl⟩,h⟩
theorem BC{b j pos}:PE X (.Constant (.bool b) j pos) (tC (.bl b)):=λ_ _ _ H _ I h=>Constant_bool ⟨.bl b,H,I,rfl,h⟩
theorem fx{j pos}:PE X (.Constant .none j pos) (tC .VX):=λ_ _ _ H _ I h=>Constant_none ⟨.VX,H,I,rfl,h⟩
theorem Jv{x j pos}:PE X (.Constant (.str x) j pos) (tC (.str x)):=λ_ _ _ H _ I h=>Calls.Constant_str ⟨.str x,H,I.tok _,⟨_,rfl⟩,h⟩
def Gl(X:Cx)(x:Str):Prop:=X.env.kindOf x=ax .globalImplicit
theorem mI(I:Inv X pins σ H s)(a:Gl X x)(hm:X.mg x=ax u)(h:Q u s)
  (hd:(x==("__debug__":Str))=Tx:=by decide):wpAny (model X.prog X.w) X.A (eval (.Name x pos) X.env) Q E s:=
 Calls.Name_function_global I.ok.kind a (Calls.loadGlobal_global (by rw[I.ok.glob];exact I.mod.glob.keeps I.bk) hm h) hd
theorem lN(I:Inv X pins σ H s)(b:Gl X x)(hm:X.mg x=CL)(a:UK x=ax u)(h:Q u s)
  (hn:x≠ "__name__":=by decide) (hd:(x==("__debug__":Str))=Tx:=by decide):wpAny (model X.prog X.w) X.A (eval (.Name x pos) X.env) Q E s:=by
 obtain⟨f,e,d⟩:=I.mod.blt;exact Calls.Name_function_global I.ok.kind b (Calls.loadGlobal_builtin (by rw[I.ok.glob];exact I.mod.glob.keeps I.bk) hm (by rw[I.ok.blt];exact e.keeps I.bk) ((d x hn).trans a) h) hd
theorem fP{x:Str}{v:V}{u:Tw}{a:Pos}(b:Gl X x)(hm:X.mg x=ax u)(r:RelV v u)(hd:(x==("__debug__":Str))=Tx:=by decide):PE X (.Name x a) (tC v):=
 λ_ _ _ H _ I h=>mI I b hm ⟨v,H,I,r,h⟩ hd
theorem ym(b:Gl X x)(hm:X.mg x=CL)(a:UK x=ax u)(r:RelV v u)(hn:x≠ "__name__":=by decide)(hd:(x==("__debug__":Str))=Tx:=by decide):PE X (.Name x pos) (tC v):=
 λ_ _ _ H _ I h=>lN I b hm a ⟨v,H,I,r,h⟩ hn hd
variable{a b:Ue}{Y U:TE}{Z:Pos}
def tB(t:TE):TT:=λd H Q=>t d H λx e=>∃c,x=.bl c/\Q c e
theorem AW{e:Ue}{t:TE}(h:PE X e t)(l:∀whole,isTrue e X.env whole=(do let v<-whole;standAt e.pos;holding [v] (truthy v)):=by intro _;rfl):PT X e (tB t):=by intro f s g H Q I k;refine isTrue_plain (c9 (h f s g H _ I k) λv o ⟨x,n,m,i,j⟩=>?_) (l _);obtain⟨d,rfl,q⟩:=j;cases i;exact Vv ⟨n,m,q⟩
variable{S R:TT}{T:ck Ue}
def Pj(t u:TT):TT:=λd H Q=>t d H λc e=>if c=Ld then u d e Q else Q Tx e
def Qx(t u:TT):TT:=λd H Q=>t d H λc e=>if c=Ld then Q Ld e else u d e Q
def Hf(t:TT):TT:=λd H Q=>t d H λc e=>Q (!c) e
theorem EE(ha:PT X a S):PW X (.BoolOp .And [a] Z) S:=by
 intro g d s f H Q I h;refine isTrue_and (c9 (ha d s f H Q I h) λc i e=>?_);cases c with
 |true=>exact isTrue_and_nil e
 |false=>exact e
theorem AU(ha:PT X a S):PW X (.BoolOp .Or [a] Z) S:=by
 intro g d s f H Q I h;refine isTrue_or (c9 (ha d s f H Q I h) λc i e=>?_);cases c with
 |false=>exact isTrue_or_nil e
 |true=>exact e
theorem LA(ha:PT X a S)(l:PW X (.BoolOp .And (b::T) Z) R):PW X (.BoolOp .And (a::b::T) Z) (Pj S R):=by
 intro j d s e H Q I h;refine isTrue_and (c9 (ha d s e H _ I h) λc k ⟨i,g,f⟩=>?_);cases c with
 |true=>exact l j d k e i Q g f
 |false=>exact⟨i,g,f⟩
theorem Hj(ha:PT X a S)(l:PW X (.BoolOp .Or (b::T) Z) R):PW X (.BoolOp .Or (a::b::T) Z) (Qx S R):=by
 intro j d s e H Q I h;refine isTrue_or (c9 (ha d s e H _ I h) λc k ⟨i,g,f⟩=>?_);cases c with
 |true=>exact⟨i,g,f⟩
 |false=>exact l j d k e i Q g f
theorem B0(ha:PT X a S):PT X (.UnaryOp .Not a Z) (Hf S):=by intro d s e H Q I h;exact isTrue_not (ha d s e H (λc f=>Q (!c) f) I h)
def Hy(Y U:TE):TE:=λd H Q=>Y d H λx e=>∃c,x=.bl c/\if c=Ld then U d e Q else Q (.bl Tx) e
def Px(Y U:TE):TE:=λd H Q=>Y d H λx e=>∃c,x=.bl c/\if c=Ld then Q (.bl Ld) e else U d e Q
def HF(Y:TE):TE:=λd H Q=>Y d H λx e=>∃c,x=.bl c/\Q (.bl (!c)) e
theorem Jz{op}(h:PE X a t):PE X (.BoolOp op [a] Z) t:=λd s e H Q I f=>BoolOp_one (h d s e H Q I f)
theorem JH(ha:PE X a Y)(l:PE X (.BoolOp .And (b::T) Z) U):PE X (.BoolOp .And (a::b::T) Z) (Hy Y U):=by
 intro d s f H Q I h;refine BoolOp_and (c9 (ha d s f H _ I h) λv j ⟨x,i,g,k,e⟩=>?_);obtain⟨c,rfl,e⟩:=e;cases k;refine Vv ?_;cases c with
 |true=>exact l d j f i Q g e
 |false=>exact⟨.bl Tx,i,g,rfl,e⟩
theorem MX(ha:PE X a Y)(l:PE X (.BoolOp .Or (b::T) Z) U):PE X (.BoolOp .Or (a::b::T) Z) (Px Y U):=by
 intro d s f H Q I h;refine BoolOp_or (c9 (ha d s f H _ I h) λv j ⟨x,i,g,k,e⟩=>?_);obtain⟨c,rfl,e⟩:=e;cases k;refine Vv ?_;cases c with
 |false=>exact l d j f i Q g e
 |true=>exact⟨.bl Ld,i,g,rfl,e⟩
theorem JY(ha:PE X a Y):PE X (.UnaryOp .Not a Z) (HF Y):=by intro d s f H Q I h;refine UnaryOp_ (c9 (ha d s f H _ I h) λv k ⟨x,j,i,g,e⟩=>?_);obtain⟨c,rfl,e⟩:=e;cases g;exact not_of (Vv ⟨.bl (!c),j,i,rfl,e⟩)
def S4(t:TT)(Y U:TE):TE:=λd H Q=>t d H λc e=>if c=Ld then Y d e Q else U d e Q
end
def XG(K:cL)(H:Hp)(a:TM)(xs:ck V):Prop:=
 Rd H a (.lst xs)\/
  ∃(o:Obj) (b:Array Tw) (n:Nat),K.lookup a=ax o/\o.cls=.type "list"/\o.dict=CL/\o.data=.seq b n/\b.size<=T8/\Vals xs b.toList
def XA(K:cL)(H:Hp)(a:TM)(xs:ck V):Prop:=
 Rd H a (.tup xs)\/
  ∃(o:Obj) (b:Array Tw) (n:Nat),K.lookup a=ax o/\(o.cls=.type "tuple"/\o.dict=CL)/\o.data=.seq b n/\b.size<=T8/\Vals xs b.toList
def QC:Tw->cv V
 |.none=>ax .VX
 |.bool b=>ax (.bl b)
 |.int i _=>ax (.int i)
 |.str x _=>ax (.str x)
 |.bytes b _=>ax (.byt b)
 |.float b _=>ax (.flt b)
 |.ref a=>ax (.ref a)
 |.type n=>ax (.ty n)
 |_=>CL
theorem RelV.abs(r:RelV x u):QC u=ax x:=by
 cases x with
 |VX=>cases r;rfl
 |bl _=>cases r;rfl
 |int _=>obtain⟨t,rfl⟩:=r;rfl
 |str _=>obtain⟨t,rfl⟩:=r;rfl
 |byt _=>obtain⟨t,rfl⟩:=r;rfl
 |flt _=>obtain⟨t,rfl⟩:=r;rfl
 |ref _=>cases r;rfl
 |ty _=>cases r;rfl
theorem RelV.inj(r:RelV x u)(q:RelV y u):x=y:=Us (r.abs.symm.trans q.abs)
theorem Vals.inj:∀{xs a:ck V} {b:ck Tw},Vals xs b->Vals a b->xs=a
 |_,_,_,.nil,.nil=>rfl
 |_,_,_,.cons r t,.cons r' t'=>by rw[r.inj r',Vals.inj t t']
section
variable{X:Cx}{Z:ck (TM×Obj)}{Y:St}{H:Hp}{s:TK}{a:TM}{xs U:ck V}
theorem XG.of{K:cL}(h:H a=ax (.lst xs)):XG K H a xs:=.inl (.inl h)
theorem XA.of{K:cL}(h:H a=ax (.tup xs)):XA K H a xs:=.inl (.inl h)
theorem Inv.list(I:Inv X Z Y H s)(h:XG X.K H a xs):∃UD:ck Tw,Vals xs UD/\PlainL s.heap a UD.toArray/\xs.length<=T8:=by
 rcases h with h|⟨o,UD,n,hk,hc,hd,hs,hz,r⟩
 .obtain⟨z,UD,n,r,e⟩:=h.ok I.Vp;exact⟨UD,r,⟨_,n,e,rfl,rfl,rfl⟩,z⟩
 .refine⟨UD.toList,r,⟨o,n,I.Zm a o hk,hc,hd,by simpa using hs⟩,?_⟩;have e:=r.length;simp only[Xm]at e;ext
theorem Inv.tuple(I:Inv X Z Y H s)(h:XA X.K H a xs):∃UD:ck Tw,Vals xs UD/\IsTup s.heap a UD.toArray/\xs.length<=T8:=by
 rcases h with h|⟨o,UD,n,hk,hc,hs,hz,r⟩
 .obtain⟨z,UD,r,p⟩:=h.ok I.Vp;exact⟨UD,r,p.tup,z⟩
 .refine⟨UD.toList,r,⟨o,I.Zm a o hk,hc.1,n,by simpa using hs⟩,?_⟩;have e:=r.length;simp only[Xm]at e;ext
theorem Inv.abj(I:Inv X Z Y H s)(h:XG X.K H a xs)(h':XG X.K H a U):xs=U:=by
 obtain⟨j,r,⟨o,n,e,_,_,d⟩,_⟩:=I.list h;obtain⟨b,i,⟨k,l,f,_,_,g⟩,_⟩:=I.list h';rw[e]at f;cases f;rw[d]at g;injection g with d1 _;have:j=b:=by simpa using ey aeD d1
 subst this;exact r.inj i
theorem Inv.acE(I:Inv X Z Y H s)(h:XA X.K H a xs)(h':XA X.K H a U):xs=U:=by
 obtain⟨j,r,⟨o,e,_,n,d⟩,_⟩:=I.tuple h;obtain⟨b,i,⟨k,f,_,l,g⟩,_⟩:=I.tuple h';rw[e]at f;cases f;rw[d]at g;injection g with d1 _;have:j=b:=by simpa using ey aeD d1
 subst this;exact r.inj i
end
abbrev Cx.Yp(X:Cx)(E:Tw->TK->Prop):Cx:={X with xe:=E}
abbrev Cx.nox(X:Cx):Cx:=X.Yp λ_ _=>False
theorem Cx.Ok.Yp{X:Cx}(ok:X.Ok)(E:Tw->TK->Prop):(X.Yp E).Ok:=
 ⟨ok.mod,ok.kind,ok.glob,ok.blt,ok.above,ok.inj,ok.has,ok.cab,ok.hd,ok.frames,ok.stk,ok.exf,ok.bs,ok.bsz,ok.aaZ,ok.aa9,ok.YF,ok.frf⟩
theorem Cx.Ok.Xx{X:Cx}(ok:(X.Yp E).Ok):X.Ok:=
 ⟨ok.mod,ok.kind,ok.glob,ok.blt,ok.above,ok.inj,ok.has,ok.cab,ok.hd,ok.frames,ok.stk,ok.exf,ok.bs,ok.bsz,ok.aaZ,ok.aa9,ok.YF,ok.frf⟩
section
variable{X:Cx}{Z:ck (TM×Obj)}{Y:St}{H:Hp}{s:TK}{E:Tw->TK->Prop}
theorem Inv.Yp(I:Inv X Z Y H s)(E:Tw->TK->Prop):Inv (X.Yp E) Z Y H s:=⟨I.ok.Yp E,I.os,I.bare,I.base,I.loc,I.cell,I.free,I.W8,I.pin,I.Vp,I.len⟩
theorem Inv.Xx(I:Inv (X.Yp E) Z Y H s):Inv X Z Y H s:=⟨I.ok.Xx,I.os,I.bare,I.base,I.loc,I.cell,I.free,I.W8,I.pin,I.Vp,I.len⟩
theorem SP.Xx(h:SP (X.Yp E) Z D f s'):SP X Z D f s':=by
 cases f with
 |next=>obtain⟨a,b,I,q⟩:=h;exact⟨a,b,I.Xx,q⟩
 |brk=>obtain⟨a,b,I,q⟩:=h;exact⟨a,b,I.Xx,q⟩
 |cont=>obtain⟨a,b,I,q⟩:=h;exact⟨a,b,I.Xx,q⟩
 |ret u=>obtain⟨v,a,b,I,r,q⟩:=h;exact⟨v,a,b,I.Xx,r,q⟩
theorem PSs.nox{st:ck Wo}(h:PSs X.nox st t):PSs X st t:=λZ s Y H D I a=>
 wpAny_mono (h Z s Y H D (I.Yp _) a) (λ_ _ q=>q.Xx) λ_ _ z=>False.elim z
end
section
variable{X:Cx}{st:Wo}{U:ck Wo}{t u:TS}{e:Ue}{Y:TE}{Z:Pos}
def Cd:TS:=λD a H=>D.nx a H
def Eo(t u:TS):TS:=λD a H=>t {D with nx:=u D} a H
theorem eZ:PSs X [] Cd:=λ_ _ a H _ I h=>YL ⟨a,H,I,h⟩
theorem aH(j:PS X st t)(i:PSs X U u):PSs X (st::U) (Eo t u):=by
 intro a s d H D I h;refine afV (c9 (j a s d H {D with nx:=u D} I h) λf g q=>?_);cases f with
 |next=>obtain⟨b,l,k,q⟩:=q;exact i a g b l D k q
 |ret v=>exact q
 |brk=>exact q
 |cont=>exact q
theorem bh(d:PS X st t):PSs X [st] t:=by
 intro a s b H D I h;refine afV (c9 (d a s b H D I h) λf g q=>?_);cases f with
 |next=>exact YL q
 |ret v=>exact q
 |brk=>exact q
 |cont=>exact q
theorem Inv.quiet{a:ck (TM×Obj)}{b:St}{H:Hp}{s:TK}(I:Inv X a b H s):interactive X.env=Tx:=by simp[interactive,I.ok.kind]
def xK(Y:TE):TS:=λD a H=>Y a H λ_ b=>D.nx a b
theorem oU(g:PE X e Y)(f:X1 e CL Z.line X.env=pure Tx:=by rfl):PS X (.Expr e Z) (xK Y):=by intro a s b H D I h;exact wpAny_Expr_any (c9 (g a s b H _ I h) λv k ⟨x,j,i,l,d⟩=>⟨b,j,i,d⟩) I.quiet f
def FB(Y:TE):TS:=λD a H=>Y a H D.rt
theorem jc(g:PE X e Y):PS X (.Return (ax e) Z) (FB Y):=by intro a s b H D I h;exact wpAny_Return_some (c9 (g a s b H _ I h) λv k ⟨x,j,i,d,f⟩=>⟨x,b,j,i,d,f⟩)
def Fm(c:TT)(t u:TS):TS:=λD a H=>c a H λb d=>if b=Ld then t D a d else u D a d
theorem jV(m:PT X c tc)(ha:PSs X a t)(n:PSs X b u):PS X (.If c a b Z) (Fm tc t u):=by
 intro f s g H D I h;refine wpAny_If (c9 (m f s g H _ I h) λd i ⟨l,k,j⟩=>?_);cases d with
 |true=>exact ha f i g l D k j
 |false=>exact n f i g l D k j
def JK:TS:=λ_ _ _=>False
theorem cT:PS X st JK:=λ_ _ _ _ _ _ h=>h.elim
end
abbrev TG:=V->St->Hp->(St->Hp->Prop)->Prop
abbrev zO:=ck V->St->Hp->(St->Hp->Prop)->Prop
def PG(X:Cx)(a:Ue)(t:TG):Prop:=
 ∀(b:ck (TM×Obj)) (s:TK) (d:St) (H:Hp) (v:V) (u:Tw) (Q:St->Hp->Prop),Inv X b d H s->RelV v u->t v d H Q->
  wpAny (model X.prog X.w) X.A (assign a X.env u) (λ_ e=>∃σ' H',Inv X b σ' H' e/\Q σ' H') X.xe s
def NH(X:Cx)(e:ck Ue)(t:zO):Prop:=
 ∀(a:ck (TM×Obj)) (s:TK) (b:St) (H:Hp) (vs:ck V) (d:ck Tw) (Q:St->Hp->Prop),Inv X a b H s->Vals vs d->t vs b H Q->
  wpAny (model X.prog X.w) X.A (assignInOrder ((assignEach e X.env).map (·.2)) d) (λ_ f=>∃σ' H',Inv X a σ' H' f/\Q σ' H') X.xe s
abbrev Sj:=V->V->Hp->VK->Prop
def Sx(X:Cx)(op:adO)(t:Sj):Prop:=
 ∀(a:ck (TM×Obj)) (s:TK) (b:St) (H:Hp) (x y:V) (v u:Tw) (Q:VK),Inv X a b H s->RelV x v->RelV y u->t x y H Q->
  wpAny (model X.prog X.w) X.A (inplaceOp op v u) (EP X a b Q) X.xe s
section
variable{X:Cx}{Z:Pos}
def oa(i:Nat):TG:=λv a H Q=>Q (a.set i (ax v)) H
theorem Gf(hN:X.N.Nodup)(hi:X.N[i]?=ax x)(hx:Ms X.env.scope x)(hf:X.fn x=Ld\/X.env.scope.names.lookup x=ax .local:=by first|exact .inl rfl|exact .inr rfl|assumption):PG X (.Name x Z) (oa i):=by intro pins s σ H v u Q I r h;exact afk (pz I hN hi hx r (λs' I'=>⟨_,H,I',h⟩) hf)
def KB:zO:=λvs a H Q=>vs=[]/\Q a H
def D7(t:TG)(u:zO):zO:=λvs b H Q=>∃v r,vs=v::r/\t v b H λa d=>u r a d Q
theorem EL:NH X [] KB:=by intro a s b H vs d Q I r h;obtain⟨e,h⟩:=h;subst e;cases r;exact assignInOrder_nil ⟨b,H,I,h⟩
theorem Cz(l:PG X e t)(k:NH X es u)
  (j:(assignEach (e::es) X.env).map (·.2)=assign e X.env::(assignEach es X.env).map (·.2):=by rfl):NH X (e::es) (D7 t u):=by
 intro a s d H vs q Q I r h;obtain⟨v,p,m,h⟩:=h;subst m;cases r with
 |cons r g=>rw[j];refine assignInOrder_cons (c9 (l a s d H _ _ _ I r h) λ_ f ⟨b,o,n,i⟩=>?_);exact k a f b o _ _ Q n g i
def Kk(K:cL)(n:Nat)(t:zO):TG:=λv b H Q=>∃a xs,v=.ref a/\XA K H a xs/\xs.length=n/\t xs b H Q
theorem JQ(p:X.calm=Ld)(h:NH X es t)
  (hn:(assignEach es X.env).length=n:=by rfl) (w:(assignEach es X.env).findIdx? (·.1)=CL:=by rfl):PG X (.Tuple es k Z) (Kk X.K n t):=by
 intro d s g H v u Q I r f;obtain⟨a,xs,q,l,m,f⟩:=f;subst q;cases r;obtain⟨B,rv,j,z⟩:=I.tuple l;refine assign_Tuple_tuple (I.ok.hd p) j (by simp[hn,<-m,rv.length]) w λA i=>?_;have y:=I.kept (t':=s.toks) λb o e=>i b o (Ui (c5 e)) e;exact h d _ g H xs _ Q y (by simpa using rv) f
def uQ(b:TE)(g:TG):TS:=λD a H=>b a H λx d=>g x a d D.nx
theorem Jl(m:PE X e te)(l:PG X tg g)(k:swapsWithSole [tg] e Z.line X.env=pure Tx:=by rfl)(j:swappedStores [tg] e X.env=pure CL:=by rfl)
  (n:(assignEach [tg] X.env).map (·.2)=[assign tg X.env]:=by rfl):PS X (.Assign [tg] e Z) (uQ te g):=by
 intro a s b H D I h;refine wpAny_Assign_stores (c9 (m a s b H _ I h) λv d ⟨x,p,o,f,i⟩=>?_) k j;rw[n];exact c9 (l a d b p x v _ o f i) λ_ r q=>q
theorem cw{i:Nat}{x:Str}{e:Ue}{te:TE}{pos':Pos}(hN:X.N.Nodup)(hi:X.N[i]?=ax x)(hx:Ms X.env.scope x)(he:PE X e te)(hs:X1 e (ax (.Name x pos')) Z.line X.env=pure Tx:=by rfl)(hf:X.fn x=Ld\/X.env.scope.names.lookup x=ax .local:=by first|exact .inl rfl|exact .inr rfl|assumption):
  PS X (.Assign [.Name x pos'] e Z) (uQ te (oa i)):=by
 intro pins s σ H D I h;refine wpAny_Assign_Name (c9 (he pins s σ H _ I h) λv s1 ⟨y,H1,I1,r1,q1⟩=>?_) hs;exact pz I1 hN hi hx r1 (λs2 I2=>⟨_,H1,I2,q1⟩) hf
end
structure It where
 go:Nat->Hp->Prop
 yld:Nat->Hp->V->Hp->Prop
 stop:Nat->Hp->Prop
def kY(X:Cx)(a:ck (TM×Obj))(H:Hp)(b:TM):Prop:=
 H b=CL/\b≠X.env.locals/\b∉X.fs/\(b∈X.ex\/X.s₀.heap.objs.size<=b)/\(∀x c,X.env.cells.lookup x=ax c->c≠b)/\∀p∈X.pn++a,p.1≠b
theorem Inv.aaB(I:Inv X pins σ H s)(a:s.heap.objs.size<=b)(hn:H' b=CL):kY X pins H' b:=by
 refine⟨hn,Vb (Uc I.lt a),I.ahh a,.inr (UH I.sz a),λx c e z=>?_,λp d z=>?_⟩
 .obtain⟨v,q⟩:=I.cell x c e;exact a7 (Uc q.lt (by rw[z];exact a)) (VD _)
 .exact a7 (Uc (c5 (I.pin p d).1) (by rw[z];exact a)) (VD _)
structure Turn(P:Ug)(w:Ux)(K:cL)(tg:Ue)(J:It)(fp:ck TM)(it:TM)(tn:Nat->Heap->Prop):Prop where
 mem:it∈fp
 obj:∀i h,tn i h->∀b∈fp,∃o,h.get? b=ax o/\∀v,o.data≠.cell v
 keep:∀i h h',tn i h->(∀b∈fp,∀o,h.get? b=ax o->h'.get? b=ax o)->tn i h'
 item:∀(X:Cx),X.prog=P->X.w=w->X.K=K->X.calm=Ld->∀(i:Nat) (pins:ck (TM×Obj)) (s:TK) (σ:St) (H:Hp) (E:Tw->TK->Prop),Inv X pins σ H s->(∀b∈fp,kY X pins H b)->tn i s.heap->J.go i H->
  wpAny (model P w) X.A (pyNext (.ref it)) (λr s1=>∃u,r=ax u/\
   wpAny (model P w) X.A (letOwnedTupleGo tg (.ref it) u) (λ_ s2=>∃x H',Inv X pins σ H' s2/\RelV x u/\J.yld i H x H'/\tn (i+1) s2.heap/\∀b∈fp,H' b=CL) E s1) E s
 done:∀(X:Cx),X.prog=P->X.w=w->X.K=K->X.calm=Ld->∀(i:Nat) (pins:ck (TM×Obj)) (s:TK) (σ:St) (H:Hp) (E:Tw->TK->Prop),Inv X pins σ H s->(∀b∈fp,kY X pins H b)->tn i s.heap->J.stop i H->
  wpAny (model P w) X.A (pyNext (.ref it)) (λr s1=>r=CL/\Inv X pins σ H s1) E s
 self:∀(A:Ut) (i:Nat) (s:TK) (Q:Tw->TK->Prop) (E:Tw->TK->Prop),tn i s.heap->Q (.ref it) s->wpAny (model P w) A (pyIter (.ref it)) Q E s
abbrev TI:=St->Hp->(It->Hp->Prop)->Prop
def Ru(X:Cx)(a:ck (TM×Obj))(j:St)(k:Ue)(R:It->Hp->Prop)(d:Tw)(g:TK):Prop:=
 ∃(h:TM) (i:ck TM) (f:Nat->Heap->Prop) (J:It) (e:Hp),d=.ref h/\Inv X a j e g/\Turn X.prog X.w X.K k J i h f/\f 0 g.heap/\(∀b∈i,kY X a e b)/\R J e
def PI(X:Cx)(f b:Ue)(e:TI):Prop:=
 ∀(a:ck (TM×Obj)) (s:TK) (d:St) (H:Hp) (R:It->Hp->Prop),Inv X a d H s->e d H R->
  wpAny (model X.prog X.w) X.A (eval b X.env) (λv g=>wpAny (model X.prog X.w) X.A (pyIter v) (Ru X a d f R) X.xe g) X.xe s
theorem yt{M:aaJ}{A:Ut}{E:Tw->TK->Prop}{s:TK}{b:Ue}{it:TM}{u:Tw}{o:Obj}{n:String}{vs:Array Tw}{Q:Unit->TK->Prop}(d:s.heap.get? it=ax o)(e:o.cls=.type n)(hd:o.data=.fields vs)
  (hn:["enumerate","zip","dict_itemiterator","dict_reverseitemiterator","odict_iterator","itertools.zip_longest","itertools.pairwise"].contains n=Tx) (a:Q () s):wpAny M A (letOwnedTupleGo b (.ref it) u) Q E s:=by
 unfold letOwnedTupleGo;cases b<;>first
  |exact TR a
  |(cases u<;>first
    |exact TR a
    |(refine OK (wpAny_load d ?_)
      rw[e,hd];show wpAny M A (if(["enumerate","zip","dict_itemiterator","dict_reverseitemiterator","odict_iterator","itertools.zip_longest","itertools.pairwise"].contains n&&vs[0]? ==ax (rawInt _))=Ld then _ else _) Q E s;rw[ar (by intro h;rw[hn,Yz]at h;cases h)];exact TR a))
def P7(K:cL)(a:TM):It:=
 ⟨λi H=>∃xs x,XG K H a xs/\xs[i]?=ax x,λi H x b=>b=H/\∀xs,XG K H a xs->xs[i]?=ax x,λi H=>∃xs,XG K H a xs/\xs.length<=i⟩
def QU(K:cL)(a:TM):It:=
 ⟨λi H=>∃xs x,XA K H a xs/\xs[i]?=ax x,λi H x b=>b=H/\∀xs,XA K H a xs->xs[i]?=ax x,λi H=>∃xs,XA K H a xs/\xs.length<=i⟩
def P2(lo:Int)(n:Nat):It:=⟨λi _=>i<n,λi H x a=>a=H/\x=.int (lo+i),λi _=>n<=i⟩
theorem zY{K:cL}(a it:TM):Turn P w K tg (P7 K a) [it] it (λi h=>h.IsListIter it a i) where
 mem:=by simp
 obj:=λi h f b g=>by
  have e:b=it:=by simpa using g
  subst e;obtain⟨o,e,c,d⟩:=f;exact⟨o,e,λv z=>by rw[d]at z;cases z⟩
 keep:=λi h M f k=>f.at λo e=>k it (by simp) o e
 item:=by intro X y r A L i l s N H E I n f t;subst y r A;obtain⟨xs,x,m,q⟩:=t;obtain⟨Y,rv,p,R⟩:=I.list m;obtain⟨u,T,Q⟩:=rv.get q;obtain⟨J,G,f2,F,C,B⟩:=n it (by simp);refine wpAny_pyNext_list_item f p.isList (by simpa using T) λM j O=>?_;have Z:=I.turned (t':=s.toks) (λb o g e=>(O.2 b g).trans e) J G F C B;obtain⟨o,e,c,d⟩:=id j;exact⟨u,rfl,yt e c d (by decide) ⟨x,H,Z,Q,⟨rfl,λys S=>by rw[I.abj S m];exact q⟩,j,λb g=>(n b g).1⟩⟩
 done:=by intro X y r A L i l s N H E I n f t;subst y r A;obtain⟨xs,m,q⟩:=t;obtain⟨Y,rv,p,R⟩:=I.list m;obtain⟨J,G,f2,F,C,B⟩:=n it (by simp);have hl:=rv.length;exact wpAny_pyNext_list_end (I.ok.hd L) f p.isList (by simp;ext) λM U=>⟨rfl,I.turned (λb o g e=>U b o g e) J G F C B⟩
 self:=λ_ _ _ _ _ f h=>wpAny_pyIter_listiter f h
theorem xk{K:cL}(a it:TM):Turn P w K tg (QU K a) [it] it (λi h=>h.IsTupleIter it a i) where
 mem:=by simp
 obj:=λi h f b g=>by
  have e:b=it:=by simpa using g
  subst e;obtain⟨o,e,c,d⟩:=f;exact⟨o,e,λv z=>by rw[d]at z;cases z⟩
 keep:=λi h N f k=>f.at λo e=>k it (by simp) o e
 item:=by intro X y r A M i l s O H E I n f t;subst y r A;obtain⟨xs,x,m,q⟩:=t;obtain⟨L,rv,p,S⟩:=I.tuple m;obtain⟨u,U,R⟩:=rv.get q;obtain⟨J,G,f2,F,C,B⟩:=n it (by simp);refine wpAny_pyNext_tuple_item f (show s.heap.IsTuple a L.toArray from p) (by simpa using U) λN j Q=>?_;have Z:=I.turned (t':=s.toks) (λb o g e=>(Q.2 b g).trans e) J G F C B;obtain⟨o,e,c,d⟩:=id j;exact⟨u,rfl,yt e c d (by decide) ⟨x,H,Z,R,⟨rfl,λys T=>by rw[I.acE T m];exact q⟩,j,λb g=>(n b g).1⟩⟩
 done:=by intro X y r A M i l s O H E I n f t;subst y r A;obtain⟨xs,m,q⟩:=t;obtain⟨L,rv,p,S⟩:=I.tuple m;obtain⟨J,G,f2,F,C,B⟩:=n it (by simp);have hl:=rv.length;exact wpAny_pyNext_tuple_end (I.ok.hd M) f (show s.heap.IsTuple a L.toArray from p) (by simp;ext) λN Y=>⟨rfl,I.turned (λb o g e=>Y b o g e) J G F C B⟩
 self:=λ_ _ _ _ _ f h=>wpAny_pyIter_tupleiter f h
theorem xu{K:cL}(it:TM)(lo:Int)(n:Nat):Turn P w K tg (P2 lo n) [it] it (λi h=>IsRangeIter h it (lo+(i:Nat)*1) ((n:Int) - (i:Nat)) 1) where
 mem:=by simp
 obj:=λi h a b f=>by
  have e:b=it:=by simpa using f
  subst e;exact⟨_,a,λv z=>by have J:=z;cases J⟩
 keep:=λi h u a k=>k it (by simp) _ a
 item:=by intro X q l r p i d s G H E I j a m;subst q l r;obtain⟨F,C,f2,B,A,y⟩:=j it (by simp);have W:=afl.range (prog:=X.prog) (w:=X.w) (I.ok.hd p) it lo 1 n;refine W.item i s _ _ m a λv u L N g M=>?_;obtain⟨t,rfl⟩:=N;have Q:Inv X d G H {s with heap:=u,toks:=L}:=I.turned (λb o f e=>M b o (by simpa using f) e) F C B A y;refine⟨_,rfl,yt g rfl rfl (by decide) ⟨.int (lo+i),H,Q,⟨t,?_⟩,⟨rfl,rfl⟩,g,λb f=>(j b f).1⟩⟩;rw[Int.mul_one]
 done:=by intro X q l r p i d s G H E I j a m;subst q l r;obtain⟨F,C,f2,B,A,y⟩:=j it (by simp);exact wpAny_pyNext_range_end (I.ok.hd p) a (by have:n<=i:=m;ext) λu O=>⟨rfl,I.turned (λb o f e=>O b o f e) F C B A y⟩
 self:=λ_ _ _ _ _ a h=>wpAny_pyIter_rangeiter a h
section
variable{X:Cx}{Z:Ue}
theorem AY{a:ck (TM×Obj)}{d:St}{H:Hp}{s:TK}{R:It->Hp->Prop}{E:Tw->TK->Prop}{lo hi:Int}{t u v:Tok}{f:Nat}(I:Inv X a d H s)(l: -(2^62)<=lo)(k:lo<2^62)(j: -(2^62)<=hi)(i:hi<2^62)
  (q:R (P2 lo (hi - lo).toNat) H):wpAny (model X.prog X.w) X.A (pyIter (.ref s.heap.objs.size)) (Ru X a d Z R) E {s with heap:=s.heap.push {cls:=.type "range",data:=.fields #[.int lo t,.int hi u,.int 1 v]},toks:=f}:=by
 refine wpAny_pyIter_range (IsRange.new ..) (small_one l k j i) ?_;have g:Inv X a d H {s with heap:=s.heap.push {cls:=.type "range",data:=.fields #[.int lo t,.int hi u,.int 1 v]},toks:=f}:=I.kept λb o e=>cM _ e;refine⟨(s.heap.push {cls:=.type "range",data:=.fields #[.int lo t,.int hi u,.int 1 v]}).objs.size,[(s.heap.push {cls:=.type "range",data:=.fields #[.int lo t,.int hi u,.int 1 v]}).objs.size],_,_,H,rfl,
  g.kept (t':=f) λb o e=>cM _ e,xu _ lo (hi - lo).toNat,?_,λb h=>?_,q⟩
 .have n:lo+((0:Nat):Int)*1=lo:=by simp
  have m:(((hi - lo).toNat:Nat):Int) - ((0:Nat):Int)=Um.Range.rangeSize lo hi 1:=by rw[rangeSize_one];split<;>ext
  show IsRangeIter _ _ (lo+((0:Nat):Int)*1) ((((hi - lo).toNat:Nat):Int) - ((0:Nat):Int)) 1;rw[n,m];exact c6 _ rfl
 .have e:b=(s.heap.push {cls:=.type "range",data:=.fields #[.int lo t,.int hi u,.int 1 v]}).objs.size:=by simpa using h
  subst e;exact g.aaB (TQ _) (g.Vp.fresh (TQ _))
def Ht(ta:TA):TI:=λa H R=>ta a H λvs b=>∃j:Int,vs=[.int j]/\ -(2^62)<=j/\j<2^62/\R (P2 0 j.toNat) b
theorem z9(m:Gl X "range")(hm:X.mg "range"=CL)(ha:PA X [a] ta)(l:Uh [a] X.env=[(Tx,eval a X.env)]:=by rfl):PI X Z (.Call (.Name "range" p) [a] [] pos) (Ht ta):=by
 intro b s f H R I h;refine Call_ (lN I m hm boot_range (Wa (c9 (ha pos b s f H _ I h) λo u ⟨vs,v,n,i,d⟩=>?_) l rfl));obtain⟨j,e,d,k,q⟩:=d;subst e;cases i with
 |cons r g=>cases g;obtain⟨t,rfl⟩:=r;exact call_range_1 (AY n (by ext) (by ext) d k (by simpa using q))
def KG(d:TI)(g:TG)(tb:TS):TS:=λD a H=>d a H λJ f=>∃W:Nat->Nat->St->Hp->Prop,(∃m,W 0 m a f)/\∀i m a H,W i m a H->
 (J.stop i H/\D.nx a H)\/(J.go i H/\∃N:St->Hp->Prop,(∀σ' H',N σ' H'->∃m',m'<m/\W (i+1) m' σ' H')/\∀x H',J.yld i H x H'->g x a H' λb e=>tb {D with nx:=N,ct:=N,bk:=D.nx} b e)
def pS(fp:ck TM)(h:Heap):ck (TM×Obj):=fp.filterMap λb=>(h.get? b).map λo=>(b,o)
theorem jF(a:b∈fp)(e:h.get? b=ax o):(b,o)∈pS fp h:=Y1.mpr ⟨b,a,by rw[e];rfl⟩
theorem zf(a:p∈pS fp h):p.1∈fp/\h.get? p.1=ax p.2:=by
 obtain⟨b,d,e⟩:=Y1.mp a;cases q:h.get? b with
 |none=>rw[q]at e;cases e
 |some o=>rw[q]at e;have f:=Us e;subst f;exact⟨d,q⟩
theorem Inv.pinned(I:Inv X pins σ H s)(i:∀b∈fp,kY X pins H b)(h:∀b∈fp,∃o,s.heap.get? b=ax o/\∀v,o.data≠.cell v):Inv X (pins++pS fp s.heap) σ H s:=
 I.Y0 λp g=>(Uy.mp g).elim (λz=>I.pin p (Ud _ z)) λz=>by obtain⟨a,e⟩:=zf z;obtain⟨k,j,f2,_⟩:=i p.1 a;obtain⟨o,f,d⟩:=h p.1 a;rw[e]at f;cases f;exact⟨e,k,j,f2,d⟩
theorem Inv.YX(I:Inv X (pins++pl) σ H s):Inv X pins σ H s:=I.Y0 λp a=>I.pin p (Ud _ (VF _ a))
theorem J6(L:acP (model X.prog X.w) X.A X.env X.xe)(hc:X.calm=Ld)(hi:PI X Z iter wi)(hg:PG X Z g)(l:PSs X body tb)
  (hs:∀x,foldedSetIterable iter X.env x=pure x:=by intro _;rfl):PS X (.For Z iter body [] pos) (KG wi g tb):=by
 intro j s σ H D I h;refine wpAny_For (c9 (hi j s σ H _ I h) λv s1 h1=>c9 h1 λitv s2 h2=>?_) hs;obtain⟨it,O,tn,J,H2,e,I2,T,R,f2,W,⟨m0,w0⟩,E⟩:=h2;subst e;have C:∀{y:Hp},(∀b∈O,y b=CL)->∀b∈O,kY X j y b:=λhn b l=>⟨hn b l,(f2 b l).2⟩;refine codeAny_forLoop_any (λn s'=>∃i σ' y,Inv X j σ' y s'/\tn i s'.heap/\(∀b∈O,y b=CL)/\W i n σ' y) ?_ m0 ⟨0,σ,H2,I2,R,λb l=>(f2 b l).1,w0⟩;rintro n s3 ⟨i,k,P,I3,G,M,w3⟩;rcases E i n k P w3 with⟨F,qn⟩|⟨go,N,hN,step⟩
 .refine XJ L (c9 (T.done X rfl rfl rfl hc i j s3 k P X.xe I3 (C M) G F) λr s4 ⟨U,I4⟩=>?_);subst U;exact YL ⟨k,P,I4,qn⟩
 .refine XJ L (c9 (T.item X rfl rfl rfl hc i j s3 k P X.xe I3 (C M) G go) λr s4 ⟨u,U,h4⟩=>?_)
  subst U;refine XJ L (c9 h4 λ_ s5 ⟨x,H5,I5,r5,y5,B,Y⟩=>?_);have I5':=I5.pinned (C Y) (T.obj _ _ B);refine XJ L (c9 (hg _ s5 k H5 x u _ I5' r5 (step x H5 y5)) λ_ s6 ⟨Q,H6,I6,q6⟩=>?_);refine XJ L (c9 (l _ s6 Q H6 _ I6 q6) λf S z=>?_);have p:∀{a:St} {t:Hp},Inv X (j++pS O s5.heap) a t S->N a t->∃m,m<n/\∃i σ' y,Inv X j σ' y S/\tn i S.heap/\(∀b∈O,y b=CL)/\W i m σ' y:=λ{a t} q K=>by obtain⟨m',hm,w7⟩:=hN a t K;refine⟨m',hm,i+1,a,t,q.YX,T.keep _ _ _ B λb l o e=>(q.pin (b,o) (Ud _ (Ud _ (jF l e)))).1,λb l=>?_,w7⟩;obtain⟨o,e,d⟩:=T.obj _ _ B b l;exact(q.pin (b,o) (Ud _ (Ud _ (jF l e)))).2.1
  cases f with
  |next=>obtain⟨a,t,q,K⟩:=z;exact p q K
  |cont=>obtain⟨a,t,q,K⟩:=z;exact p q K
  |brk=>obtain⟨a,t,q,z⟩:=z;exact⟨a,t,q.YX,z⟩
  |ret v=>obtain⟨x7,a,t,q,r7,z⟩:=z;exact⟨x7,a,t,q.YX,r7,z⟩
end
abbrev R2:=V->V->Hp->VK->Prop
def OpR(X:Cx)(f:Tw->Tw->Sem Tw)(r:R2):Prop:=
 ∀(a:ck (TM×Obj)) (s:TK) (b:St) (H:Hp) (x y:V) (v u:Tw) (Q:VK),Inv X a b H s->RelV x v->RelV y u->r x y H Q->
  wpAny (model X.prog X.w) X.A (f v u) (EP X a b Q) X.xe s
def Ql(X:Cx)(f:Tw->Sem Tw)(r:V->Hp->VK->Prop):Prop:=
 ∀(a:ck (TM×Obj)) (s:TK) (b:St) (H:Hp) (x:V) (v:Tw) (Q:VK),Inv X a b H s->RelV x v->r x H Q->
  wpAny (model X.prog X.w) X.A (f v) (EP X a b Q) X.xe s
def Wn(X:Cx)(f:Tw)(r:ck V->Hp->VK->Prop):Prop:=
 ∀(a:ck (TM×Obj)) (s:TK) (b:St) (H:Hp) (xs:ck V) (d:ck Tw) (Q:VK),Inv X a b H s->Vals xs d->r xs H Q->
  wpAny (model X.prog X.w) X.A (call f d) (EP X a b Q) X.xe s
def Fp(r:R2)(ta tb:TE):TE:=λa H Q=>ta a H λx d=>tb a d λy b=>r x y b Q
def RJ(r:V->Hp->VK->Prop)(ta:TE):TE:=λa H Q=>ta a H λx b=>r x b Q
def rI(C:Int->Int->Prop)(g:Int->Int->V):R2:=λx y H Q=>∃i j,x=.int i/\y=.int j/\C i j/\Q (g i j) H
def vY(g:Int->Int->V):R2:=λx y H Q=>∃i j,x=.int i/\y=.int j/\Q (g i j) H
def rU(g:Int->V):V->Hp->VK->Prop:=λx H Q=>∃i,x=.int i/\Q (g i) H
section
variable{X:Cx}{a b c:Ue}{Z U tc:TE}{Y:Pos}
theorem JA(ha:PE X a Z)(l:PE X b U){R:V->V->Hp->Prop}(I:Inv X pins σ H s)
  (h:Z σ H λx H1=>U σ H1 λy H2=>R x y H2) {f:Tw->Tw->Sem Tw}
  (k:∀v u s2 x y H2,Inv X pins σ H2 s2->RelV x v->RelV y u->R x y H2->wpAny (model X.prog X.w) X.A (f v u) Q X.xe s2):
  wpAny (model X.prog X.w) X.A (eval a X.env) (λv s₁=>wpAny (model X.prog X.w) X.A (eval b X.env) (λu s₂=>wpAny (model X.prog X.w) X.A (f v u) Q X.xe s₂) X.xe s₁) X.xe s:=by
 refine c9 (ha pins s σ H _ I h) λv d ⟨x,H1,n,g,j⟩=>?_;refine c9 (l pins d σ H1 _ n j) λu s2 ⟨y,H2,m,e,i⟩=>?_;exact k v u s2 x y H2 m g e i
theorem D2(j:OpR X (V2 op) r)(ha:PE X a Z)(k:PE X b U):PE X (.BinOp a op b Y) (Fp r Z U):=by intro d s e H Q I h;exact wpAny_BinOp (JA ha k I h λv u f x y m l i g q=>j d f e m x y v u Q l i g q)
theorem Ik(j:Ql X (unaryOp op) r)(ha:PE X a Z):PE X (.UnaryOp op a Y) (RJ r Z):=by intro d s e H Q I h;exact UnaryOp_ (c9 (ha d s e H _ I h) λv f ⟨x,l,k,g,i⟩=>j d f e l x v Q k g i)
theorem PR{g:Int->Int->Int}
  (d:∀(i j:Int) (t u:Tok) (s:TK) (Q:Tw->TK->Prop) (E:Tw->TK->Prop),C i j->Q (.int (g i j) s.toks) {s with toks:=s.toks+1}->wpAny (model X.prog X.w) X.A (f (.int i t) (.int j u)) Q E s):
  OpR X f (rI C λi j=>.int (g i j)):=by
 intro e s o H x y v u Q I m l h;obtain⟨i,j,rfl,rfl,n,q⟩:=h;obtain⟨t,rfl⟩:=m;obtain⟨k,rfl⟩:=l;exact d i j t k s _ _ n ⟨.int (g i j),H,I.tok _,⟨_,rfl⟩,q⟩
theorem Ou{g:Int->Int->Int}
  (d:∀(i j:Int) (t u:Tok) (s:TK) (Q:Tw->TK->Prop) (E:Tw->TK->Prop),Q (.int (g i j) s.toks) {s with toks:=s.toks+1}->wpAny (model X.prog X.w) X.A (f (.int i t) (.int j u)) Q E s):
  OpR X f (vY λi j=>.int (g i j)):=by
 intro e s n H x y v u Q I m l h;obtain⟨i,j,rfl,rfl,q⟩:=h;obtain⟨t,rfl⟩:=m;obtain⟨k,rfl⟩:=l;exact d i j t k s _ _ ⟨.int (g i j),H,I.tok _,⟨_,rfl⟩,q⟩
theorem Ez{g:Int->Int->Bool}
  (d:∀(i j:Int) (t u:Tok) (s:TK) (Q:Tw->TK->Prop) (E:Tw->TK->Prop),Q (.bool (g i j)) s->wpAny (model X.prog X.w) X.A (f (.int i t) (.int j u)) Q E s):
  OpR X f (vY λi j=>.bl (g i j)):=by
 intro e s n H x y v u Q I m l h;obtain⟨i,j,rfl,rfl,q⟩:=h;obtain⟨t,rfl⟩:=m;obtain⟨k,rfl⟩:=l;exact d i j t k s _ _ ⟨.bl (g i j),H,I,rfl,q⟩
def Ku(i j:Int):Prop:=0<=j/\j<=1000000/\i.natAbs<2^64
def ad4(i j:Int):Prop:=(-(2^64)<i/\i<2^64)\/(-(2^64)<j/\j<2^64)
theorem ad4.ok(h:ad4 i j):IntMulOk i j:=by
 rcases h with⟨e,d⟩|⟨e,d⟩
 .exact .of_left (akT e d)
 .exact .of_right (akT e d)
theorem L5:OpR X (V2 .Add) (vY λi j=>.int (i+j)):=Ou λ_ _ _ _ _ _ _ q=>add_int q
theorem LW:OpR X (V2 .Sub) (vY λi j=>.int (i - j)):=Ou λ_ _ _ _ _ _ _ q=>sub_int q
theorem IC:OpR X (V2 .Mult) (rI ad4 λi j=>.int (i*j)):=PR λ_ _ _ _ _ _ _ d q=>mul_int q d.ok
theorem Mh:OpR X (V2 .Mod) (rI (λ_ j=>0<j) λi j=>.int (i % j)):=PR λi j _ _ _ _ _ d q=>by have e:(0:Int)<j:=d;exact mod_int' (by ext) (by rw[Int.fmod_eq_emod_of_nonneg i (by ext)];exact q)
theorem JM:OpR X (V2 .Pow) (rI Ku λi j=>.int (i^j.toNat)):=PR λ_ _ _ _ _ _ _ d q=>pow_int_small d.1 d.2.1 d.2.2 q
theorem SL{g:Int->Int}
  (d:∀(i:Int) (t:Tok) (s:TK) (Q:Tw->TK->Prop) (E:Tw->TK->Prop),Q (.int (g i) s.toks) {s with toks:=s.toks+1}->wpAny (model X.prog X.w) X.A (f (.int i t)) Q E s):
  Ql X f (rU λi=>.int (g i)):=by
 intro e s k H x v Q I j h;obtain⟨i,rfl,q⟩:=h;obtain⟨t,rfl⟩:=j;exact d i t s _ _ ⟨.int (g i),H,I.tok _,⟨_,rfl⟩,q⟩
theorem DL:Ql X (unaryOp .USub) (rU λi=>.int (-i)):=SL λ_ _ _ _ _ q=>neg_int q
end
def Gx:V->V->Bool
 |.VX,.VX=>Ld|.VX,.int _=>Ld|.int _,.VX=>Ld|.VX,.bl _=>Ld|.bl _,.VX=>Ld|.VX,.str _=>Ld|.str _,.VX=>Ld
 |.int _,.int _=>Ld|.bl _,.bl _=>Ld|.str _,.str _=>Ld|.byt _,.byt _=>Ld
 |.int _,.str _=>Ld|.str _,.int _=>Ld|.bl _,.str _=>Ld|.str _,.bl _=>Ld
 |_,_=>Tx
def RF:R2:=λx y H Q=>Gx x y=Ld/\Q (.bl (decide (x=y))) H
def Rs:R2:=λx y H Q=>Gx x y=Ld/\Q (.bl (!decide (x=y))) H
theorem yM:decide (V.int i=V.int j)=(i==j):=by rw[VN];rw[decide_eq_true_iff,beq_iff_eq];exact⟨λh=>by cases h;rfl,λh=>by rw[h]⟩
theorem DJ:decide (V.bl i=V.bl j)=(i==j):=by rw[VN];rw[decide_eq_true_iff,beq_iff_eq];exact⟨λh=>by cases h;rfl,λh=>by rw[h]⟩
theorem y8:decide (V.str i=V.str j)=(i==j):=by rw[VN];rw[decide_eq_true_iff,beq_iff_eq];exact⟨λh=>by cases h;rfl,λh=>by rw[h]⟩
theorem zd:decide (V.byt i=V.byt j)=(i.toList==j.toList):=by rw[VN];rw[decide_eq_true_iff,beq_iff_eq];exact⟨λh=>by cases h;rfl,λh=>by rw[Array.toList_inj.mp h]⟩
section
variable{X:Cx}{a b c:Ue}{Y Z T:TE}{U:Pos}
theorem bt(I:Inv X pins σ H s)(q:Q (.bl k) H)(e:k=k'):EP X pins σ Q (.bool k') s:=by subst e;exact⟨.bl k,H,I,rfl,q⟩
theorem ri:OpR X (U8 .Eq) RF:=by
 intro k s l H x y v u Q I g d h;obtain⟨f,q⟩:=h;cases x with
 |VX=>
  cases g;cases y with
  |VX=>cases d;exact ahp (bt I q (by simp))
  |bl j=>cases d;exact ahq (bt I q (by simp))
  |int j=>obtain⟨e,rfl⟩:=d;exact ahr (bt I q (by simp))
  |str j=>obtain⟨e,rfl⟩:=d;exact ahs (bt I q (by simp))
  |_=>exact a7 (show Tx=Ld from f) Tz
 |bl i=>
  cases g;cases y with
  |VX=>cases d;exact aht (bt I q (by simp))
  |bl j=>cases d;exact eq_bool (bt I q DJ)
  |str j=>obtain⟨e,rfl⟩:=d;exact afW (bt I q (by simp))
  |_=>exact a7 (show Tx=Ld from f) Tz
 |int i=>
  obtain⟨t,rfl⟩:=g;cases y with
  |VX=>cases d;exact ahu (bt I q (by simp))
  |int j=>obtain⟨e,rfl⟩:=d;exact eq_int (bt I q yM)
  |str j=>obtain⟨e,rfl⟩:=d;exact afX (bt I q (by simp))
  |_=>exact a7 (show Tx=Ld from f) Tz
 |str i=>
  obtain⟨t,rfl⟩:=g;cases y with
  |VX=>cases d;exact ahv (bt I q (by simp))
  |bl j=>cases d;exact afY (bt I q (by simp))
  |int j=>obtain⟨e,rfl⟩:=d;exact afZ (bt I q (by simp))
  |str j=>obtain⟨e,rfl⟩:=d;exact eq_str (bt I q y8)
  |_=>exact a7 (show Tx=Ld from f) Tz
 |byt i=>
  obtain⟨t,rfl⟩:=g;cases y with
  |byt j=>obtain⟨e,rfl⟩:=d;exact PySem.W.eq_bytes (bt I q zd)
  |_=>exact a7 (show Tx=Ld from f) Tz
 |_=>cases y<;>exact a7 (show Tx=Ld from f) Tz
theorem N5:OpR X (U8 .NotEq) Rs:=by
 intro k s l H x y v u Q I g d h;obtain⟨f,q⟩:=h;cases x with
 |VX=>
  cases g;cases y with
  |VX=>cases d;exact ahw (bt I q (by simp))
  |bl j=>cases d;exact ahx (bt I q (by simp))
  |int j=>obtain⟨e,rfl⟩:=d;exact ahy (bt I q (by simp))
  |str j=>obtain⟨e,rfl⟩:=d;exact ahz (bt I q (by simp))
  |_=>exact a7 (show Tx=Ld from f) Tz
 |bl i=>
  cases g;cases y with
  |VX=>cases d;exact ahA (bt I q (by simp))
  |bl j=>cases d;exact ne_bool (bt I q (ey not DJ))
  |str j=>obtain⟨e,rfl⟩:=d;exact af0 (bt I q (by simp))
  |_=>exact a7 (show Tx=Ld from f) Tz
 |int i=>
  obtain⟨t,rfl⟩:=g;cases y with
  |VX=>cases d;exact ahB (bt I q (by simp))
  |int j=>obtain⟨e,rfl⟩:=d;exact ne_int (bt I q (ey not yM))
  |str j=>obtain⟨e,rfl⟩:=d;exact af1 (bt I q (by simp))
  |_=>exact a7 (show Tx=Ld from f) Tz
 |str i=>
  obtain⟨t,rfl⟩:=g;cases y with
  |VX=>cases d;exact ahC (bt I q (by simp))
  |bl j=>cases d;exact af2 (bt I q (by simp))
  |int j=>obtain⟨e,rfl⟩:=d;exact af3 (bt I q (by simp))
  |str j=>obtain⟨e,rfl⟩:=d;exact ne_str (bt I q (ey not y8))
  |_=>exact a7 (show Tx=Ld from f) Tz
 |byt i=>
  obtain⟨t,rfl⟩:=g;cases y with
  |byt j=>obtain⟨e,rfl⟩:=d;exact PySem.W.ne_bytes (bt I q (ey not zd))
  |_=>exact a7 (show Tx=Ld from f) Tz
 |_=>cases y<;>exact a7 (show Tx=Ld from f) Tz
theorem MY:OpR X (U8 .Lt) (vY λi j=>.bl (decide (i<j))):=Ez λ_ _ _ _ _ _ _ q=>lt_int q
theorem Pt:OpR X (U8 .LtE) (vY λi j=>.bl (decide (i<=j))):=Ez λ_ _ _ _ _ _ _ q=>le_int q
theorem Nd:OpR X (U8 .Gt) (vY λi j=>.bl (decide (j<i))):=Ez λ_ _ _ _ _ _ _ q=>gt_int q
theorem OD:OpR X (U8 .GtE) (vY λi j=>.bl (decide (j<=i))):=Ez λ_ _ _ _ _ _ _ q=>ge_int q
theorem AE:OpR X (U8 .In) (λx y H Q=>∃i j,x=.str i/\y=.str j/\Q (.bl (!(Um.Str.occurrences j i 0 j.length 1).isEmpty)) H):=by intro d s g H x y v u Q I f e h;obtain⟨i,j,rfl,rfl,q⟩:=h;obtain⟨t,rfl⟩:=f;obtain⟨k,rfl⟩:=e;exact in_str (bt I q rfl)
theorem qG:OpR X (U8 .Is) (λx y H Q=>y=.VX/\Q (.bl (decide (x=.VX))) H):=by
 intro e s g H x y v u Q I d f h;obtain⟨rfl,q⟩:=h;cases f;refine is_none_gen (bt I q ?_);cases x<;>first
  |(cases d;rfl)
  |(obtain⟨t,rfl⟩:=d;rfl)
theorem FR:OpR X (U8 .IsNot) (λx y H Q=>y=.VX/\Q (.bl (!decide (x=.VX))) H):=by
 intro e s g H x y v u Q I d f h;obtain⟨rfl,q⟩:=h;cases f;refine isnot_none_gen (bt I q ?_);cases x<;>first
  |(cases d;rfl)
  |(obtain⟨t,rfl⟩:=d;rfl)
theorem iB(b:Ue)(h:op≠.In:=by decide)(d:op≠.NotIn:=by decide):behindInMarks op b=Tx:=by
 have f:(op==abr.In)=Tx:=by cases op<;>first|rfl|exact a7 rfl h
 have e:(op==abr.NotIn)=Tx:=by cases op<;>first|rfl|exact a7 rfl d
 cases b<;>simp[behindInMarks,f,e]
theorem FL{op:abr}{r:R2}(j:OpR X (U8 op) r)(ha:PE X a Y)(k:PE X b Z)(hm:behindInMarks op b=Tx):PE X (.Compare a [op] [b] U) (Fp r Y Z):=by intro d s e H Q I h;exact wpAny_Compare1 (JA ha k I h λv u f x y m l i g q=>j d f e m x y v u Q l i g q) hm
def rh(t:TE):TT:=λd H Q=>t d H λx e=>∃k,x=.bl k/\Q k e
theorem fq(q:OpR X (U8 op) r)(ha:PE X a Y)(t:PE X b Z)(hm:behindInMarks op b=Tx):PT X (.Compare a [op] [b] U) (rh (Fp r Y Z)):=by
 intro d s f H Q I h;refine wpAny_isTrue_Compare1 (c9 (ha d s f H _ I h) λv i ⟨x,F,B,m,p⟩=>c9 (t d i f F _ B p) λu g ⟨y,E,A,l,o⟩=>
  c9 (q d g f E x y v u _ A m l o) λc G ⟨z,C,w,j,k,e,n⟩=>?_) hm
 subst e;cases j;exact Vv ⟨C,w,n⟩
def wQ(r g:R2)(Y Z T:TE):TE:=λd H Q=>Y d H λx j=>Z d j λy i=>r x y i λz e=>∃k,z=.bl k/\
 (if k=Ld then T d e λf h=>g y f h Q else Q (.bl Tx) e)
theorem Bc(K:OpR X (U8 op) r)(i:OpR X (U8 op') r')(ha:PE X a Y)(M:PE X b Z)(L:PE X c T)
  (hm:lastMarks [op,op'] [b,c]=Tx:=by with_unfolding_all rfl):PE X (.Compare a [op,op'] [b,c] U) (wQ r r' Y Z T):=by
 intro f s g H Q I h;refine Compare_chain (c9 (ha f s g H _ I h) λv A ⟨x,H1,P,E,J⟩=>chain_link (c9 (M f A g H1 _ P J) λu w ⟨y,S,O,j,G⟩=>
  c9 (K f w g S x y v u _ O E j G) λd t ⟨z,n,m,C,k,e,l⟩=>?_)) hm
 subst e;cases C;refine Vv ?_;cases k with
 |false=>exact ite_ff ⟨.bl Tx,n,m,rfl,l⟩
 |true=>exact ite_tt (chain_last (c9 (L f t g n _ m l) λp q ⟨o,R,N,B,F⟩=>i f q g R y o u p Q N j B F))
theorem Dl(N:OpR X (U8 op) r)(i:OpR X (U8 op') r')(ha:PE X a Y)(P:PE X b Z)(O:PE X c T)
  (hm:lastMarks [op,op'] [b,c]=Tx:=by with_unfolding_all rfl):PT X (.Compare a [op,op'] [b,c] U) (rh (wQ r r' Y Z T)):=by
 intro f s g H Q I h;refine isTrue_chain (c9 (ha f s g H _ I h) λv A ⟨x,H1,I1,F,L⟩=>test_link (c9 (P f A g H1 _ I1 L) λu w ⟨y,H2,I2,j,K⟩=>
  c9 (N f w g H2 x y v u _ I2 F j K) λd t ⟨z,n,m,E,k,e,l⟩=>?_)) hm
 subst e;cases E;refine Vv ?_;cases k with
 |false=>obtain⟨k',S,M⟩:=l;cases S;exact ite_ff ⟨n,m,M⟩
 |true=>refine ite_tt (test_last (c9 (O f t g n _ m l) λp q ⟨o,H4,I4,C,J⟩=>c9 (i f q g H4 y o u p _ I4 j C J) λd' s5 ⟨z2,H5,I5,B,k2,R,G⟩=>?_));subst R;cases B;exact Vv ⟨H5,I5,G⟩
theorem sR:(T8:Nat)<2^63:=by rw[W0];decide
theorem wy:OpR X (V2 .Add) (λx y H Q=>∃i j,x=.str i/\y=.str j/\i.length+j.length<=T8/\Q (.str (i++j)) H):=by intro d s l H x y v u Q I g f h;obtain⟨i,j,rfl,rfl,k,q⟩:=h;obtain⟨t,rfl⟩:=g;obtain⟨e,rfl⟩:=f;exact add_str (λe m=>⟨.str (i++j),H,I.tok _,⟨_,rfl⟩,q⟩) k
theorem iZ(r:Vals [x] us):∃u,us=[u]/\RelV x u:=by
 cases r with
 |cons e d=>cases d;exact⟨_,rfl,e⟩
theorem pL(r:Vals [x,y] us):∃u w',us=[u,w']/\RelV x u/\RelV y w':=by
 cases r with
 |cons g f=>
  cases f with
  |cons e d=>cases d;exact⟨_,_,rfl,g,e⟩
theorem zZ(f:X.calm=Ld):Wn X (.builtin "max") (λxs H Q=>∃i j,xs=[.int i,.int j]/\Q (.int (if j>i then j else i)) H):=by
 intro e s g H xs m Q I r h;obtain⟨i,j,rfl,q⟩:=h;obtain⟨u,l,rfl,⟨t,rfl⟩,⟨o,rfl⟩⟩:=pL r;refine max_two_ints (I.ok.hd f) λp n k=>⟨_,H,I.kept k,?_,q⟩;by_cases d:j>i
 .rw[ak d,ak d];exact⟨_,rfl⟩
 .rw[ar d,ar d];exact⟨_,rfl⟩
theorem zx:Wn X (.type "int") (λxs H Q=>(∃i,xs=[.int i]/\Q (.int i) H)\/∃k,xs=[.bl k]/\Q (.int (if k then 1 else 0)) H):=by
 intro d s f H xs g Q I r h;rcases h with⟨i,rfl,q⟩|⟨k,rfl,q⟩
 .obtain⟨u,rfl,t,rfl⟩:=iZ r;exact call_int_int ⟨.int i,H,I,⟨_,rfl⟩,q⟩
 .obtain⟨u,rfl,e⟩:=iZ r;cases e;exact call_int_bool ⟨.int (if k then 1 else 0),H,I.tok _,⟨_,rfl⟩,q⟩
theorem tX:Wn X (.type "str") (λxs H Q=>∃i,xs=[.int i]/\i.natAbs.log2<1920/\Q (.str (toString i)) H):=by intro d s f H xs g Q I r h;obtain⟨i,rfl,e,q⟩:=h;obtain⟨u,rfl,t,rfl⟩:=iZ r;exact PySem.P.str_of_int e ⟨.str _,H,I.tok _,⟨_,rfl⟩,q⟩
def KS(K:cL)(x:V)(H:Hp)(n:Nat):Prop:=
 match x with
 |.str y=>y.length<=T8/\n=y.length
 |.byt y=>y.size<=T8/\n=y.size
 |.ref p=>(∃xs,XG K H p xs/\n=xs.length)\/∃xs,XA K H p xs/\n=xs.length
 |_=>False
theorem vw:Wn X (.builtin "len") (λxs H Q=>∃x n,xs=[x]/\KS X.K x H n/\Q (.int n) H):=by
 intro k s v H xs w Q I r h;obtain⟨x,n,rfl,e,q⟩:=h;obtain⟨u,rfl,g⟩:=iZ r;have A:=sR;have z:=W0;cases x with
 |str y=>obtain⟨t,rfl⟩:=g;obtain⟨m,f⟩:=e;subst f;exact len_str (by ext) ⟨.int _,H,I.tok _,⟨_,rfl⟩,q⟩
 |byt y=>obtain⟨t,rfl⟩:=g;obtain⟨m,f⟩:=e;subst f;exact PySem.W.len_bytes (by ext) ⟨.int _,H,I.tok _,⟨_,rfl⟩,q⟩
 |ref p=>
  cases g;have f:=e;rcases f with⟨xs,j,f⟩|⟨xs,j,f⟩
  .subst f;obtain⟨o,i,pl,l⟩:=I.list j;have d:=i.length;exact Calls.call_len_list pl.isList (by simp only[T3];ext) ⟨.int xs.length,H,I.tok _,⟨_,by simp only[T3];rw[d]⟩,q⟩
  .subst f;obtain⟨o,i,pl,l⟩:=I.tuple j;have d:=i.length;exact len_tuple pl (by simp only[T3];ext) ⟨.int xs.length,H,I.tok _,⟨_,by simp only[T3];rw[d]⟩,q⟩
 |_=>exact(show False from e).elim
end
structure aqi(h:Heap)(x dx C:TM)(mA:Str->cv Tw):Prop where
 obj:h.get? x=ax (acN C dx)
 ns:h.Ns1 dx mA
 ne:dx≠x
theorem Av{h:Heap}(n:h.Ns1 dx mA):∃od,h.get? dx=ax od/\∀name,ac5 name od=ax (mA name):=by
 obtain⟨o,d,l,g,j,i,_,hm⟩:=n;refine⟨o,g,λname=>?_⟩;have e:=hm name;unfold nsFind findBy at e;rw[<-acj]at e;unfold ac5;rw[j];dsimp only;split
 .rename_i y q;rw[q]at e;exact ey ax e
 .rename_i q
  rw[q]at e;have a:d.toList.any (·.refKey)=Tx:=by rw[List.any_eq_false];intro y f;obtain⟨z,t,b⟩:=i y (W9.mp f);simp[Xr.refKey,b]
  have k:¬d.toList.any (·.refKey)=Ld:=by rw[a];exact Tz
  rw[ar k];exact ey ax e
def Jh(f:Str)(v:V):ck (Str×V)->ck (Str×V)
 |[]=>[(f,v)]
 |(g,x)::r=>if g=f then(g,v)::r else(g,x)::Jh f v r
theorem aa4.some_of(r:aa4 (ax v) o):∃u,o=ax u/\RelV v u:=by
 cases o with
 |none=>exact(show False from r).elim
 |some u=>exact⟨u,rfl,r⟩
theorem Az(r:RelV v u):PySem.W.handedIn u=Ld:=by
 cases v with
 |VX=>cases(show u=Tw.none from r);rfl
 |bl b=>cases(show u=Tw.bool b from r);rfl
 |int i=>obtain⟨t,e⟩:=(show∃t,u=Tw.int i t from r);cases e;rfl
 |str x=>obtain⟨t,e⟩:=(show∃t,u=Tw.str x t from r);cases e;rfl
 |byt b=>obtain⟨t,e⟩:=(show∃t,u=Tw.bytes b t from r);cases e;rfl
 |flt b=>obtain⟨t,e⟩:=(show∃t,u=Tw.float b t from r);cases e;rfl
 |ref a=>cases(show u=Tw.ref a from r);rfl
 |ty n=>cases(show u=Tw.type n from r);rfl
structure Cls(K:cL)(C:TM):Prop where
 pg:ack K C Str.empty=Ld
 hd:VG K C=Ld
 po:ab3 K C=Ld
 sa:T6 K (.ref C) "__setattr__"=ax (ax (.builtin "object.__setattr__"))
def nV(K:cL)(C:TM)(f:Str):Prop:=T6 K (.ref C) f=ax CL
structure Con(K:cL)(C:TM)(f:Str)(v:V)(u:Tw):Prop where
 at_:T6 K (.ref C) f=ax (ax u)
 rel:RelV v u
 get:VZ K u "__get__"=ax CL
 cp:PySem.W.copiedNames.contains f=Tx
structure Meth(K:cL)(C:TM)(m:Str)(f:TM):Prop where
 at_:T6 K (.ref C) m=ax (ax (.ref f))
 fn:Wx K (.ref f)=Ld
 kp:VT K (.ref f)=Ld
section
variable{X:Cx}{pins:ck (TM×Obj)}{σ:St}{H:Hp}{s:TK}{a C dx:TM}{fs:ck (Str×V)}{f:Str}{v:V}{A:Ut}{E:Tw->TK->Prop}
theorem ER{prog:Ug}{w:Ux}{env:Env}{e:Ue}{f:Str}{b:Pos}{s:TK}{Q:Tw->TK->Prop}(d:attributeBase e f env (eval e env)=eval e env)
  (h:wpAny (model prog w) A (eval e env) (λo s₁=>wpAny (model prog w) A (getAttr o f Ld) Q E s₁) E s):wpAny (model prog w) A (eval (.Attribute e f b) env) Q E s:=
 Attribute_any_ h (by rw[arm_eval_Attribute,d])
end
def QW(K:cL)(ta:TE)(f:Str):TE:=λd H Q=>ta d H λx b=>∃a C dx fs v,x=.ref a/\b a=ax (.ins C dx fs)/\Cls K C/\nV K C f/\fs.lookup f=ax v/\Q v b
def Rc(K:cL)(ta e:TE)(f:Str):TS:=λD b H=>e b H λy g=>ta b g λx d=>∃a C dx fs,x=.ref a/\d a=ax (.ins C dx fs)/\Cls K C/\nV K C f/\fs.length<1000/\
 D.nx b (bz d a (.ins C dx (Jh f y fs)))
section
variable{X:Cx}{pins:ck (TM×Obj)}{σ:St}{H:Hp}{s:TK}{A:Ut}{E:Tw->TK->Prop}{Q:Tw->TK->Prop}{c:Tw}{b:Bool}
inductive ZQ(K:cL)(H:Hp):V->Tw->Prop where
 |VX:ZQ K H .VX (.type "NoneType")
 |bl (x:Bool):ZQ K H (.bl x) (.type "bool")
 |int (i:Int):ZQ K H (.int i) (.type "int")
 |str (x:Str):ZQ K H (.str x) (.type "str")
 |flt (x:UInt64):ZQ K H (.flt x) (.type "float")
 |lst {a:TM} {xs:ck V} (e:H a=ax (.lst xs)):ZQ K H (.ref a) (.type "list")
 |frz {a:TM} {o:Obj} {xs:ck V} (e:H a=ax (.frz o (.lst xs))):ZQ K H (.ref a) (.type "list")
 |tup {a:TM} {xs:ck V} (e:H a=ax (.tup xs)):ZQ K H (.ref a) (.type "tuple")
 |dK {a:TM} {Yc:ck (mP×V)} (e:H a=ax (.dK Yc)):ZQ K H (.ref a) (.type "dict")
 |dT {a:TM} {Yc:ck (ck mP×V)} (e:H a=ax (.dT Yc)):ZQ K H (.ref a) (.type "dict")
 |ins {a C dx:TM} {fs:ck (Str×V)} (e:H a=ax (.ins C dx fs)) (cl:Cls K C) (ha:T6 K (.ref C) "__class__"=ax (ax (.builtin "object.__class__")))
   (hn:VZ K (.builtin "object.__class__") "__get__"=ax (ax (.builtin "getset_descriptor.__get__"))) (htk:PySem.W.takesIn K (.builtin "object.__class__")=ax Ld)
   (hm:YA K C (.type "object")=ax Ld):ZQ K H (.ref a) (.ref C)
end
structure Wj(k:Nat)(A:Ut):Prop where
 hd:A.handled=CL
 dp:A.depth+3*k+5<recursionLimit
 un:A.units+16*k+200<cLine
theorem Wj.mono(r:Wj k A)(h:j<=k):Wj j A:=⟨r.hd,by have:=r.dp;ext,by have:=r.un;ext⟩
theorem Wj.deeper(r:Wj (k+1) A)(env:Env):Wj k (A.deeper env):=
 ⟨r.hd,by have:=r.dp;show A.depth+1+3*k+5<_;ext,by have:=r.un;show A.units+3+16*k+200<_;ext⟩
theorem wT{A:Ut}:(A.under (.builtin "type.__call__" ⟨.ref C::us,kw⟩)).depth=A.depth+1:=by
 first|rfl|simp[Ut.under,aat.weight,aat.isCreation,aat.isGuard,aat.isCaller,aat.frames,aat.isFrame,guardIds]
theorem wc{A:Ut}:(A.under (.builtin "type.__call__" ⟨.ref C::us,kw⟩)).units=A.units+1:=by
 first|rfl|simp[Ut.under,aat.cUnits,aat.frames,aat.isFrame]
theorem Wj.make(r:Wj (k+1) A)(C:TM)(a:ck Tw)(b:ck (Str×Tw)):Wj k (A.under (.builtin "type.__call__" ⟨.ref C::a,b⟩)):=
 ⟨r.hd,by have:=r.dp;rw[wT];ext,by have:=r.un;rw[wc];ext⟩
theorem Wj.depth(r:Wj k A):A.depth<recursionLimit:=by have:=r.dp;ext
theorem Wj.units(r:Wj k A):A.units+64<cLine:=by have:=r.un;ext
def ou:TA:=λ_ H Q=>Q [] H
def i6(ta:TE)(b:TA):TA:=λa H Q=>ta a H λx e=>b a e λxs d=>Q (x::xs) d
section
variable{X:Cx}{e:Ue}{es:ck Ue}{te:TE}{t:TA}{Z:Pos}
theorem bj:PA X [] ou:=λ_ _ _ _ H Q I h=>Calls.spliced_nil ⟨[],H,I,.nil,h⟩
theorem au(ha:PE X e te)(l:PA X es t)(k:Uh (e::es) X.env=(Tx,eval e X.env)::Uh es X.env:=by rfl):PA X (e::es) (i6 te t):=by intro Z a s b H Q I h;rw[k];refine Calls.spliced_cons (c9 (ha a s b H _ I h) λu d ⟨x,p,n,g,j⟩=>?_);exact c9 (l Z a d b p _ n j) λq r ⟨xs,o,m,f,i⟩=>⟨x::xs,o,m,.cons g f,i⟩
def GK(t:TA):TE:=λb H Q=>t b H λxs a=>xs.length<=T8/\∀p,a p=CL->Q (.ref p) (bz a p (.tup xs))
def GW(t:TA):TE:=λb H Q=>t b H λxs a=>xs.length<=T8/\∀p,a p=CL->Q (.ref p) (bz a p (.lst xs))
theorem tZ{x1}(h:PA X es t):PE X (.Tuple es x1 Z) (GK t):=by intro a s g H Q I j;refine wpAny_Tuple_spliced (c9 (h Z a s g H _ I j) λi d ⟨xs,l,f,r,z,q⟩=>⟨by rw[<-r.length];exact z,?_⟩);have k:=f.Vp.fresh (TQ _);refine⟨.ref d.heap.objs.size,bz l d.heap.objs.size (.tup xs),f.laid (λb u e=>cM _ e) (TQ _) ?_,rfl,q _ k⟩;exact⟨z,i,r,⟨_,c6 _ rfl,⟨rfl,_,rfl⟩,rfl⟩⟩
theorem tO(h:PA X es t):PE X (.List es Z) (GW t):=by intro a s g H Q I j;refine wpAny_List_spliced (c9 (h Z a s g H _ I j) λi d ⟨xs,l,f,r,z,q⟩=>⟨by rw[<-r.length];exact z,?_⟩);have k:=f.Vp.fresh (TQ _);refine⟨.ref d.heap.objs.size,bz l d.heap.objs.size (.lst xs),f.laid (λb u e=>cM _ e) (TQ _) ?_,rfl,q _ k⟩;exact⟨z,i,0,r,c6 _ rfl⟩
end
abbrev Sp:=ck V->Hp->VK->XK->Prop
abbrev uq:=ck Env->Hp->TK->XK->Tw->TK->Prop
structure Env0(P:Ug)(w:Ux)(K:cL)(mg:Str->cv Tw)(base:Heap)(A:Ut)(outer:ck Env)(s:TK)(H:Hp):Prop where
 frames:A.frames=ax outer
 mod:Mod K mg base
 bs:∀b o,base.get? b=ax o->s.heap.get? b=ax o/\H b=CL
 bsz:base.objs.size<=s.heap.objs.size
 YF:s.heap.FunFrames base outer
 frf:∀b∈vL outer,H b=CL
 Vp:Zn P w H s.heap
 bare:AllBare s.gens
def CE(outer:ck Env)(P:Ug)(w:Ux)(H:Hp)(s:TK)(Q:VK)(u:Tw)(a:TK):Prop:=
 ∃v H',a.os=s.os/\AllBare a.gens/\Un (vL outer) [] H H' s.heap a.heap/\Zn P w H' a.heap/\RelV v u/\Q v H'
def CR(b:uq)(outer:ck Env)(P:Ug)(w:Ux)(H:Hp)(s:TK)(Q:VK)(E:XK)(r:aeE)(a:TK):Prop:=
 match r with
 |.ok (.ret u)=>CE outer P w H s Q u a
 |.ok _=>False
 |.error e=>b outer H s E e a
structure FnOk(P:Ug)(w:Ux)(K:cL)(mg:Str->cv Tw)(base:Heap)(CX:uq)(k:Nat)(f:TM)(fd:U3)(ps:ck Str)(sp:Sp):Prop where
 len:∀vs H Q E,sp vs H Q E->vs.length=ps.length
 run:∀(A:Ut) (outer:ck Env) (s:TK) (H:Hp) (args:Args) (us:ck Tw) (vs:ck V) (Q:VK) (E:XK),Wj k A->Env0 P w K mg base A outer s H->Zp s fd args (ps.zip us)->Vals vs us->sp vs H Q E->
  codeAny (model P w) A (.call (.ref f) args) (CR CX outer P w H s Q E) s
theorem FnOk.imp{P:Ug}{w:Ux}{K:cL}{mg:Str->cv Tw}{base:Heap}{g:uq}{k:Nat}{f:TM}{e:U3}{ps:ck Str}{sp b:Sp}(F:FnOk P w K mg base g k f e ps sp)
  (h:∀vs H Q E,b vs H Q E->sp vs H Q E):FnOk P w K mg base g k f e ps b:=
 ⟨λvs H Q E q=>F.len vs H Q E (h _ _ _ _ q),λA a s H d i vs Q E m n o j l=>F.run A a s H d i vs Q E m n o j (h _ _ _ _ l)⟩
theorem Env0.make{K:cL}(e:Env0 P w K mg base A outer s H)(C:TM)(a:ck Tw)(b:ck (Str×Tw)):
  Env0 P w K mg base (A.under (.builtin "type.__call__" ⟨.ref C::a,b⟩)) outer s H:=⟨by first|exact e.frames|(simpa [Ut.under,aat.envs,aat.isFrame,pushEnvs]using e.frames),e.mod,e.bs,e.bsz,e.YF,e.frf,e.Vp,e.bare⟩
section
variable{X:Cx}{Z:ck (TM×Obj)}{Y:St}{H:Hp}{s U:TK}
theorem Inv.agH(I:Inv X Z Y H s):Env0 X.prog X.w X.K X.mg X.base X.A X.stack s H:=
 ⟨I.ok.frames,I.ok.mod,I.bs,UH I.ok.bsz I.sz,I.stack,I.ZD,I.Vp,I.bare⟩
theorem Inv.after{Q:VK}{u:Tw}(I:Inv X Z Y H s)(h:CE X.stack X.prog X.w H s Q u U):EP X Z Y Q u U:=by obtain⟨v,j,f,a,un,Vp,r,q⟩:=h;obtain⟨i,g,d,t,e⟩:=U;obtain rfl:e=s.os:=f;exact⟨v,j,I.call (h':=i) (g':=g) (d':=d) (t':=t) (ch:=[]) un Vp a (λb z=>a7 z (by simp)),r,q⟩
end
def pW(sp:Sp)(a:ck V)(E:XK)(t:TA):TE:=λb H Q=>t b H λvs d=>sp (vs++a) d Q E
def OM(C:TM)(m:Str)(sp:Sp)(b:ck V)(E:XK)(ta:TE)(t:TA):TE:=λd H Q=>ta d H λx e=>∃a dx fs,x=.ref a/\e a=ax (.ins C dx fs)/\fs.lookup m=CL/\
 t d e λvs f=>sp (x::(vs++b)) f Q E
def Nb(C:TM)(sp:Sp)(a:ck V)(E:XK)(t:TA):TE:=λd H Q=>t d H λvs b=>∀x dx,b x=CL->b dx=CL->dx≠x->
 sp (.ref x::(vs++a)) (bz (bz b dx (.own x)) x (.ins C dx [])) (λv e=>v=.VX/\Q (.ref x) e) E
def Binds(K:cL)(b:U3)(ps:ck Str)(ds:ck Tw):Prop:=
 ∀(s:TK) (a:ck Tw),K.In s.heap->(a++ds).length=ps.length->Zp s b ⟨a,[]⟩ (ps.zip (a++ds))
theorem Binds.all{K:cL}{b:U3}{ps:ck Str}(h:∀us:ck Tw,us.length=ps.length->bindArgs b ⟨us,[]⟩=pure (ps.zip us)):Binds K b ps []:=λs us _ a=>by rw[UQ]at a⊢;exact .of_eq (h us a)
def jH(f:uq)(X:Cx)(E:XK):Prop:=∀(a:ck (TM×Obj)) (d:St) (H:Hp) (s:TK) (e:Tw) (b:TK),Inv X a d H s->f X.stack H s E e b->X.xe e b
section
variable{X:Cx}{T:uq}{k:Nat}{f C:TM}{U:U3}{ps:ck Str}{sp:Sp}{Z:ck V}{ds:ck Tw}{E:XK}{x m:Str}{p Y apos:Pos}{e o:Ue}{es:ck Ue}{ta:TE}{t:TA}
theorem JR{a:ck (TM×Obj)}{g:St}{H:Hp}{s:TK}{Q:VK}{b:ck Tw}{vs:ck V}(F:FnOk X.prog X.w X.K X.mg X.base T k f U ps sp)(n:Wj k X.A)(v:Binds X.K U ps ds)(hd:Vals Z ds)(l:jH T X E)
  (I:Inv X a g H s) (r:Vals vs b) (h:sp (vs++Z) H Q E):wpAny (model X.prog X.w) X.A (call (.ref f) b) (EP X a g Q) X.xe s:=by
 have i:Vals (vs++Z) (b++ds):=r.append hd;have q:(b++ds).length=ps.length:=by rw[<-i.length];exact F.len _ _ _ _ h
 refine YC (WN (F.run X.A X.stack s H ⟨b,[]⟩ (b++ds) (vs++Z) Q E n I.agH (v s b I.Zm q) i h) λr j d=>?_);cases r with
 |error e=>exact l a g H s e j I d
 |ok y=>
  cases y with
  |ret u=>exact I.after d
  |next=>exact False.elim d
  |brk=>exact False.elim d
  |cont=>exact False.elim d
theorem yF(F:FnOk X.prog X.w X.K X.mg X.base T k f U ps sp)(l:Wj k X.A)(u:Gl X x)(hm:X.mg x=ax (.ref f))(n:VT X.K (.ref f)=Ld)(y:Binds X.K U ps ds)(hd:Vals Z ds)(j:jH T X E)
  (ha:PA X (e::es) t) (d:(x==("__debug__":Str))=Tx:=by decide) (v:Uh (e::es) X.env=(Tx,eval e X.env)::Uh es X.env:=by rfl) (b:(backTo Y (Uh es X.env)).any (·.1)=Tx:=by rfl):
  PE X (.Call (.Name x p) (e::es) [] Y) (pW sp Z E t):=by
 intro a s i H Q I h;refine ZF (mI I u hm ?_ d);refine PySem.W.callWith_K I.ok.mod.kin n (c9 (ha Y a s i H _ I h) λz B ⟨vs,G,g,r,q⟩=>⟨g.Zm,?_⟩) v b;exact JR F l y hd j g r q
structure Mk(K:cL)(C f:TM):Prop where
 makes:acQ K C=Ld
 init:T6 K (.ref C) "__init__"=ax (ax (.ref f))
 fn:Wx K (.ref f)=Ld
 kp:VT K (.ref C)=Ld
end
section
variable{X:Cx}{CX:uq}{k:Nat}{f C:TM}{fd:U3}{ps ks:ck Str}{sp:Sp}{E:XK}{x m:Str}{p pos apos am9:Pos}{e o:Ue}{es:ck Ue}{kws:ck Yi}{te ta:TE}{t tk:TA}{nm:cv Str}
structure akl(K:cL)(fd:U3)(ps ks:ck Str)(g:ck Tw->ck Tw->ck Tw)(gV:ck V->ck V->ck V):Prop where
 to:∀(s:TK) (us ws:ck Tw),K.In s.heap->(g us ws).length=ps.length->Zp s fd ⟨us,ks.zip ws⟩ (ps.zip (g us ws))
 rel:∀{vs:ck V} {us:ck Tw} {zs:ck V} {ws:ck Tw},Vals vs us->Vals zs ws->Vals (gV vs zs) (g us ws)
variable{g:ck Tw->ck Tw->ck Tw}{gV:ck V->ck V->ck V}
end
structure V1(N P:ck Str)(sc:V5):Prop where
 kind:sc.kind=.function
 co:sc.isCoroutine=Tx
 gen:sc.isGenerator=Tx
 nd:N.Nodup
 pre:N.take P.length=P
 par:∀x∈P,sc.names.lookup x=ax .local\/sc.names.lookup x=ax .cell
 aeK:∀y∈sc.names,y.2≠.free
theorem r6{a:Str->cv Ua}:∀{binds:ck (Str×Tw)} {m:Str->cv Tw},(∀v,(x,v)∉binds)->bindL a binds m x=m x
 |[],_,_=>rfl
 |(n,v)::r,m,h=>by
  unfold bindL;rw[r6 λw b=>h w (TH _ b)];split
  .have:x≠n:=by rintro rfl;exact h v TC
   simp[this]
  .rfl
theorem rK{a:Str->cv Ua}:∀{binds:ck (Str×Tw)} {m:Str->cv Tw},(∀v,(x,v)∉binds)->bindC a binds m x=m x
 |[],_,_=>rfl
 |(n,v)::r,m,h=>by
  unfold bindC;rw[rK λw b=>h w (TH _ b)];split
  .rfl
  .have:x≠n:=by rintro rfl;exact h v TC
   simp[this]
theorem rV{kindOf:Str->cv Ua}:∀{P:ck Str} {vs:ck Tw} {i:Nat} {m:Str->cv Tw},P.Nodup->P[i]?=ax x->vs[i]?=ax v->kindOf x=ax .local->
  bindL kindOf (P.zip vs) m x=ax v
 |[],_,_,_,_,h,_,_=>by simp at h
 |_::_,[],_,_,_,_,h,_=>by simp at h
 |p::P,w::vs,0,m,nd,h1,h2,hk=>by simp at h1 h2;subst h1;subst h2;show bindL kindOf ((p,w)::P.zip vs) m p=_;unfold bindL;rw[r6 λv hv=>(Wk.mp nd).1 (ZZ hv).1,ak hk];simp
 |p::P,w::vs,i+1,m,nd,h1,h2,hk=>by unfold bindL;exact rV (Wk.mp nd).2 (by simpa using h1) (by simpa using h2) hk
theorem rC{kindOf:Str->cv Ua}:∀{P:ck Str} {vs:ck Tw} {i:Nat} {m:Str->cv Tw},P.Nodup->P[i]?=ax x->vs[i]?=ax v->kindOf x≠ax .local->
  bindC kindOf (P.zip vs) m x=ax v
 |[],_,_,_,_,h,_,_=>by simp at h
 |_::_,[],_,_,_,_,h,_=>by simp at h
 |p::P,w::vs,0,m,nd,h1,h2,hk=>by simp at h1 h2;subst h1;subst h2;show bindC kindOf ((p,w)::P.zip vs) m p=_;unfold bindC;rw[rK λv hv=>(Wk.mp nd).1 (ZZ hv).1,ar hk];simp
 |p::P,w::vs,i+1,m,nd,h1,h2,hk=>by unfold bindC;exact rC (Wk.mp nd).2 (by simpa using h1) (by simpa using h2) hk
def start(N:ck Str)(vs:ck V):St:=vs.map ax++T1 (N.length - vs.length) CL
def gx(g:uq)(P:Ug)(w:Ux)(K:cL)(mg:Str->cv Tw)(base:Heap)(N:ck Str)(b:Str)(a:V5)(f:TM)(cd:Tw)(A:Ut)(outer:ck Env)(s:TK)(H:Hp)(E:XK):Cx where
 prog:=P
 w:=w
 K:=K
 mg:=mg
 base:=base
 A:=A.deeper (envOfC b a s.heap.objs.size f cd)
 N:=N
 s₀:=s
 H₀:=H
 env:=envOfC b a s.heap.objs.size f cd
 outer:=outer
 stack:=envOfC b a s.heap.objs.size f cd::outer
 ex:=[]
 calm:=Ld
 fn:=λ_=>Ld
 pn:=[]
 xe:=λe h=>wpAny (model P w) (A.deeper (envOfC b a s.heap.objs.size f cd)) (leaving (envOfC b a s.heap.objs.size f cd) e) (λ_ d=>g outer H s E e d) (λi d=>g outer H s E i d) h
theorem uY{sc:V5}(h:sc.names.lookup x=ax .cell):∃c,(V0 n sc.names []).lookup x=ax c:=by have q:=WU sc.names n [] (.inl h);exact WJ.mp q
theorem AD{K:cL}
  (S:V1 N ps scope) (hd:A.handled=CL) (g:Env0 P w K mg base A outer s H) (G:vs.length=ps.length) (r:Vals vs us)
  (x:InCallC s s.heap.objs.size (bindL (envOfC qual scope s.heap.objs.size f cd).kindOf (ps.zip us) λ_=>CL) (V0 (s.heap.objs.size+1) scope.names []) (bindC (envOfC qual scope s.heap.objs.size f cd).kindOf (ps.zip us) λ_=>CL) s1):
  Inv (gx CX P w K mg base N qual scope f cd A outer s H E) [] (start N vs) H s1:=by
 have C:ps.length<=N.length:=by have:=ey ab4 S.pre;rw[Uq]at this;ext
 obtain⟨o,F,rfl,B⟩:=x.done;have j:∀b:TM,b∉(gx CX P w K mg base N qual scope f cd A outer s H E).ex:=λb z=>a7 (show b∈([]:ck TM)from z) (by simp);refine⟨⟨g.mod,S.kind,rfl,rfl,TQ _,λy z c o d=>?_,λy l=>?_,λy c _ h=>?_,λ_=>hd,Ut.frames_deeper g.frames,.inr ⟨rfl,rfl⟩,λb z=>a7 z (j b),g.bs,g.bsz,λb _ _=>j b,λb z=>a7 z (j b),g.YF,g.frf⟩,
  rfl,g.bare,Un.kept B,⟨_,x.toInCall.ns,λi y v o d I=>?_⟩,λy c h=>⟨_,x.cell y c h⟩,g.Vp.fresh (TQ _),λy c h=>?_,λp n=>a7 (show p∈([]:ck (TM×Obj))from n) (by simp),g.Vp.kept B,?_⟩
 .exact name_of_addr x.apart (Vq o) (Vq d)
 .have l:=l
  rcases l with l|l
  .exact uY l
  .exact a7 rfl (S.aeK _ (Vq l))
 .exact WZ (x.above y c (Vq h))
 .have hi:i<vs.length:=by
   unfold start at d;by_cases hi:i<vs.length
   .exact hi
   .rw[Vr (by simpa using hi)]at d;rw[WV]at d;split at d<;>cases d
  have ha:vs[i]?=ax v:=by
   unfold start at d;rw[Vc (by simpa using hi),TU]at d;cases e:vs[i]? with
   |none=>rw[e]at d;cases d
   |some a=>rw[e]at d;cases d;rfl
  obtain⟨u,t,rv⟩:=r.get ha;have n:ps[i]?=ax y:=by rw[<-S.pre,aaK (by ext)];exact o
  have m:ps.Nodup:=by rw[<-S.pre];exact S.nd.sublist (List.take_sublist _ _)
  refine⟨u,rv,?_⟩;rcases S.par y (Uk n)with k|k
  .exact .inl ⟨k,rV m n t k⟩
  .obtain⟨c,e⟩:=uY k;refine .inr ⟨.inl k,c,e,?_⟩;have q:=x.cell y c e;rw[rC m n t (by show scope.names.lookup y≠_;rw[k];decide)]at q;exact q
 .exact g.Vp.fresh (WZ (x.above y c (Vq h)))
 .unfold start;show _=N.length;rw[T4,Tv,Wq];ext
theorem HE{CX:uq}{P:Ug}{w:Ux}{K:cL}{mg:Str->cv Tw}{base:Heap}{k:Nat}{f:TM}{name qual:Str}{params:Arguments}{body:ck Wo}{scope:V5}{dV kV doc pm Wc ct oc:Tw}{an od:cv TM}
  {osl:Array (cv Tw)} {N ps:ck Str} {sp:Sp} (lk:K.lookup f=ax ⟨oc,od,.func (Wy name qual params body scope dV kV doc pm an Wc ct),osl⟩) (hcd:Yk K Wc qual=Ld) (S:V1 N ps scope)
  (len:∀vs H Q E,sp vs H Q E->vs.length=ps.length)
  (Xv:∀(A:Ut) (outer:ck Env) (s:TK) (H:Hp) (vs:ck V) (Q:VK) (E:XK),Wj k (A.deeper (envOfC qual scope s.heap.objs.size f Wc))->sp vs H Q E->
   ∃t,PSs (gx CX P w K mg base N qual scope f Wc A outer s H E) body t/\t {nx:=λ_ H'=>Q .VX H',rt:=Q} (start N vs) H):
  FnOk P w K mg base CX (k+1) f (Wy name qual params body scope dV kV doc pm an Wc ct) ps sp:=by
 refine⟨len,λA outer s H args us vs Q E hr e0 hb r hsp=>?_⟩;have hl:=len _ _ _ _ hsp;have KX:K.In s.heap:=e0.mod.kin.keeps λb o e=>(e0.bs b o e).1;have lim:s.heap.NoLimit:=e0.mod.nolimit.keeps λb o e=>(e0.bs b o e).1;have XI:∀y∈ps.zip us,scope.names.lookup y.1=ax .local\/(scope.names.lookup y.1=ax .cell/\((V0 (s.heap.objs.size+1) scope.names []).lookup y.1).isSome=Ld):=λ⟨n,v⟩ hy=>by
  rcases S.par n (ZZ hy).1 with q|q
  .exact .inl q
  .exact .inr ⟨q,WU _ _ _ (.inl q)⟩
 refine codeAny_call_function hr.depth (KX _ _ lk) rfl S.co S.gen rfl (PySem.W.codeRec_of KX hcd) (hb _ _ _ _ ?_);refine wpAny_newFunctionEnv_cells S.kind XI λenv he s1 x=>?_;subst he;refine⟨lim.keeps x.toInCall.keep,codeAny_func ?_⟩;obtain⟨t,ht,hq⟩:=Xv A outer s H vs Q E (hr.deeper _) hsp;have I:Inv (gx CX P w K mg base N qual scope f Wc A outer s H E) [] (start N vs) H s1:=AD S hr.hd e0 hl r x;refine wpAny_mono (ht [] s1 (start N vs) H _ I hq) (λfl s' hs=>?_) λe s' hs=>hs
 have fin:∀{σ':St} {H':Hp} {v:V} {u:Tw},Inv (gx CX P w K mg base N qual scope f Wc A outer s H E) [] σ' H' s'->RelV v u->Q v H'->CE outer P w H s Q u s':=
  λ{σ' H' v u} J rv q=>⟨v,H',J.os,J.bare,J.base,J.Vp,rv,q⟩
 cases fl with
 |ret u=>obtain⟨v,σ',H',J,rv,q⟩:=hs;exact fin J rv q
 |next=>obtain⟨σ',H',J,q⟩:=hs;exact fin (v:=V.VX) (u:=Tw.none) J rfl q
 |brk=>obtain⟨_,_,_,q⟩:=hs;exact False.elim q
 |cont=>obtain⟨_,_,_,q⟩:=hs;exact False.elim q
section
variable{X:Cx}{x:Str}{p Z:Pos}{e:Ue}{es:ck Ue}{t:TA}{id T:String}{r:ck V->Hp->VK->Prop}
def G2(r:ck V->Hp->VK->Prop)(t:TA):TE:=λa H Q=>t a H λvs b=>r vs b Q
theorem dg(o:Wn X (.builtin id) r)(m:Gl X x)(hm:X.mg x=CL)(l:UK x=ax (.builtin id))(ha:PA X (e::es) t)(hn:x≠ "__name__":=by decide)(d:(x==("__debug__":Str))=Tx:=by decide)
  (n:Uh (e::es) X.env=(Tx,eval e X.env)::Uh es X.env:=by rfl) (b:(backTo Z (Uh es X.env)).any (·.1)=Tx:=by rfl):PE X (.Call (.Name x p) (e::es) [] Z) (G2 r t):=by
 intro a s f H Q I h;refine ZF (lN I m hm l ?_ hn d);exact ahD (c9 (ha Z a s f H _ I h) λg i ⟨vs,u,q,j,k⟩=>o a i f u vs g Q q j k) n b
theorem zC(o:Wn X (.type T) r)(m:Gl X x)(hm:X.mg x=CL)(l:UK x=ax (.type T))(ha:PA X (e::es) t)(hn:x≠ "__name__":=by decide)(d:(x==("__debug__":Str))=Tx:=by decide)
  (n:Uh (e::es) X.env=(Tx,eval e X.env)::Uh es X.env:=by rfl) (b:(backTo Z (Uh es X.env)).any (·.1)=Tx:=by rfl):PE X (.Call (.Name x p) (e::es) [] Z) (G2 r t):=by
 intro a s f H Q I h;refine ZF (lN I m hm l ?_ hn d);exact Wa (c9 (ha Z a s f H _ I h) λg i ⟨vs,u,q,j,k⟩=>o a i f u vs g Q q j k) n b
end
end L2
namespace HT
open PySem PyProof.Rows
section
open PySem.SeqAt
open PySem.AutoSeq1 (wpAny_loadPart')
open PySem.MeetsSeq PySem.MeetsSeq2 PySem.MeetsSeq3
end
section
variable{prog:Ug}{w:Ux}{A:Ut}{E:Tw->TK->Prop}{s:TK}
theorem cat_tup{t b:TM}{vs ws:ck Tw}{Q:Tw->TK->Prop}(u:IsTup s.heap t vs.toArray)(v:IsTup s.heap b ws.toArray)(p:vs≠[])
  (z:ws=[]->Q (.ref t) s) (y:ws≠[]->Q (.ref s.heap.objs.size) {s with heap:=s.heap.push {cls:=.type "tuple",data:=.seq (vs++ws).toArray}})
  (k:vs.length+ws.length<=T8):wpAny (model prog w) A (V2 .Add (.ref t) (.ref b)) Q E s:=by
 obtain⟨⟨cls,dd,data,m⟩,j,r,n,q⟩:=id u;obtain⟨⟨B,h,l,d⟩,a,g,o,f⟩:=id v;simp only at r q g f;subst r q g f;have e:vs.toArray++ws.toArray=(vs++ws).toArray:=by simp
 by_cases i:ws=[]
 .exact concat_meets ⟨_,j,rfl⟩ ⟨_,a,rfl⟩ af4 akU aau aai (Z0 _ _)
   (tuple_addW1 t b vs.toArray ws.toArray n o dd h m d (by simpa using p) (by simp[i])) ⟨j,a,z i⟩
 .refine concat_meets ⟨_,j,rfl⟩ ⟨_,a,rfl⟩ af4 akU aau aai (Z0 _ _)
   (tuple_addW2 t b vs.toArray ws.toArray n o dd h m d (by simpa using p) (by simpa using i) (by rw[T3,T3];exact k)) ⟨j,a,?_⟩
  rw[e];exact y i
def sIx(n d:Nat):cv Int->Nat
 |none=>d
 |some v=>if v<0 then(v+(n:Int)).toNat else min v.toNat n
theorem sIx_none(n d:Nat):sIx n d CL=d:=rfl
theorem sIx_nat(n d k:Nat):sIx n d (ax (k:Int))=min k n:=by show(if(k:Int)<0 then((k:Int)+(n:Int)).toNat else min (k:Int).toNat n)=min k n;rw[ar (by ext),UI]
theorem LP(n d:Nat)(hd:d<=n)(o:cv Int):sIx n d o<=n:=by
 cases o with
 |none=>exact hd
 |some v=>
  show(if v<0 then(v+(n:Int)).toNat else min v.toNat n)<=n;by_cases a:v<0
  .rw[ak a];ext
  .rw[ar a];exact ZG _ _
theorem yn(v:Int)(n d:Nat):(if v<0 then max (v+(n:Int)) 0 else min v (n:Int))=((sIx n d (ax v):Nat):Int):=by
 show(if v<0 then max (v+(n:Int)) 0 else min v (n:Int))=(((if v<0 then(v+(n:Int)).toNat else min v.toNat n):Nat):Int);by_cases a:v<0
 .simp only[ak a];ext
 .simp only[ar a];ext
theorem wJ(lo hi:cv Int)(n:Nat):Um.Slice.sliceAdjust lo hi 1 (n:Int)=(((sIx n 0 lo:Nat):Int),((sIx n n hi:Nat):Int)):=by
 have a:¬((1:Int)<0):=by ext
 unfold Um.Slice.sliceAdjust;simp only[a,if_false];refine Prod.ext ?_ ?_
 .cases lo with
  |none=>rfl
  |some v=>exact yn v n 0
 .cases hi with
  |none=>rfl
  |some v=>exact yn v n n
theorem wX(i j:Nat):Um.Slice.slicePlaces (i:Int) (j:Int) 1=j - i:=by
 unfold Um.Slice.slicePlaces;have a:(1:Int)>0:=by ext
 simp only[a,if_true,Int.ediv_one];split<;>ext
theorem qh(p:Y5 v o)(h:Q o s):wpAny (model prog w) A (Um.Slice.slicePartIndex v) Q E s:=by
 cases p with
 |none=>exact slicePart_none h
 |int i t=>exact slicePart_int h
theorem ji{lo hi:cv Int}{Q:Int×Int×Nat->TK->Prop}(e:s.heap.IsSliceOf sl vl vu .none)(pl:Y5 vl lo)(d:Y5 vu hi)
  (h:Q (((sIx n 0 lo:Nat):Int),1,sIx n n hi - sIx n 0 lo) s):wpAny (model prog w) A (Um.Slice.sliceApplied (.ref sl) (pure (n:Int))) Q E s:=by
 obtain⟨g,a,f,b⟩:=id e;unfold Um.Slice.sliceApplied Um.Slice.sliceFields;refine OK (OK (UL a b rfl (OK (UL a b rfl (OK (UL a b rfl (TR ?_)))))));refine OK (slicePart_none ?_);rw[ar (by decide)];refine OK (qh pl (OK (qh d (OK (TR ?_)))));show wpAny _ _ (match Um.Slice.sliceAdjust lo hi 1 (n:Int)with|(lo,hi)=>pure (lo,(1:Int),Um.Slice.slicePlaces lo hi 1)) _ _ s;rw[wJ lo hi n];show wpAny _ _ (pure (((sIx n 0 lo:Nat):Int),(1:Int),Um.Slice.slicePlaces ((sIx n 0 lo:Nat):Int) ((sIx n n hi:Nat):Int) 1)) _ _ s;rw[wX];exact TR h
theorem D1(xs:Array Tw)(i k:Nat):((Uo k).filterMap λ(m:Nat)=>xs[((i:Int)+(m:Int)*1).toNat]?).toArray=((xs.toList.drop i).take k).toArray:=by
 have e:(λ(m:Nat)=>xs[((i:Int)+(m:Int)*1).toNat]?)=λm=>xs[i+m]? :=by
  funext m;have:((i:Int)+(m:Int)*1).toNat=i+m:=by ext
  rw[this]
 rw[e];have:=pick_run xs i k;rw[List.filterMap_map]at this;have a:((λx=>xs[x]?)∘λx=>i+x)=λm=>xs[i+m]? :=rfl;rw[a]at this;rw[this]
theorem getItem_tuple_cut{lo hi:cv Int}(b:IsTup s.heap t items)(i:s.heap.IsSliceOf sl vl vu .none)(pl:Y5 vl lo)(j:Y5 vu hi)
  (l:¬(sIx items.size 0 lo=0/\sIx items.size items.size hi=items.size))
  (h:Q (.ref s.heap.objs.size) {s with heap:=s.heap.push {cls:=.type "tuple",data:=.seq ((items.toList.drop (sIx items.size 0 lo)).take (sIx items.size items.size hi - sIx items.size 0 lo)).toArray}})
  (m:items.size<=T8):wpAny (model prog w) A (getItem (.ref t) (.ref sl)) Q E s:=by
 have a:sizeOk (.seq ((items.toList.drop (sIx items.size 0 lo)).take (sIx items.size items.size hi - sIx items.size 0 lo)).toArray):=by show((items.toList.drop (sIx items.size 0 lo)).take (sIx items.size items.size hi - sIx items.size 0 lo)).toArray.size<=T8;rw[T3,Uq,UB,Xm];ext
 have r:sIx items.size items.size hi<=items.size:=LP _ _ (TQ _) hi;obtain⟨k,d,f,n⟩:=id i;have g:s.TypeIs (.ref sl) "slice":=⟨k,d,f⟩;unfold getItem
 try specialize Wz ?_
 first|refine OK (TR ?_)|skip
 refine OK (afm b.typeIs (by decide) ?_);refine OK (VQ b.typeIs UZ
  (Wh UZ b.typeIs entry_tuple_getitem ?_ (args_tuple_getitem _ _)))
 show wpAny _ _ (Um.Tuple.tupleItemsOf (.ref t)>>=_) _ _ s;refine OK (tupleItemsOf_ b ?_);refine OK (Z1 g ?_);rw[ak (by decide)];refine OK (ji i pl j ?_);have e:¬((((sIx items.size 0 lo:Nat):Int)==0&&(1:Int)==1&&(sIx items.size items.size hi - sIx items.size 0 lo)==items.size)=Ld):=by intro q;rw[Tu,Tu]at q;have p:=eq_of_beq q.1.1;have o:=eq_of_beq q.2;exact l ⟨by ext,by ext⟩
 show wpAny _ _ (if(((sIx items.size 0 lo:Nat):Int)==0&&(1:Int)==1&&(sIx items.size items.size hi - sIx items.size 0 lo)==items.size)=Ld then _ else _) _ _ s;rw[ar e,D1]
 first
  |exact OK (Vw (TR ⟨_,rfl,TR h⟩) a)
  |exact OK (Vw (OK (TR (TR ⟨_,rfl,TR h⟩))) a)
  |exact OK (OK (Vw (TR (TR ⟨_,rfl,TR h⟩)) a))
  |exact OK (OK (Vw (TR ⟨_,rfl,TR h⟩) a))
end
end HT
namespace L2
open PySem PySem.Spec PyProof.Rows
abbrev TO:=St->Hp->(cv Int->Hp->Prop)->Prop
def PO(X:Cx)(e:cv Ue)(t:TO):Prop:=
 ∀(a:ck (TM×Obj)) (s:TK) (b:St) (H:Hp) (Q:cv Int->Hp->Prop),Inv X a b H s->t b H Q->
  wpAny (model X.prog X.w) X.A (evalPart e X.env) (λu d=>∃o H',Inv X a b H' d/\Y5 u o/\Q o H') X.xe s
def yf:TO:=λ_ H Q=>Q CL H
def HS(t:TE):TO:=λa H Q=>t a H λx b=>∃i,x=.int i/\Q (ax i) b
theorem lO:∀{a:ck Tw},Vals (ns.map V.int) a->IntsAre a ns:=by
 induction ns with
 |nil=>intro a r;rw[Vs]at r;cases r;exact .nil
 |cons n ns f=>
  intro a r;rw[Ub]at r;cases r with
  |cons d b=>obtain⟨t,e⟩:=d;subst e;exact .cons n t (f b)
section
variable{X:Cx}{e:Ue}{U:TE}{Z Y:cv Ue}{S R:TO}{O P:Pos}
theorem FY:PO X CL yf:=by intro a s b H Q I h;rw[akV];exact TR ⟨CL,H,I,.none,h⟩
theorem EY(h:PE X e U):PO X (ax e) (HS U):=by intro a s b H Q I g;rw[evalPart_some];refine c9 (h a s b H _ I g) λu l ⟨x,k,j,d,f⟩=>?_;obtain⟨i,rfl,q⟩:=f;obtain⟨t,rfl⟩:=d;exact⟨ax i,k,j,.int i t,q⟩
def Ia(X:Cx)(r:V->cv Int->cv Int->Hp->VK->Prop):Prop:=
 ∀(a:ck (TM×Obj)) (s:TK) (b:St) (H:Hp) (x:V) (v f d:Tw) (Z Y:cv Int) (g:TM) (Q:VK),Inv X a b H s->RelV x v->s.heap.IsSliceOf g f d .none->Y5 f Z->Y5 d Y->r x Z Y H Q->
  ∃T id,typeLookup (.type T) "__getitem__"=pure (ax (.builtin id))/\s.TypeIs v T/\wpAny (model X.prog X.w) X.A (getItem v (.ref g)) (EP X a b Q) X.xe s
def RG(r:V->cv Int->cv Int->Hp->VK->Prop)(U:TE)(S R:TO):TE:=λa H Q=>U a H λx f=>S a f λl d=>R a d λu b=>r x l u b Q
theorem Bs{r:V->cv Int->cv Int->Hp->VK->Prop}(C:Ia X r)(G:PE X e U)(E:PO X Z S)(z:PO X Y R):PE X (.Subscript e (.Slice Z Y CL P) O) (RG r U S R):=by intro a s f H Q I h;refine Subscript_ (c9 (G a s f H _ I h) λv m ⟨x,H1,N,n,t⟩=>?_);refine wpAny_Slice (c9 (E a m f H1 _ N t) λi k ⟨l,H2,M,pl,p⟩=>c9 (z a k f H2 _ M p) λg d ⟨u,j,L,y,o⟩=>?_);rw[akV];refine TR ?_;have K:Inv X a f j {d with heap:=d.heap.push {cls:=.type "slice",data:=.fields #[i,g,.none]}}:=L.kept (t':=d.toks) λb ob q=>cM _ q;obtain⟨T,id,J,B,F⟩:=C a {d with heap:=d.heap.push {cls:=.type "slice",data:=.fields #[i,g,.none]}} f j x v i g l u d.heap.objs.size Q K n (Heap.IsSliceOf.new ..) pl y o;show wpAny (model X.prog X.w) X.A (subscriptTail e (.Slice Z Y CL P) v (.ref d.heap.objs.size)) (EP X a f Q) X.xe {d with heap:=d.heap.push {cls:=.type "slice",data:=.fields #[i,g,.none]}};exact tail_any (ops:=[.ref d.heap.objs.size,v]) B J F (by with_unfolding_all rfl)
def zu(xs:ck V)(Z Y:cv Int):ck V:=(xs.drop (HT.sIx xs.length 0 Z)).take (HT.sIx xs.length xs.length Y - HT.sIx xs.length 0 Z)
theorem nX(xs:ck V)(Z Y:cv Int):(zu xs Z Y).length<=xs.length:=by unfold zu;rw[Uq,UB];ext
def Oe(K:cL):V->cv Int->cv Int->Hp->VK->Prop:=λx Z Y H Q=>∃a xs,x=.ref a/\XA K H a xs/\
 ¬(HT.sIx xs.length 0 Z=0/\HT.sIx xs.length xs.length Y=xs.length)/\∀p,H p=CL->Q (.ref p) (bz H p (.tup (zu xs Z Y)))
theorem Jw:Ia X (Oe X.K):=by
 intro f s p H x v u t Z Y w Q I j n pl k h;obtain⟨a,xs,rfl,l,m,q⟩:=h;cases j;obtain⟨o,r,i,g⟩:=I.tuple l;have d:o.toArray.size=xs.length:=by rw[T3];exact r.length.symm
 refine⟨"tuple",_,UZ.lookup,i.typeIs,?_⟩;refine HT.getItem_tuple_cut i n pl k (by rw[d];exact m) ?_ (by rw[d];exact g);rw[d];refine⟨.ref s.heap.objs.size,_,I.laid (λb y q=>cM _ q) (TQ _) ?_,rfl,q _ (I.Vp.fresh (TQ _))⟩;exact⟨UH (nX xs Z Y) g,_,(r.drop (HT.sIx xs.length 0 Z)).take (HT.sIx xs.length xs.length Y - HT.sIx xs.length 0 Z),ZV.new _ _⟩
def Ig(K:cL):R2:=λx y H Q=>∃a b xs ys,x=.ref a/\y=.ref b/\XA K H a xs/\XA K H b ys/\xs≠[]/\xs.length+ys.length<=T8/\
 (ys=[]->Q (.ref a) H)/\(ys≠[]->∀p,H p=CL->Q (.ref p) (bz H p (.tup (xs++ys))))
theorem Vals.aaA(r:Vals xs us):us=[]↔xs=[]:=by
 cases r with
 |nil=>simp
 |cons _ _=>simp
theorem EN:OpR X (V2 .Add) (Ig X.K):=by intro g s t H x y v u Q I k j h;obtain⟨a,b,xs,A,rfl,rfl,ha,p,o,i,m,l⟩:=h;cases k;cases j;obtain⟨C,f,n,_⟩:=I.tuple ha;obtain⟨r,d,P,_⟩:=I.tuple p;refine HT.cat_tup n P (λz=>o (f.aaA.mp z)) (λz=>⟨.ref a,H,I,rfl,m (d.aaA.mp z)⟩) (λz=>?_) (by rw[<-f.length,<-d.length];exact i);refine⟨.ref s.heap.objs.size,_,I.laid (λb B q=>cM _ q) (TQ _) ?_,rfl,l (λw=>z (d.aaA.mpr w)) _ (I.Vp.fresh (TQ _))⟩;exact⟨by rw[T4];exact i,_,f.append d,ZV.new _ _⟩
end
def Ei(n:Nat)(i:Int):cv Nat:=if 0<=i then(if i<n then ax i.toNat else CL)else if -(n:Int)<=i then ax (i+n).toNat else CL
def mL(xs:ck α)(i:Int):cv α:=(Ei xs.length i).bind λj=>xs[j]?
theorem GG(h:Ei n i=ax j):seqIndex? i n=ax j/\j<n/\ -(n:Int)<=i/\i<n:=by
 unfold Ei at h;by_cases b:0<=i
 .rw[ak b]at h
  by_cases a:i<n
  .rw[ak a]at h;have e:=Us h;exact⟨by rw[seqIndex_of b a,e],by ext,by ext,a⟩
  .rw[ar a]at h;cases h
 .rw[ar b]at h
  by_cases a: -(n:Int)<=i
  .rw[ak a]at h;have e:=Us h;exact⟨by rw[seqIndex_neg (by ext) a,e],by ext,a,by ext⟩
  .rw[ar a]at h;cases h
theorem sZ(h:mL xs i=ax v):∃j,seqIndex? i xs.length=ax j/\xs[j]?=ax v/\j<xs.length/\ -(xs.length:Int)<=i/\i<xs.length:=by
 unfold mL at h;cases e:Ei xs.length i with
 |none=>rw[e]at h;cases h
 |some j=>rw[e]at h;obtain⟨f,d,b,a⟩:=GG e;exact⟨j,f,h,d,b,a⟩
theorem xZ{j:Nat}(h:xs[j]?=ax v):mL xs (j:Int)=ax v:=by
 have a:=(TN.mp h).1;have e:Ei xs.length (j:Int)=ax j:=by unfold Ei;rw[ak (by ext),ak (by ext)];simp
 unfold mL;rw[e];exact h
def tL(b:Ue):Prop:=∀o i,subscripted b Tx o i=operate [o,i] (getItem o i)
def IxR(X:Cx)(r:R2):Prop:=
 ∀(d a:Ue) (b:ck (TM×Obj)) (s:TK) (e:St) (H:Hp) (x y:V) (v u:Tw) (Q:VK),Inv X b e H s->RelV x v->RelV y u->r x y H Q->
  subscripted a Tx v u=operate [v,u] (getItem v u)->wpAny (model X.prog X.w) X.A (subscriptTail d a v u) (EP X b e Q) X.xe s
def Gk(X:Cx)(id:String)(r:V->ck V->Hp->VK->Prop):Prop:=
 ∀(a:ck (TM×Obj)) (s:TK) (b:St) (H:Hp) (x:V) (xs:ck V) (v:Tw) (d:ck Tw) (Q:VK),Inv X a b H s->RelV x v->Vals xs d->r x xs H Q->
  wpAny (model X.prog X.w) X.A (call (.builtin id) (v::d)) (EP X a b Q) X.xe s
section
variable{X:Cx}{a b:Ue}{ta tb:TE}{Z:Pos}
theorem IxR.or(h:IxR X r)(h':IxR X r'):IxR X (λx y H Q=>r x y H Q\/r' x y H Q):=by
 intro d e f s g H x y v u Q I j i q k;rcases q with q|q
 .exact h d e f s g H x y v u Q I j i q k
 .exact h' d e f s g H x y v u Q I j i q k
theorem Pz{r:R2}(k:IxR X r)(ha:PE X a ta)(l:PE X b tb)(j:tL b):PE X (.Subscript a b Z) (Fp r ta tb):=by intro d s e H Q I h;exact Subscript_ (JA ha l I h λv u f x y n m i g q=>k a b d f e n x y v u Q m i g q (j _ _))
def MO(K:cL):R2:=λx y H Q=>∃p xs i v,x=.ref p/\y=.int i/\XG K H p xs/\mL xs i=ax v/\Q v H
def MP(K:cL):R2:=λx y H Q=>∃p xs i v,x=.ref p/\y=.int i/\XA K H p xs/\mL xs i=ax v/\Q v H
def Pq:R2:=λx y H Q=>∃z i c,x=.str z/\y=.int i/\z.length<=T8/\mL z.cps.toList i=ax c/\Q (.str ⟨#[c]⟩) H
theorem E6:IxR X (MO X.K):=by
 intro g k d s B H x y v u Q I E C h n;obtain⟨p,xs,i,z,rfl,rfl,F,J,q⟩:=h;cases E;obtain⟨t,rfl⟩:=C;obtain⟨O,r,pl,P⟩:=I.list F;obtain⟨j,f,N,R,M,L⟩:=sZ J;obtain⟨w,A,l⟩:=r.get N;have G:=r.length;have hn:=sR;have e:EP X d B Q w s:=⟨z,H,I,l,q⟩;by_cases o:0<=i
 .have m:i.toNat=j:=by
   rw[seqIndex_of o L]at f;exact Us f
  exact item_listR pl.isList o (by ext) (by rw[m];simpa using A) e n
 .have m:(i+(O.toArray.size:Int)).toNat=j:=by
   rw[seqIndex_neg (by ext) M]at f;rw[T3,<-G];exact Us f
  exact subscriptTail_builtinR pl.isList.typeIs afn.lookup
   (wpAny_getItem_list_neg pl.isList (by ext) (by rw[T3]<;>ext) (by ext) (by rw[m];simpa using A) ⟨rfl,e⟩) n
theorem Jm:IxR X (MP X.K):=by
 intro e f d s l H x y v u Q I n m h o;obtain⟨p,xs,i,z,rfl,rfl,A,C,q⟩:=h;cases n;obtain⟨t,rfl⟩:=m;obtain⟨O,r,pl,J⟩:=I.tuple A;obtain⟨j,F,E,N,M,L⟩:=sZ C;obtain⟨w,G,g⟩:=r.get E;have B:=r.length;have hn:=sR;have k:EP X d l Q w s:=⟨z,H,I,g,q⟩;exact subscriptTail_builtinR pl.typeIs slot_tuple_getitem.lookup
  (getItem_tuple pl (by ext) (by ext) (by rw[T3,<-B];exact F) (by simpa using G) ⟨rfl,k⟩) o
theorem LU:IxR X Pq:=by
 intro d e f s C H x y v u Q I l k h m;obtain⟨z,i,c,rfl,rfl,F,o,q⟩:=h;obtain⟨t,rfl⟩:=l;obtain⟨E,rfl⟩:=k;obtain⟨j,g,w,G,r,p⟩:=sZ o;have n:z.cps.toList.length=z.length:=by simp[Str.length]
 rw[n]at g r p;have hn:=sR;exact tail_any (X5 s z t) slot_str_getitem.lookup (getItem_str (by have B:decide (i< -(2^63:Int))=Tx:=a5 (by ext);have A:decide (i≥2^63)=Tx:=a5 (by ext);rw[B,A,YU]) (by rw[g];simpa using w) ⟨.str ⟨#[c]⟩,H,I.tok _,⟨_,rfl⟩,q⟩) m
def PB(K:cL):R2:=λx y H Q=>MO K x y H Q\/MP K x y H Q\/Pq x y H Q
theorem Kb:IxR X (PB X.K):=E6.or (Jm.or LU)
theorem tu(lo hi:cv Int)(n:Nat):(sliceBounds lo hi CL n).1=((HT.sIx n 0 lo:Nat):Int)/\(sliceBounds lo hi CL n).2.1=((HT.sIx n n hi:Nat):Int)/\(sliceBounds lo hi CL n).2.2=1:=by
 refine⟨?_,?_,rfl⟩
 .cases lo with
  |none=>simp[sliceBounds,HT.sIx]
  |some i=>
   simp only[sliceBounds,HT.sIx,acR,show(1:Int)>0 by decide,if_true];by_cases h:i<0
   .simp only[h,if_true]<;>ext
   .simp only[h,if_false]<;>ext
 .cases hi with
  |none=>simp[sliceBounds,HT.sIx]
  |some i=>
   simp only[sliceBounds,HT.sIx,acR,show(1:Int)>0 by decide,if_true];by_cases h:i<0
   .simp only[h,if_true]<;>ext
   .simp only[h,if_false]<;>ext
theorem qO(d:ck Tw)(lo hi:cv Int):slicePick d.toArray lo hi CL=((d.drop (HT.sIx d.length 0 lo)).take (HT.sIx d.length d.length hi - HT.sIx d.length 0 lo)).toArray:=by obtain⟨g,f,e⟩:=tu lo hi d.toArray.size;unfold slicePick;rw[g,f,e];simp only[sliceRange_one,pick_run,T3]<;>rfl
def OZ(K:cL):V->cv Int->cv Int->Hp->VK->Prop:=λx lo hi H Q=>∃a xs,x=.ref a/\XG K H a xs/\∀p,H p=CL->Q (.ref p) (bz H p (.lst (zu xs lo hi)))
theorem Gy:Ia X (OZ X.K):=by intro e s m H x v o n lo hi p Q I g l pl i h;obtain⟨a,xs,rfl,k,q⟩:=h;cases g;obtain⟨u,r,f,j⟩:=I.list k;have d:=r.length;refine⟨"list",_,afn.lookup,f.isList.typeIs,?_⟩;refine wpAny_getItem_list_slice f.isList l pl i .none (by simp) ?_ (by rw[T3]<;>ext);rw[qO,<-d];refine⟨.ref s.heap.objs.size,_,I.laid (λb t q=>cM _ q) (TQ _) ?_,rfl,q _ (I.Vp.fresh (TQ _))⟩;exact⟨UH (nX xs lo hi) j,_,0,(r.drop (HT.sIx xs.length 0 lo)).take (HT.sIx xs.length xs.length hi - HT.sIx xs.length 0 lo),c6 _ rfl⟩
theorem Wn.or(h:Wn X f r)(h':Wn X f r'):Wn X f (λxs H Q=>r xs H Q\/r' xs H Q):=by
 intro d s e H xs g Q I i q;rcases q with q|q
 .exact h d s e H xs g Q I i q
 .exact h' d s e H xs g Q I i q
theorem uc:Wn X (.type "list") (λxs H Q=>∃p ys,xs=[.ref p]/\(XG X.K H p ys\/XA X.K H p ys)/\∀l,H l=CL->Q (.ref l) (bz H l (.lst ys))):=by
 intro j s C H xs F Q I r h;obtain⟨p,ys,rfl,t,q⟩:=h;obtain⟨u,rfl,E⟩:=iZ r;cases E
 have y:∀(f:ck Tw),Vals ys f->ys.length<=T8->∀(d:Heap) (i:Nat),(∀b o',s.heap.get? b=ax o'->d.get? b=ax o')->
   d.get? s.heap.objs.size=ax {cls:=.type "list",dict:=CL,data:=.seq f.toArray i,slots:= #[]}->EP X j C Q (.ref s.heap.objs.size) {s with heap:=d}:=λf g m d i k e=>
  ⟨.ref s.heap.objs.size,_,I.laid k (TQ _) (show V9 X.prog X.w _ d _ (.lst ys)from⟨m,f,i,g,e⟩),rfl,q _ (I.Vp.fresh (TQ _))⟩
 rcases t with t|t
 .obtain⟨f,g,pl,m⟩:=I.list t;have v:=g.length;obtain⟨o,z,B,n,A⟩:=pl.isList;exact akW p (.inl rfl) z B A (λd i k e=>y f g m d i k e) (by simp only[T3]<;>ext)
 .obtain⟨f,g,pl,m⟩:=I.tuple t;have v:=g.length;obtain⟨o,z,B,n,A⟩:=pl;exact akW p (.inr rfl) z B A (λd i k e=>y f g m d i k e) (by simp only[T3]<;>ext)
theorem qZ:Wn X (.type "tuple") (λxs H Q=>∃p ys,xs=[.ref p]/\((XG X.K H p ys/\∀l,H l=CL->Q (.ref l) (bz H l (.tup ys)))\/(XA X.K H p ys/\Q (.ref p) H))):=by
 intro g s z H xs A Q I r h;obtain⟨p,ys,rfl,h⟩:=h;obtain⟨u,rfl,n⟩:=iZ r;cases n;rcases h with⟨f,q⟩|⟨f,q⟩
 .obtain⟨k,d,pl,i⟩:=I.list f
  have j:=d.length;refine call_tuple_list pl.isList (λv t=>?_) (by simp only[T3]<;>ext);have m:=I.kept (t':=s.toks) t
  have y:=
   m.laid (t':=s.toks) (λb o e=>cM _ e) (TQ _) (show V9 X.prog X.w _ _ _ (.tup ys)from⟨i,k,d,ZV.new _ _⟩)
  exact⟨.ref v.objs.size,_,y,rfl,q _ (m.Vp.fresh (TQ _))⟩
 .obtain⟨k,d,pl,i⟩:=I.tuple f;exact call_tuple_same pl ⟨.ref p,H,I,rfl,q⟩
def QY(K:cL)(T:String)(x:V)(H:Hp):Prop:=match x with
 |.str _=>T= "str"
 |.int _=>T= "int"
 |.ref p=>(T= "list"/\∃xs,XG K H p xs)\/(T= "tuple"/\∃o,K.lookup p=ax o/\o.cls=.type "tuple"/\o.dict=CL)\/
   (T= "dict"/\((∃Yc,H p=ax (.dK Yc))\/∃Yc,H p=ax (.dT Yc)))\/(T= "set"/\∃S n,H p=ax (.set S n))
 |_=>False
theorem II(I:Inv X pins σ H s)(r:RelV x v)(ty:QY X.K T x H):
  s.TypeIs v T/\∀a,v=.ref a->∃ob,s.heap.get? a=ax ob/\ob.dict=CL:=by
 cases x with
 |str z=>obtain⟨t,rfl⟩:=r;cases(show T= "str" from ty);exact⟨X5 s z t,λ_ e=>nomatch e⟩
 |int i=>obtain⟨t,rfl⟩:=r;cases(show T= "int" from ty);exact⟨ZH s i t,λ_ e=>nomatch e⟩
 |ref p=>
  cases r;rcases ty with⟨rfl,xs,j⟩|⟨rfl,o,d,k,g⟩|⟨rfl,d⟩|⟨rfl,S,n,d⟩
  .obtain⟨l,_,pl,_⟩:=I.list j;refine⟨pl.isList.typeIs,λa e=>?_⟩;cases e;obtain⟨o,n,e,c,g,_⟩:=pl;exact⟨o,e,g⟩
  .refine⟨⟨o,I.Zm p o d,k⟩,λa e=>?_⟩;cases e;exact⟨o,I.Zm _ o d,g⟩
  .have z:∃o,s.heap.get? p=ax o/\o.ExactDict:=by
    rcases d with⟨Yc,d⟩|⟨Yc,d⟩
    .obtain⟨_,_,_,_,o,_,_,e,f,_⟩:=I.Vp p _ d;exact⟨o,e,f⟩
    .obtain⟨_,_,_,_,o,_,_,e,f,_⟩:=I.Vp p _ d;exact⟨o,e,f⟩
   obtain⟨o,e,f⟩:=z;refine⟨⟨o,e,f.1⟩,λa h=>?_⟩;cases h;exact⟨o,e,f.2.1⟩
  .obtain⟨o,_,_,_,e,f,_⟩:=I.Vp p _ d;refine⟨⟨o,e,f.1⟩,λa h=>?_⟩;cases h;exact⟨o,e,f.2.1⟩
 |_=>exact False.elim ty
def Ib(K:cL)(T:String)(r:V->ck V->Hp->VK->Prop)(to:TE)(t:TA):TE:=λd H Q=>to d H λx e=>QY K T x e/\t d e λxs f=>r x xs f Q
variable{o e:Ue}{es:ck Ue}{to:TE}{t:TA}{name:Str}{Z Y:Pos}{T id:String}{r:V->ck V->Hp->VK->Prop}
theorem vA(pa:PlainAttrs T)(slot:Slot T name id)(g:typeOf (.builtin id)=pure (.type "method_descriptor"))(hm:Gk X id r)(B:PE X o to)(ha:PA X (e::es) t)
  (F:attributeBase o name X.env (eval o X.env)=eval o X.env:=by rfl)
  (i:((backTo Y (Uh (e::es) X.env)).all (λx=> !x.1)&&(backToKw Y (keywordEach [] X.env)).all (λx=>x.1.isSome)
   &&decide ((e::es).length+([]:ck Yi).length+(if([]:ck Yi).isEmpty then 0 else 1)<30))=Ld:=by rfl)
  (j:(Z.endLine==Y.line)=Ld:=by rfl) (A:Uh (e::es) X.env=(Tx,eval e X.env)::Uh es X.env:=by rfl) (k:(backTo Y (Uh es X.env)).any (·.1)=Tx:=by rfl):
  PE X (.Call (.Attribute o name Z) (e::es) [] Y) (Ib X.K T r to t):=by
 intro d s f H Q I h;refine wpAny_Call_method_late F i j rfl (c9 (B d s f H _ I h) λv u ⟨x,L,n,l,ty,z⟩=>?_);obtain⟨E,C⟩:=II n l ty;refine⟨T,id,pa,slot,g,E,C,?_⟩;have m:=ha Y d u f L _ n z;rw[A]at m⊢;refine Calls.callWith_builtin (by show(Tx||(backTo Y (Uh es X.env)).any (·.1))=Tx;rw[k]<;>rfl) (Calls.evalArgs_plain ?_);exact c9 m λp q ⟨vs,J,G,w,y⟩=>hm d q f J x vs v p Q G l w y
end
def Qj(X:Cx)(id:String)(r:V->ck V->Hp->VK->Prop):Prop:=
 ∀(a:ck (TM×Obj)) (s:TK) (b:St) (H:Hp) (x:V) (xs:ck V) (v:Tw) (d:ck Tw) (Q:VK),Inv X a b H s->RelV x v->Vals xs d->r x xs H Q->
  wpAny (model X.prog X.w) X.A (call (.builtin id) (v::d)) (EP X a b Q) X.xe s
theorem Vals.one:∀{x:V} {a:ck Tw},Vals [x] a->∃u,a=[u]/\RelV x u
 |_,_,.cons r .nil=>⟨_,rfl,r⟩
theorem Vals.eraseIdx:∀{xs:ck V} {a:ck Tw} (i:Nat),Vals xs a->Vals (xs.eraseIdx i) (a.eraseIdx i)
 |_,_,_,.nil=>.nil
 |_,_,0,.cons _ t=>t
 |_,_,i+1,.cons r t=>.cons r (Vals.eraseIdx i t)
theorem Vals.rep(h:Vals xs us):∀k:Nat,Vals (T1 k xs).flatten (T1 k us).flatten
 |0=>.nil
 |k+1=>by rw[UU,UU,Ws,Ws];exact Vals.append h (Vals.rep h k)
theorem rD:∀(l:ck α) (i:Nat),(l.eraseIdx i).length<=l.length
 |[],_=>TQ _
 |_::_,0=>Xl _
 |_::r,i+1=>Nat.succ_le_succ (rD r i)
theorem na(a:ck Tw):∀(k:Nat) (acc:ck Tw),
  Yj (λx1 x2=>x1++x2) acc.toArray (T1 k a.toArray)=(acc++(T1 k a).flatten).toArray
 |0,acc=>by simp
 |k+1,acc=>by
  have e:acc.toArray++a.toArray=(acc++a).toArray:=by simp
  have b:(acc++a)++(T1 k a).flatten=acc++(T1 (k+1) a).flatten:=by rw[UU,Ws,VI]
  rw[<-b,<-na a k (acc++a),<-e,UU,WO]
section
variable{X:Cx}{Z:ck (TM×Obj)}{Y:St}{H:Hp}{s:TK}{l b:TM}{xs U zs:ck V}
theorem Inv.aeY{a its':ck Tw}(I:Inv X Z Y H s)(k:H l=ax (.lst xs))
  (e:s.heap.get? l=ax {cls:=.type "list",data:=.seq a.toArray n}) (i:f a.toArray=its'.toArray) (g:Vals U its') (d:U.length<=T8):
  Inv X Z Y (bz H l (.lst U)) {s with heap:=s.heap.update l (Obj.mapSeq f),toks:=t'}:=by
 have q:=amE e f;rw[i]at q;refine I.write (by rw[k];exact trivial) (.inl rfl) (λm u j h=>(dt s.heap (Obj.mapSeq f) (en j)).trans h) ⟨_,q⟩ ?_;exact⟨d,its',_,g,q⟩
theorem Inv.ae8(I:Inv X Z Y H s)(d:Vals U UD)(a:U.length<=T8):
  Inv X Z Y (bz H s.heap.objs.size (.lst U)) {s with heap:=s.heap.push {cls:=.type "list",data:=.seq UD.toArray},toks:=t'}:=
 I.laid (λ_ _ q=>cM _ q) (TQ _) ⟨a,UD,0,d,c6 _ rfl⟩
theorem Inv.fresh(I:Inv X Z Y H s):H s.heap.objs.size=CL:=I.Vp.fresh (TQ _)
theorem Inv.ad2(I:Inv X Z Y H s)(d:H l=ax (.lst xs)):xs.length<=T8/\∃(a:ck Tw) (n:Nat),Vals xs a/\xs.length=a.length/\s.heap.get? l=ax {cls:=.type "list",data:=.seq a.toArray n}:=by obtain⟨z,a,n,r,e⟩:=I.Vp l _ d;exact⟨z,a,n,r,r.length,e⟩
theorem C4(h:n<=T8):Um.List.listTooLong n=Tx:=by unfold Um.List.listTooLong;exact a5 (by ext)
end
section
variable{X:Cx}
def yQ:V->ck V->Hp->VK->Prop:=λx vs H Q=>∃l xs y,x=.ref l/\vs=[y]/\H l=ax (.lst xs)/\xs.length<T8/\Q .VX (bz H l (.lst (xs++[y])))
theorem rJ:Qj X "list.append" yQ:=by intro a s i H x vs v j Q I d rv h;obtain⟨l,xs,y,rfl,rfl,b,k,q⟩:=h;cases d;obtain⟨u,rfl,f⟩:=rv.one;obtain⟨z,g,n,r,m,e⟩:=I.ad2 b;refine VU F.slot_list_append ⟨_,e,rfl⟩ F.entry_list_append (F.args_list_append_2 _ _) (PySem.list_append l g.toArray n u (by rw[T3];ext)) ⟨e,?_⟩;refine⟨.VX,_,I.aeY b e (by simp) (r.append (.cons f .nil)) ?_,rfl,q⟩;rw[T4,US];ext
def DC:V->ck V->Hp->VK->Prop:=λx vs H Q=>∃l xs i k y,x=.ref l/\vs=[.int i]/\H l=ax (.lst xs)/\ -(2^63)<=i/\i<2^63/\seqIndex? i xs.length=ax k/\xs[k]?=ax y/\Q y (bz H l (.lst (xs.eraseIdx k)))
theorem BX:Qj X "list.pop" DC:=by
 intro d s E H x vs v G Q I g rv h;obtain⟨l,xs,i,k,y,rfl,rfl,f,C,B,A,m,q⟩:=h;cases g;obtain⟨u,rfl,j⟩:=rv.one;obtain⟨t,rfl⟩:=j;obtain⟨z,b,n,r,p,e⟩:=I.ad2 f;obtain⟨w,o,a⟩:=r.get m;refine VU F.slot_list_pop ⟨_,e,rfl⟩ F.entry_list_pop (F.args_list_pop_2 _ _)
  (MeetsSeq.list_pop_at l b.toArray n i t k w (abt C B) (by rw[T3,<-p];exact A) (by rw[<-Yl];exact o) (by rw[T3];ext)) ⟨e,?_⟩
 refine⟨y,_,I.aeY f e ?_ (r.eraseIdx k) ?_,a,q⟩
 .show b.toArray.eraseIdxIfInBounds k=(b.eraseIdx k).toArray;rw[List.eraseIdxIfInBounds_toArray]
 .have:=rD xs k;ext
theorem xP(xs:ck α)(k:Nat):(T1 k xs).flatten.length=k*xs.length:=by
 induction k with
 |zero=>simp
 |succ k a=>rw[UU,Ws,T4,a,abu,Zr]
end
section
variable{prog:Ug}{w:Ux}{A:Ut}{E:Tw->TK->Prop}{s:TK}
set_option maxRecDepth 100000 in
end
end L2
namespace Att
open PySem PySem.W PySem.Calls PyProof.Rows
theorem oq:∀(ns:ck Int) (vs:ck Tw),WellAll P h vs (ns.map WData.int)->IntsAre vs ns:=by
 intro ns
 induction ns with
 |nil=>intro vs w;rw[Vs]at w;cases w;exact .nil
 |cons n ns d=>
  intro vs w;rw[Ub]at w;cases w with
  |cons a b=>cases a;exact .cons _ _ (d _ b)
theorem AH{l:OpenLaw}(hn:l.most=ax n)
  (e:l.row.toRowW.claim.pre args=Ld) (i:WellAll P h vals args):
  ∃a vs ns,vals=[Tw.ref a]/\args=[WData.list (ns.map WData.int)]/\h.get? a=ax {cls:=.type "list",data:=.seq vs.toArray}/\IntsAre vs ns/\ns.length<=n:=by
 have j:=(pre_splitW e).1;have m:l.pre.holds [] {args:=args}=Ld:=(pre_splitW e).2;obtain⟨d,r,rfl,y,w⟩:=hasAllW_cons j;obtain rfl:=hasAllW_nil w;obtain⟨xs,rfl,v⟩:=hasW_list y;obtain⟨ns,rfl⟩:=items_int v;have b:ns.length<=n:=by
  unfold OpenLaw.pre at m;have g:(WTm.not (.lt (.lit (.int (n:Int))) (.len (.arg 0)))).holds [] {args:=[.list (ns.map .int)]}=Ld:=by have g:=(holds_andW m).1;rw[hn]at g;exact g
  have f:=condW_of g (w_not (w_lt w_lit (w_len_list (w_arg rfl))));rw[Tv]at f;refine ZI λq=>?_;have t:(n:Int)<((ns.length:Nat):Int):=by ext
  first
   |(rw[a4 t]at f;exact a7 f (by decide))
   |(simp at f;ext)
 cases i with
 |cons p o=>
  cases o;cases p with
  |list u k=>exact⟨_,_,ns,rfl,rfl,u,oq ns _ k,b⟩
theorem AA(l:OpenLaw)(args:ck WData):l.row.toRowW.claim.post args (.bool Ld) args=Ld:=
 postW_of
  (show WShape.has [] (.bool Ld) .bool=Ld by first|rfl|decide|simp[WShape.has,WShape.arms,WShape.armsAll])
  (show(WTm.eq .res (.lit (.bool Ld))).value [] {args:=args,res:=ax (.bool Ld),after:=args}=ax (.bool (Ld==Ld))from w_eq_bool (w_res rfl) w_lit) rfl
theorem attach_call{l:OpenLaw}{n:Nat}{q:Ug}{e:ck Str}{E:(Str->cv Tw)->Heap->Prop}{C:Ux->Heap->Prop}{d:DefRec}
  (hn:l.most=ax n) (t:d.params.defaults=[])
  (call:∀(w:Ux) (s₀ b:TK) (mg k:Str->cv Tw) (fa:TM) (o:Obj) (j cd h:Tw) (a:TM) (vs:ck Tw) (ns:ck Int),
   Ground q e [] E w s₀ mg k b.heap->C w b.heap->
   b.heap.get? fa=ax o->o.data=.func (docDef d.name d.params d.body d.scope j cd h)->b.heap.CodeRec cd d.name->mg d.name=ax (.ref fa)->
   b.heap.get? a=ax {cls:=.type "list",data:=.seq vs.toArray}->IntsAre vs ns->ns.length<=n->b.gens= #[]->
   codeAny (model l.prog w) callerA (.call (.ref fa) ⟨[.ref a],[]⟩) (λr s'=>r=.ok (.ret (.bool Ld))/\OldK b.heap s'.heap/\s'.os=b.os/\AllBare s'.gens) b):
  WalkO q e E C l.row.toRowW d [] (λf vs=>af5 f vs):=by
 intro w s₀ b mg k G Y fa o j cd h P kV I L u A p K B z R y Q F m J;obtain rfl:P=.none:=Dflts.none A t;obtain rfl:kV=.none:=Dflts.noKw A;obtain⟨a,vs,ns,rfl,rfl,v,g,i⟩:=AH hn y m;refine enter_call (WN (call w s₀ b mg k fa o j cd h a vs ns G Y I (fd_plain L) u p v g i K) λr s' H=>?_);obtain⟨rfl,O,N,M⟩:=H;exact⟨.inl ⟨.bool Ld,.bool Ld,[],rfl,λ_=>rfl,.bool Ld,AA l _,λ_=>⟨Xi,λ_ hm=>(nomatch hm)⟩⟩,O,N,M⟩
end Att
namespace L2
open PySem PySem.Spec PyProof.Rows
theorem kO:∀{vs:ck Tw} {ns:ck Int},IntsAre vs ns->Vals (ns.map V.int) vs
 |_,_,.nil=>.nil
 |_,_,.cons n t h=>.cons ⟨t,rfl⟩ (kO h)
def OH(H:Hp):Prop:=∀b,H b=CL\/∃o xs,H b=ax (.frz o (.lst xs))
theorem BV{P:Ug}{w:Ux}{K:cL}{mg E:Str->cv Tw}{Z:uq}{k:Nat}{fa a:TM}{U:U3}{x:Str}{sp:Sp}{f:TK}{vs:ck Tw}{ns:ck Int}
  (Y:K.In f.heap) (p:f.heap.Ns T5 mg) (g:f.heap.Ns builtinsNs E) (I:∀x:Str,x≠ "__name__"->E x=UK x) (O:f.heap.NoLimit) (hg:f.gens= #[])
  (ha:f.heap.get? a=ax {cls:=.type "list",data:=.seq vs.toArray}) (hi:IntsAre vs ns) (R:ns.length<=T8) (hr:Wj k callerA)
  (F:∀base:Heap,K.In base->base.Ns T5 mg->FnOk P w K mg base Z k fa U [x] sp) (Q:∀(s:TK) (u:Tw),Zp s U ⟨[u],[]⟩ [(x,u)])
  (G:∀H:Hp,OH H->XG K H a (ns.map V.int)->sp [.ref a] H (λv _=>v=.bl Ld) λ_ _ _=>False)
  (J:∀H e s',Z [] H f (λ_ _ _=>False) e s'->False):
  codeAny (model P w) callerA (.call (.ref fa) ⟨[.ref a],[]⟩) (λr s'=>r=.ok (.ret (.bool Ld))/\OldK f.heap s'.heap/\s'.os=f.os/\AllBare s'.gens) f:=by
 have rv:=kO hi;have N:=hi.length
 have j:∀H:Hp,OH H->XG K H a (ns.map V.int)->Zn P w H f.heap->(∀b,H b≠CL->b=a)->(H a≠CL->K.lookup a=CL)->
   codeAny (model P w) callerA (.call (.ref fa) ⟨[.ref a],[]⟩) (λr s'=>r=.ok (.ret (.bool Ld))/\OldK f.heap s'.heap/\s'.os=f.os/\AllBare s'.gens) f:=by
  intro H S hS Vp T hK;have kW:∀{b:TM} {o:Obj},f.heap.get? b=ax o->H b=CL->(tI f.heap H).get? b=ax o:=λe n=>B3 e n;have C:∀{b:TM} {o:Obj} {y:Array Xr} {A:Nat},f.heap.get? b=ax o->o.data=.dict y A->H b=CL:=λ{b o y A} e d=>by
   cases q:H b with
   |none=>rfl
   |some u=>have L:b=a:=T b (by rw[q];simp);subst L;rw[ha]at e;cases e;have d':Z2.seq vs.toArray _=Z2.dict y A:=d;cases d'
  have i:∀{b:TM} {m:Str->cv Tw},f.heap.Ns b m->(tI f.heap H).Ns b m:=λ{b m} ⟨o,y,A,e,d,r⟩=>⟨o,y,A,kW e (C e d),d,r⟩;have t:K.In (tI f.heap H):=λb o e=>kW (Y b o e) (by
   cases q:H b with
   |none=>rfl
   |some u=>have L:b=a:=T b (by rw[q];simp);subst L;rw[hK (by rw[q];simp)]at e;cases e)
  have hM:Mod K mg (tI f.heap H):=⟨t,i p,⟨E,i g,I⟩,let⟨mc,h1,h2⟩:=O;⟨mc,i h1,h2⟩⟩;have e0:Env0 P w K mg (tI f.heap H) callerA [] f H:=⟨rfl,hM,λb o e=>Gq e,Nat.le_of_eq (zh _ _),trivial,λb g=>a7 (show b∈([]:ck TM)from g) (by simp),Vp,.of_eq hg⟩;refine WN ((F _ t (i p)).run callerA [] f H ⟨[.ref a],[]⟩ [.ref a] [.ref a] _ _ hr e0 (Q f (.ref a)) (.cons rfl .nil) (G H S hS)) λr s' h=>?_;cases r with
  |error e=>exact(J H e s' h).elim
  |ok fl=>
   cases fl with
   |next=>exact False.elim h
   |brk=>exact False.elim h
   |cont=>exact False.elim h
   |ret u=>
    obtain⟨v,H',os,B,un,M,r',q⟩:=h;have q':v=.bl Ld:=q;subst q';obtain rfl:u=Tw.bool Ld:=r';refine⟨rfl,OldK.of_keep λb o e=>?_,os,B⟩;cases q:H b with
    |none=>exact un.keep b o e q (by intro z;exact a7 (show b∈([]:ck TM)from z) (by simp)) (by simp)
    |some u=>
     rcases S b with z|⟨ob,xs,z⟩
     .rw[q]at z;cases z
     .have z2:=un.Zd b ob _ z;obtain⟨X,_⟩:=Vp b _ z;obtain⟨e2,_⟩:=M b _ z2;rw[e]at X;cases X;exact e2
 cases hk:K.lookup a with
 |some o=>have e:=Y a o hk;rw[ha]at e;cases e;refine j (λ_=>CL) (λ_=>.inl rfl) (.inr ⟨_,vs.toArray,_,hk,rfl,rfl,rfl,by rw[T3,N];exact R,by simpa using rv⟩) (λb u z=>by have l:(CL:cv HO)=ax u:=z;cases l) (λb z=>a7 rfl z) λz=>a7 rfl z
 |none=>
  refine j (λb=>if b=a then ax (.frz {cls:=.type "list",data:=.seq vs.toArray} (.lst (ns.map V.int)))else CL) (λb=>?_) (.inl (.inr ⟨{cls:=.type "list",data:=.seq vs.toArray},ak rfl⟩)) (λb u z=>?_) (λb z=>?_) λ_=>hk
  .by_cases g:b=a
   .exact .inr ⟨_,_,ak g⟩
   .exact .inl (ar g)
  .by_cases g:b=a
   .have l:=(ak g).symm.trans z;cases l;subst g;exact⟨ha,by rw[Tv];exact R,vs,_,rv,ha⟩
   .have l:=(ar g).symm.trans z;cases l
  .by_cases g:b=a
   .exact g
   .exact a7 (ar g) z
def ig(s:Wo)(j:Nat):Wo:=match s with
 |.ClassDef _ _ _ body _ _ _ _ _ _ _=>body.getD j (.Pass ⟨0,0,0,0⟩)
 |_=>.Pass ⟨0,0,0,0⟩
def kR(s:Wo):Arguments:=match s with
 |.FunctionDef _ a _ _ _ _ _ _ _ _=>a
 |_=>{posonlyargs:=[],args:=[],vararg:=CL,kwonlyargs:=[],kw_defaults:=[],kwarg:=CL,defaults:=[]}
def dr(s:Wo):ck Wo:=match s with
 |.FunctionDef _ _ b _ _ _ _ _ _ _=>b
 |_=>[]
def az(s:Wo):V5:=match s with
 |.FunctionDef _ _ _ _ _ _ sc _ _ _=>sc
 |_=>{kind:=.function,names:=[],isGenerator:=Tx,isCoroutine:=Tx}
abbrev kS:uq:=λ_ _ _ _ _ _=>False
abbrev E0:XK:=λ_ _ _=>False
theorem Pl:jH kS X E0:=λ_ _ _ _ _ _ _ h=>h.elim
structure ZE(K:cL)(x qual:Str)(st:Wo)(f:TM)(fd:U3):Prop where
 ex:∃(oc:Tw) (od:cv TM) (kV doc pm:Tw) (an:cv TM) (Wc ct:Tw) (osl:Array (cv Tw)),
  fd=Wy x qual (kR st) (dr st) (az st) .none kV doc pm an Wc ct/\K.lookup f=ax ⟨oc,od,.func fd,osl⟩/\Yk K Wc qual=Ld
 kp:VT K (.ref f)=Ld
section
variable{P:Ug}{w:Ux}{K:cL}{mg:Str->cv Tw}{base:Heap}
theorem ZE.ok{x a:Str}{st:Wo}{f:TM}{i:U3}{N ps:ck Str}{k:Nat}{sp:Sp}(F:ZE K x a st f i)(S:V1 N ps (az st))(d:∀vs H Q E,sp vs H Q E->vs.length=ps.length)
  (o:∀(b:Tw) (A:Ut) (outer:ck Env) (s:TK) (H:Hp) (vs:ck V) (Q:VK) (E:XK),Wj k (A.deeper (envOfC a (az st) s.heap.objs.size f b))->sp vs H Q E->
   ∃t,PSs (gx kS P w K mg base N a (az st) f b A outer s H E).nox (dr st) t/\t {nx:=λ_ H'=>Q .VX H',rt:=Q} (start N vs) H):FnOk P w K mg base kS (k+1) f i ps sp:=by
 obtain⟨u,r,kV,n,p,v,b,ct,j,rfl,l,g⟩:=F.ex;refine HE l g S d λA outer s H vs Q E m e=>?_;obtain⟨t,h,q⟩:=o b A outer s H vs Q E m e;exact⟨t,h.nox,q⟩
theorem ZE.binds{x a:Str}{st:Wo}{f:TM}{j:U3}{ps:ck Str}(F:ZE K x a st f j)
  (h:∀(kV b e:Tw) (g:cv TM) (i ct:Tw) (d:ck Tw),d.length=ps.length->bindArgs (Wy x a (kR st) (dr st) (az st) .none kV b e g i ct) ⟨d,[]⟩=pure (ps.zip d)):Binds K j ps []:=by
 obtain⟨n,m,kV,b,e,g,i,ct,k,rfl,o,l⟩:=F.ex;exact .all (h kV b e g i ct)
theorem Ef{st:Wo}{kV a d b ct:Tw}(l:K.lookup f=ax ⟨oc,od,.func (Wy x qual (kR st) (dr st) (az st) .none kV a d an b ct),osl⟩)
  (c:Yk K b qual=Ld) (k:VT K (.ref f)=Ld):ZE K x qual st f (Wy x qual (kR st) (dr st) (az st) .none kV a d an b ct):=⟨⟨oc,od,kV,a,d,an,b,ct,osl,rfl,l,c⟩,k⟩
end
section
variable{X:Cx}
theorem pv(i:Nat)(d:X.N[i]?=ax x:=by rfl)(b:PX X.env.scope x:=by first|exact a8 rfl|exact Or.inr (a8 rfl)|exact Or.inr (Or.inr rfl))(hd:(x==("__debug__":Str))=Tx:=by decide)
  (a:(x==("__classdict__":Str))=Tx:=by decide):PE X (.Name x pos) (lB i):=DR d b hd a
end
def Vl(H H':Hp):Prop:=∀b o,H b=ax o->H' b=ax o
theorem Vl.refl(H:Hp):Vl H H:=λ_ _ h=>h
theorem Vl.trans(a:Vl H H1)(b:Vl H1 H2):Vl H H2:=λc o h=>b c o (a c o h)
theorem Vl.free(e:Vl H H')(h:H' l=CL):H l=CL:=by
 cases q:H l with
 |none=>rfl
 |some o=>rw[e l o q]at h;cases h
end L2
set_option maxHeartbeats 4000000
namespace L2
open PySem PySem.Spec PyProof.Rows
section
variable{X:Cx}{Z:ck (TM×Obj)}{σ:St}{H:Hp}{s:TK}{h':Heap}
theorem Inv.X7{ch:ck TM}(I:Inv X Z σ H s)(h:∀b∈ch,kY X Z H b)
  (k:∀b u,b∉ch->s.heap.get? b=ax u->h'.get? b=ax u) (j:s.heap.objs.size<=p)
  (new:V9 X.prog X.w (bz H p o) h' p o):Inv X Z σ (bz H p o) {s with heap:=h',toks:=t'}:=by
 have hn:=I.Vp.fresh j;have d:∀b u,H b=ax u->b∉ch:=λb u e z=>by rw[(h b z).1]at e;cases e
 have g:∀b u,s.heap.get? b=ax u->b≠p:=λb u e=>Ui (Uc (c5 e) j);refine I.step (λb f=>?_) (λb u _ _ a e _=>k b u a e) (λb u _ _ a e _=>⟨u.slots,k b u a e⟩)
  (λb u _ e n=>by rw[am (g b u e)];exact n) (λb u a e=>⟨u,k b u a e⟩) (λb xs e=>by rw[am (bW e hn)];exact e)
  (λb u xs e=>by rw[am (bW e hn)];exact e) (λb ps e=>⟨#[],by rw[am (bW e hn),e];simp⟩) (λm hm=>?_) (λb u e=>?_) I.bare
 .obtain⟨_,B,_,A,y,t⟩:=h b f;exact⟨A,B,y,t⟩
 .obtain⟨i,C,E,l,r⟩:=hm;exact⟨i,C,E,k _ i (λz=>(h _ z).2.1 rfl) l,r⟩
 .by_cases f:b=p
  .subst f;rw[aF]at e;cases e;exact new
  .rw[am f]at e
   refine(I.Vp b u e).Ya (λc v a q=>k c v ?_ q) (λc q=>by rw[am (bW q hn)];exact q) λc xs q=>by rw[am (bW q hn)];exact q
   rcases a with z|z
   .rw[z];exact d b u e
   .exact d c _ z
end
def Qs(K:cL)(a:TM):It:=
 ⟨λi H=>∃xs x,XG K H a xs/\xs[i]?=ax x,
  λi H v b=>∃p x,H p=CL/\v=.ref p/\(∀xs,XG K H a xs->xs[i]?=ax x)/\b=bz H p (.tup [.int i,x]),
  λi H=>∃xs,XG K H a xs/\xs.length<=i⟩
theorem Ay{K:cL}{kk}(a e it:TM)(Y:e≠it):
  Turn P w K (.Tuple elts kk tp) (Qs K a) [e,it] e (λi h=>(∃old,abv h e it i old)/\h.IsListIter it a i) where
 mem:=by simp
 obj:=λi h l b g=>by
  obtain⟨⟨old,j⟩,o,C,_,d⟩:=l;rcases TL.mp g with z|g
  .subst z;exact⟨_,j,λv z=>by cases(show Z2.fields _=Z2.cell v from z)⟩
  .have z:b=it:=by simpa using g
   subst z;exact⟨o,C,λv z=>by rw[d]at z;cases z⟩
 keep:=λi h h' l k=>by obtain⟨⟨old,j⟩,f⟩:=l;exact⟨⟨old,k e (by simp) _ j⟩,f.at λo q=>k it (by simp) o q⟩
 item:=by
  intro X N B O S i m s R H E I y l G;subst N B O;obtain⟨⟨old,j⟩,f⟩:=l;obtain⟨xs,x,t,A⟩:=G;obtain⟨UD,rv,p,hz⟩:=I.list t;obtain⟨u,hu,Z⟩:=rv.get A;refine wpAny_pyNext_enum_item j f p.isList (by simpa using hu) Y λh1 C Q hT hsz hk=>⟨_,rfl,?_⟩;refine X6 C λU J n=>?_;have r:=c5 j;have F:it<s.heap.objs.size:=by obtain⟨_,z,_⟩:=f;exact c5 z
  have hn:=I.Vp.fresh (TQ _);have kk:∀b o,b∉[e,it]->s.heap.get? b=ax o->U.get? b=ax o:=λb o g q=>by have T:b≠e:=λz=>g (by simp[z]);have h4:b≠it:=λz=>g (by simp[z]);exact(n.2 b T).trans (hk b o T h4 q)
  have M:=(n.2 _ (Vb r)).trans hT
  have I2:Inv X m R (bz H s.heap.objs.size (.tup [.int i,x])) {s with heap:=U,toks:=s.toks+1}:=
   I.X7 y kk (TQ _) ⟨by show 2<=T8;decide,[.int i s.toks,u],.cons ⟨_,rfl⟩ (.cons Z .nil),⟨_,M,⟨rfl,_,rfl⟩,rfl⟩⟩
  refine⟨.ref s.heap.objs.size,_,I2,rfl,⟨_,x,hn,rfl,λys hy=>by rw[I.abj hy t];exact A,rfl⟩,⟨⟨u,J⟩,Q.at λo q=>(n.2 it Y.symm).trans q⟩,λb g=>?_⟩;have L:b≠s.heap.objs.size:=by
   rcases TL.mp g with z|g
   .rw[z];exact Ui r
   .rw[show b=it by simpa using g];exact Ui F
  rw[am L];exact(y b g).1
 done:=by intro X N B O S i m s R H E I y l G;subst N B O;obtain⟨⟨old,j⟩,f⟩:=l;obtain⟨xs,t,A⟩:=G;obtain⟨UD,rv,p,hz⟩:=I.list t;obtain⟨f0,f1,f2,f3,f4,f5⟩:=y it (by simp);have hl:=rv.length;exact wpAny_pyNext_enum_end (I.ok.hd S) j f p.isList (by simp;ext) λh1 eb=>⟨rfl,I.turned (λb o g q=>eb b o g q) f0 f1 f3 f4 f5⟩
 self:=λ_ _ _ _ _ l h=>by obtain⟨⟨old,j⟩,_⟩:=l;exact WB j h
mutual
inductive DV(K:cL)(H:Hp):V->lD->Prop
 |VX:DV K H .VX .none
 |bl (b:Bool):DV K H (.bl b) (.bool b)
 |int (i:Int):DV K H (.int i) (.int i)
 |str (x:Str):DV K H (.str x) (.str x)
 |tup {a:TM} {xs:ck V} {ds:ck lD}:XA K H a xs->VH K H xs ds->DV K H (.ref a) (.tuple ds)
 |lst {a:TM} {xs:ck V} {ds:ck lD}:XG K H a xs->VH K H xs ds->DV K H (.ref a) (.list ds)
inductive VH(K:cL)(H:Hp):ck V->ck lD->Prop
 |nil:VH K H [] []
 |cons {v:V} {vs:ck V} {d:lD} {ds:ck lD}:DV K H v d->VH K H vs ds->VH K H (v::vs) (d::ds)
end
section
variable{X:Cx}{Z:ck (TM×Obj)}{σ:St}{H:Hp}{s:TK}
mutual
theorem DV.reads(I:Inv X Z σ H s):∀{v:V} {d:lD} {u:Tw},DV X.K H v d->RelV v u->∃as,abw s.heap u d as
 |_,_,_,.VX,r=>by cases r;exact⟨_,.none⟩
 |_,_,_,.bl b,r=>by cases r;exact⟨_,.bool b⟩
 |_,_,_,.int i,r=>by obtain⟨t,rfl⟩:=r;exact⟨_,.int i t⟩
 |_,_,_,.str x,r=>by obtain⟨t,rfl⟩:=r;exact⟨_,.str x t⟩
 |_,_,_,.tup h hs,r=>by cases r;obtain⟨a,rv,⟨o,e,c,n,d⟩,_⟩:=I.tuple h;obtain⟨as,q⟩:=VH.reads I hs rv;exact⟨_,.tuple e c d (by simpa using q)⟩
 |_,_,_,.lst h hs,r=>by cases r;obtain⟨a,rv,⟨o,n,e,c,_,d⟩,_⟩:=I.list h;obtain⟨as,q⟩:=VH.reads I hs rv;exact⟨_,.list e c d (by simpa using q)⟩
theorem VH.reads(I:Inv X Z σ H s):∀{vs:ck V} {ds:ck lD} {a:ck Tw},VH X.K H vs ds->Vals vs a->∃as,Y7 s.heap a ds as
 |_,_,_,.nil,r=>by cases r;exact⟨_,.nil⟩
 |_,_,_,.cons h hs,r=>by
  cases r with
  |cons d b=>obtain⟨as,q⟩:=DV.reads I h d;obtain⟨bs,e⟩:=VH.reads I hs b;exact⟨_,.cons q e⟩
end
end
def GZ(K:cL)(a:Bool):R2:=λx y H Q=>∃dx dy,DV K H x dx/\DV K H y dy/\dx.canLay0=Ld/\dy.canLay0=Ld/\dx.depth<=64/\Q (.bl (if a then !lD.eqv dx dy else lD.eqv dx dy)) H
section
variable{X:Cx}
theorem LQ(m:X.A.units+64<cLine):OpR X (U8 .Eq) (GZ X.K Tx):=by intro a s l H x y v u Q I d b h;obtain⟨dx,o,k,j,i,g,n,q⟩:=h;obtain⟨p,f⟩:=k.reads I d;obtain⟨bs,e⟩:=j.reads I b;exact aiR f e i g (by ext) ⟨.bl _,H,I,rfl,q⟩
theorem LB(m:X.A.units+64<cLine):OpR X (U8 .NotEq) (GZ X.K Ld):=by intro a s l H x y v u Q I d b h;obtain⟨dx,o,k,j,i,g,n,q⟩:=h;obtain⟨p,f⟩:=k.reads I d;obtain⟨bs,e⟩:=j.reads I b;exact aiS f e i g (by ext) ⟨.bl _,H,I,rfl,q⟩
theorem DN:OpR X (V2 .FloorDiv) (rI (λ_ j=>0<j/\j.natAbs.log2<9000) λi j=>.int (i/j)):=PR λi j _ _ _ _ _ a q=>by have b:(0:Int)<j:=a.1;exact floordiv_int (by ext) (by rw[Int.fdiv_eq_ediv_of_nonneg i (by ext)];exact q) (.inl (PyProof.noPylong_of_log2 a.2))
end
def ic(env:Env):ck (Str×Ua)->ck (Str×TM)->ck (Str×TM)
 |[],acc=>acc
 |(n,k)::r,acc=>if(k==Ua.free)=Ld then(match env.cells.lookup n with|some c=>ic env r ((n,c)::acc)|none=>ic env r acc)else ic env r acc
theorem lP{f:Str×Ua->ck (Str×TM)->Sem (ForInStep (ck (Str×TM)))}
  (d:∀n k acc,(k==Ua.free)=Tx->f (n,k) acc=pure (.yield acc)) (b:∀n c acc,env.cells.lookup n=ax c->f (n,.free) acc=pure (.yield ((n,c)::acc))):
  ∀(names:ck (Str×Ua)) (acc:ck (Str×TM)),(∀y∈names,y.2=.free->∃c,env.cells.lookup y.1=ax c)->forIn names acc f=pure (ic env names acc)
 |[],acc,_=>rfl
 |(n,k)::r,acc,h=>by
  have g:=λy j=>h y (TH _ j);rw[Ym];cases hk:(k==Ua.free)with
  |false=>rw[d n k acc hk,pure_bind];show forIn r acc f=_;rw[lP d b r acc g];simp only[ic,hk,WT,if_false]
  |true=>
   have e:k=.free:=by simpa using hk
   subst e;obtain⟨c,i⟩:=h _ TC rfl;rw[b n c acc i,pure_bind];show forIn r ((n,c)::acc) f=_;rw[lP d b r _ g];have a:=i;simp only[ic,hk,if_true,a]
theorem qj(h:∀y∈scope.names,y.2=.free->∃c,env.cells.lookup y.1=ax c):closureFor scope env=pure (ic env scope.names []):=by simp only[closureFor];rw[lP (λn k a b=>by simp only[b,WT,if_false]) (λn c a d=>by simp only[ez,if_true,cellOf,d,pure_bind]) scope.names [] h,pure_bind]
theorem kr:∀(names:ck (Str×Ua)) (acc:ck (Str×TM)),(∀x c,acc.lookup x=ax c->env.cells.lookup x=ax c)->∀x c,(ic env names acc).lookup x=ax c->env.cells.lookup x=ax c
 |[],_,h,x,c,e=>h x c e
 |(n,k)::r,acc,h,x,c,e=>by
  unfold ic at e;split at e
  .split at e
   .rename_i f a
    refine kr r _ (λy d q=>?_) x c e;rw[UN]at q;split at q
    .rename_i b;cases q;rw[eq_of_beq b];exact a
    .exact h y d q
   .exact kr r acc h x c e
  .exact kr r acc h x c e
theorem kF:∀(names:ck (Str×Ua)) (acc:ck (Str×TM)) (x:Str),(acc.lookup x).isSome=Ld->((ic env names acc).lookup x).isSome=Ld
 |[],_,_,h=>h
 |(n,k)::r,acc,x,h=>by
  unfold ic;split
  .split
   .refine kF r _ x ?_
    rw[UN];split
    .rfl
    .exact h
   .exact kF r acc x h
  .exact kF r acc x h
theorem mH:∀(names:ck (Str×Ua)) (acc:ck (Str×TM)) (x:Str) (c:TM),(x,Ua.free)∈names->env.cells.lookup x=ax c->((ic env names acc).lookup x).isSome=Ld
 |[],_,_,_,h,_=>by cases h
 |(n,k)::r,acc,x,c,h,hc=>by
  rcases TL.mp h with z|h
  .cases z;simp only[ic,ez,if_true,hc];exact kF r _ _ (by simp[UN])
  .unfold ic
   split
   .split
    .exact mH r _ x c h hc
    .exact mH r acc x c h hc
   .exact mH r acc x c h hc
theorem uC(h:(x,Ua.free)∈names)(a:env.cells.lookup x=ax c):(ic env names []).lookup x=ax c:=by
 have q:=mH names [] x c h a;cases e:(ic env names []).lookup x with
 |none=>rw[e]at q;cases q
 |some d=>have z:=kr names [] (λy d q=>by cases q) x d e;rw[a]at z;exact z.symm
theorem uW{env:Env}{a:V5}{x:Str}{k:Ua}(h:(relabel a env).names.lookup x=ax k):∃k0,(x,k0)∈a.names/\(k=k0\/(k0=.free/\k=.cell)):=by
 obtain⟨⟨n,k0⟩,hm,e⟩:=TZ.mp (Vq h);simp only at e;split at e
 .rename_i b
  cases e;have d:(k0==Ua.free)=Ld:=by rw[Tu,Tu]at b;exact b.1.1
  exact⟨k0,hm,.inr ⟨by simpa using d,rfl⟩⟩
 .cases e;exact⟨_,hm,.inl rfl⟩
theorem jN{env:Env}:∀{names:ck (Str×Ua)} {x:Str},names.lookup x=ax .free->
  (names.map λ(n,k)=>if(k==Ua.free&&env.scope.kind==.function&&env.kindOf n==ax .cell)then(n,Ua.cell)else(n,k)).lookup x=ax .cell\/
  (names.map λ(n,k)=>if(k==Ua.free&&env.scope.kind==.function&&env.kindOf n==ax .cell)then(n,Ua.cell)else(n,k)).lookup x=ax .free
 |[],_,h=>by cases h
 |(n,k)::r,x,h=>by
  rw[UN]at h;rw[Ub];dsimp only;by_cases a:(k==Ua.free&&env.scope.kind==.function&&env.kindOf n==ax .cell)=Ld
  .rw[ak a,UN]
   cases hx:x==n with
   |true=>exact .inl rfl
   |false=>rw[hx]at h;exact jN h
  .rw[ar a,UN]
   cases hx:x==n with
   |true=>rw[hx]at h;exact .inr h
   |false=>rw[hx]at h;exact jN h
def dw(own:ck Str)(a:ck (Str×Nat)):ck Str:=own++a.map (·.1)
def nb(own:ck Str)(b:ck (Str×Nat))(a:St):St:=own.map (λ_=>CL)++b.map λp=>(a[p.2]?).join
def aaH(X:Cx)(a:V5):ck (Str×Nat)->Prop
 |[]=>True
 |p::r=>(X.N[p.2]?=ax p.1/\a.names.lookup p.1=ax .free/\(X.env.scope.names.lookup p.1=ax .cell\/X.env.scope.names.lookup p.1=ax .free))/\aaH X a r
theorem aaH.mem:∀{a:ck (Str×Nat)},aaH X scope a->∀p∈a,X.N[p.2]?=ax p.1/\scope.names.lookup p.1=ax .free/\(X.env.scope.names.lookup p.1=ax .cell\/X.env.scope.names.lookup p.1=ax .free)
 |[],_,p,hp=>by cases hp
 |q::r,h,p,hp=>by
  rcases TL.mp hp with z|hp
  .rw[z];exact h.1
  .exact h.2.mem p hp
def tS(X:Cx)(a:V5)(C:TM):ck (Str×TM):=V0 (C+1) a.names (ic X.env a.names [])
theorem qI:∀(names:ck (Str×Ua)) (n:Nat) (acc:ck (Str×TM)) (x:Str) (c:TM),(V0 n names acc).lookup x=ax c->(n<=c/\(x,Ua.cell)∈names)\/acc.lookup x=ax c
 |[],_,_,_,_,h=>.inr h
 |(y,k)::r,n,acc,x,c,h=>by
  unfold V0 at h;by_cases b:(k==Ua.cell)=Ld
  .rw[ak b]at h
   have e:k=.cell:=by simpa using b
   rcases qI r _ _ x c h with⟨a,d⟩|a
   .exact .inl ⟨X2 a,TH _ d⟩
   .rw[UN]at a
    split at a
    .rename_i f;cases a;exact .inl ⟨TQ _,by rw[eq_of_beq f,e];exact TC⟩
    .exact .inr a
  .rw[ar b]at h
   rcases qI r _ _ x c h with⟨a,d⟩|a
   .exact .inl ⟨a,TH _ d⟩
   .exact .inr a
theorem A9:∀(names:ck (Str×Ua)) (n:Nat) (acc:ck (Str×TM)) (x:Str),(x,Ua.cell)∉names->(V0 n names acc).lookup x=acc.lookup x
 |[],_,_,_,_=>rfl
 |(y,k)::r,n,acc,x,h=>by
  have b:=λz=>h (TH _ z);unfold V0;by_cases a:(k==Ua.cell)=Ld
  .have e:k=.cell:=by simpa using a
   rw[ak a,A9 r _ _ x b,UN];have d:(x==y)=Tx:=by refine beq_eq_false_iff_ne.mpr λz=>h ?_;rw[z,e];exact TC
   rw[d]
  .rw[ar a];exact A9 r _ _ x b
theorem qq:∀(names:ck (Str×Ua)) (h:Heap) (acc:ck (Str×TM)) (x:Str) (c:TM),(V0 h.objs.size names acc).lookup x=ax c->(h.objs.size<=c/\(pushCells h names).IsCell c CL)\/acc.lookup x=ax c
 |[],_,_,_,_,e=>.inr e
 |(y,k)::r,h,acc,x,c,e=>by
  unfold V0 at e;unfold pushCells;by_cases b:(k==Ua.cell)=Ld
  .rw[ak b]at e⊢
   rw[<-d4 h {cls:=.type "cell",data:=.cell CL}]at e;rcases qq r _ _ x c e with⟨a,d⟩|a
   .rw[d4]at a;exact .inl ⟨X2 a,d⟩
   .rw[UN]at a
    split at a
    .cases a;exact .inl ⟨TQ _,_,aaT _ _ _ _ (c6 _ rfl),rfl⟩
    .exact .inr a
  .rw[ar b]at e⊢;exact qq r _ _ x c e
theorem wG:∀(names:ck (Str×Ua)) (n:Nat) (acc:ck (Str×TM)),(∀x c,acc.lookup x=ax c->c<n)->(∀x y c,acc.lookup x=ax c->acc.lookup y=ax c->x=y)->∀x y c,(V0 n names acc).lookup x=ax c->(V0 n names acc).lookup y=ax c->x=y
 |[],_,_,_,h2,x,y,c,e1,e2=>h2 x y c e1 e2
 |(z,k)::r,n,acc,h1,h2,x,y,c,e1,e2=>by
  unfold V0 at e1 e2;by_cases g:(k==Ua.cell)=Ld
  .rw[ak g]at e1 e2
   refine wG r (n+1) ((z,n)::acc) (λa d q=>?_) (λa b d f e=>?_) x y c e1 e2
   .rw[UN]at q
    split at q
    .cases q;exact ZJ _
    .exact Ww (h1 a d q)
   .rw[UN]at f e
    split at f
    .rename_i ha
     split at e
     .rename_i h;rw[eq_of_beq ha,eq_of_beq h]
     .cases f;exact a7 (h1 b _ e) (VD _)
    .split at e
     .cases e;exact a7 (h1 a _ f) (VD _)
     .exact h2 a b d f e
  .rw[ar g]at e1 e2;exact wG r n acc h1 h2 x y c e1 e2
theorem v8:∀{names:ck (Str×Ua)} {x:Str} {k a:Ua},(names.map (·.1)).Nodup->names.lookup x=ax k->(x,a)∈names->k=a
 |[],_,_,_,_,h,_=>by cases h
 |(y,j)::r,x,k,a,hn,h,hm=>by
  rw[Ub,Wk]at hn;rw[UN]at h;rcases TL.mp hm with e|hm'
  .cases e;rw[ez]at h;exact(Us h).symm
  .cases hx:x==y with
   |true=>rw[eq_of_beq hx]at hm';exact a7 (TZ.mpr ⟨_,hm',rfl⟩) hn.1
   |false=>rw[hx]at h;exact v8 hn.2 h hm'
def cq(X:Cx)(s:TK)(H:Hp)(a:V5)(C:TM)(N:ck Str)(fp:ck TM):Cx:=
 {X with N:=N,s₀:=s,H₀:=H,env:=compEnvC a (tS X a C) C X.env,outer:=X.stack,stack:=X.stack,ex:=fp,fn:=λx=>((ic X.env a.names []).lookup x).isNone,pn:=[],xe:=λ_ _=>False}
section
variable{X:Cx}{Z:ck (TM×Obj)}{Y:St}{H:Hp}{s:TK}
theorem rN{a:V5}(I:Inv X Z Y H s)(e:(ic X.env a.names []).lookup x=ax c):X.env.cells.lookup x=ax c/\c<s.heap.objs.size:=by have h:=kr _ _ (λ_ _ q=>by cases q) x c e;obtain⟨v,o,z,_⟩:=I.cell x c h;exact⟨h,c5 z⟩
theorem y0(I:Inv X Z Y H s)(L:scope.kind=.function)(m:(scope.names.map (·.1)).Nodup)
  (u:∀y∈scope.names,y.2=.free->∃c,X.env.cells.lookup y.1=ax c) (f:s.heap.objs.size<=C) (i:∀b∈fp,kY X Z H b) (d:∀b∈fp,b<s.heap.objs.size):(cq X s H scope C N fp).Ok where
 mod:=I.ok.mod
 kind:=L
 glob:=I.ok.glob
 blt:=I.ok.blt
 above:=f
 inj:=wG _ _ _ (λx c e=>Ww (Uc (rN I e).2 f)) λx y c A w=>I.ok.inj x y c (rN I A).1 (rN I w).1
 has:=λx F=>by
  have j:∃k,(relabel scope X.env).names.lookup x=ax k/\(k=.cell\/k=.free):=by
   rcases F with z|z
   .exact⟨_,z,.inl rfl⟩
   .exact⟨_,z,.inr rfl⟩
  obtain⟨k,J,n⟩:=j;obtain⟨B,hm,t⟩:=uW J;have e:B=.free\/B=.cell:=by
   rcases t with z|⟨z,_⟩
   .subst z
    rcases n with z|z
    .exact .inr z
    .exact .inl z
   .exact .inl z
  have q:((tS X scope C).lookup x).isSome=Ld:=by
   rcases e with e|e
   .subst e;obtain⟨c,K⟩:=u _ hm rfl;exact WU _ _ _ (.inr (by rw[uC hm K];rfl))
   .subst e
    refine WU _ _ _ (.inl ?_);cases z:scope.names.lookup x with
    |none=>exact a7 hm (λhm=>by
      have:∀{l:ck (Str×Ua)},l.lookup x=CL->(x,Ua.cell)∉l:=λ{l}=>by
       induction l with
       |nil=>exact λ_=>by simp
       |cons p r E=>
        intro h q;rw[UN]at h;rcases TL.mp q with q|q
        .rw[<-q,ez]at h;cases h
        .split at h
         .cases h
         .exact E h q
      exact this z hm)
    |some M=>rw[v8 m z hm]
  exact WJ.mp q
 cab:=λx c A w=>by
  have g:((ic X.env scope.names []).lookup x).isNone=Ld:=A;have v:=w;rcases qI _ _ _ x c v with⟨z,_⟩|z
  .exact UH f (X2 z)
  .rw[z]at g;cases g
 hd:=I.ok.hd
 frames:=I.ok.frames
 stk:=.inl rfl
 exf:=λb a=>⟨Ui (Uc (d b a) f),λx c e=>by
  rcases qI _ _ _ x c e with⟨z,_⟩|z
  .exact Vb (Uc (Uc (d b a) f) (X2 z))
  .exact(i b a).2.2.2.2.1 x c (rN I z).1⟩
 bs:=I.bs
 bsz:=UH I.ok.bsz I.sz
 aaZ:=λb o e a=>by
  rcases(i b a).2.2.2.1 with z|z
  .exact I.ok.aaZ b o e z
  .exact a7 (Uc (c5 e) (UH I.ok.bsz z)) (VD _)
 aa9:=λb a G=>by
  rcases TL.mp (I.Zi b G)with z|z
  .exact(i b a).2.1 z
  .exact(i b a).2.2.1 z
 YF:=I.stack
 frf:=I.ZD
theorem C1(I:Inv X Z Y H s)(XI:scope.kind=.function)(hnd:(scope.names.map (·.1)).Nodup)
  (hfr:∀y∈scope.names,y.2=.free->∃c,X.env.cells.lookup y.1=ax c) (hfv:aaH X scope fv) (hD:s.heap.objs.size<=D) (hDC:D<C) (hC:s.heap.objs.size<=C) (hf:∀b∈fp,kY X Z H b) (hfl:∀b∈fp,b<s.heap.objs.size)
  (hns:h1.Ns C m) (hoc:∀x c,(tS X scope C).lookup x=ax c->C<c->∃v,h1.IsCell c v) (hk:∀b o,s.heap.get? b=ax o->h1.get? b=ax o) (hd:∃n,h1.get? D=ax {cls:=.type "list",data:=.seq #[] n}):
  Inv (cq X s H scope C (dw own fv) fp) [] (nb own fv Y) (bz H D (.lst [])) {s with heap:=h1,toks:=t1}:=by
 have hn:=I.Vp.fresh hD;obtain⟨n,hd⟩:=hd;have hCD:=Vb hDC;have hcs:∀x c,(tS X scope C).lookup x=ax c->C<c\/(X.env.cells.lookup x=ax c/\c<s.heap.objs.size):=λx c e=>by
  rcases qI _ _ _ x c e with⟨z,_⟩|z
  .exact .inl z
  .exact .inr (rN I z)
 refine⟨y0 I XI hnd hfr hC hf hfl,rfl,I.bare,Un.laid hk hD hn,⟨m,hns,λi x v e1 e2 e3=>?_⟩,λx c e=>?_,?_,λx c e=>?_,λp hp=>a7 (show p∈([]:ck (TM×Obj))from hp) (by simp),?_,?_⟩
 .
  have e1':(own++fv.map (·.1))[i]?=ax x:=e1;have e2':(own.map (λ_=>(CL:cv V))++fv.map λp=>(Y[p.2]?).join)[i]?=ax (ax v):=e2;have hi:own.length<=i:=by
   by_cases hi:i<own.length
   .rw[Vc (by simpa using hi),TU]at e2'
    cases q:own[i]? with
    |none=>rw[q]at e2';cases e2'
    |some _=>rw[q]at e2';cases e2'
   .omega
  rw[Vr hi,TU]at e1';rw[Vr (by simpa using hi),TU,Tv]at e2';cases q:fv[i - own.length]? with
  |none=>rw[q]at e1';cases e1'
  |some p=>
   rw[q]at e1' e2';have ex:=Us e1';subst ex;have ev:(Y[p.2]?).join=ax v:=Us e2';obtain⟨g1,g2,g3⟩:=hfv.mem p (Uk q);have ev2:Y[p.2]?=ax (ax v):=by
    cases z:Y[p.2]? with
    |none=>rw[z]at ev;cases ev
    |some y=>rw[z]at ev;exact ey ax ev
   obtain⟨m0,_,hl⟩:=I.loc;obtain⟨u,r,l⟩:=hl p.2 p.1 v g1 ev2 (.inr g3);refine⟨u,r,?_⟩;have l2:∃c,X.env.cells.lookup p.1=ax c/\s.heap.IsCell c (ax u):=by
    rcases l with⟨k,_⟩|⟨_,c,e,z⟩
    .have k':X.env.scope.names.lookup p.1=ax .local:=k
     rcases g3 with z|z
     .rw[z]at k';cases k'
     .rw[z]at k';cases k'
    .exact⟨c,e,z⟩
   obtain⟨c,e,o,ho,hdc⟩:=l2;refine .inr ⟨?_,c,?_,o,hk c o ho,hdc⟩
   .exact jN g2
   .show(tS X scope C).lookup p.1=ax c;unfold tS;rw[A9 _ _ _ _ λz=>by cases v8 hnd g2 z];exact uC (Vq g2) e
 .rcases hcs x c e with z|⟨z,_⟩
  .exact hoc x c e z
  .obtain⟨v,o,ho,hdc⟩:=I.cell x c z;exact⟨v,o,hk c o ho,hdc⟩
 .show bz H D (.lst []) C=CL;rw[am hCD];exact I.Vp.fresh hC
 .show bz H D (.lst []) c=CL
  rcases hcs x c e with z|⟨z1,z2⟩
  .rw[am (Vb (abx hDC z))];exact I.Vp.fresh (UH hC (WZ z))
  .rw[am (Ui (Uc z2 hD))];exact I.W8 x c z1
 .exact I.Vp.laid hk hD ⟨by show 0<=T8;exact Vd _,[],n,.nil,hd⟩
 .show(own.map (λ_=>(CL:cv V))++fv.map λp=>(Y[p.2]?).join).length=(own++fv.map (·.1)).length;simp
end
def wU(X:Cx)(d:ck Ue)(t:TT):Prop:=
 ∀(a:ck (TM×Obj)) (s:TK) (b:St) (H:Hp) (Q:Bool->Hp->Prop),Inv X a b H s->t b H Q->
  wpAny (model X.prog X.w) X.A (forIn d Ld λc r=>if r=Ld then do let ok<-isTrue c X.env (eval c X.env);pure (ForInStep.yield ok)else pure (ForInStep.yield r)) (TP X a b Q) X.xe s
def Ii:TT:=λ_ H Q=>Q Ld H
theorem C9:wU X [] Ii:=λ_ _ _ H _ I h=>wpAny_tests_nil ⟨H,I,h⟩
theorem B7(h:PT X c tc):wU X [c] tc:=λa s b H Q I d=>wpAny_tests_one (h a s b H Q I d)
def Hq(J:It)(D:TM)(d:St)(g:TG)(j:TT)(h:TE)(l:Hp)(Fin:Hp->Prop):Prop:=
 ∃W:Nat->Nat->St->Hp->Prop,(∃m,W 0 m d (bz l D (.lst [])))/\∀i m σ H,W i m σ H->
  (J.stop i H/\Fin H)\/(J.go i H/\∃N:St->Hp->Prop,(∀σ' H',N σ' H'->∃m',m'<m/\W (i+1) m' σ' H')/\
   ∀x H',J.yld i H x H'->g x σ H' λa k=>j a k λb f=>if b=Ld then h a f λy e=>∃ys,e D=ax (.lst ys)/\ys.length<T8/\N a (bz e D (.lst (ys++[y])))else N a f)
section
variable{prog:Ug}{w:Ux}{A:Ut}{s:TK}
theorem Al{g l d:Ue}{f:ck Ue}{b:V5}{j:Pos}{it acc:Tw}{env:Env}{R:aeE->TK->Prop}{XE:Tw->TK->Prop}(y:∀x s1,XE x s1->notedBy (model prog w) A env (λe s2=>R (.error e) s2) x s1)(I:Nat->TK->Prop)
  (i:∀n s,I n s->wpAny (model prog w) A (pyNext it) (λr s1=>match r with
   |none=>R (.ok .next) s1
   |some v=>wpAny (model prog w) A (letOwnedTupleGo l it v) (λ_ s2=>wpAny (model prog w) A (assign l env v) (λ_ s3=>
     wpAny (model prog w) A (forIn f Ld λc r=>if r=Ld then do let ok<-isTrue c env (eval c env);pure (ForInStep.yield ok)else pure (ForInStep.yield r)) (λok s4=>
      if ok=Ld then wpAny (model prog w) A (eval g env) (λx s5=>
       wpAny (model prog w) A (call (.builtin "list.append") [acc,x]) (λ_ s6=>∃m,m<n/\I m s6) (λ_ _=>False) s5) XE s4
      else∃m,m<n/\I m s4) (λ_ _=>False) s3) (λ_ _=>False) s2) (λ_ _=>False) s1) (λ_ _=>False) s)
  (n:Nat) (h:I n s):codeAny (model prog w) A (.compLoop (.ListComp g [⟨l,d,f,0⟩] b j) 0 it acc env) R s:=by
 refine codeAny_loop rfl I (λn s B=>?_) n h;show wpAny _ A (Sem.onRaise (compTurn (.ListComp g [⟨l,d,f,0⟩] b j) 0 it acc env) (λx=>do noteFrame x env;theTreesLotGoes x)) _ _ s;refine wpAny_noted ?_;rw[compTurn_list]
 have k:∀{α:Type} {t:Sem α} {Q u:α->TK->Prop} {E:Tw->TK->Prop} {s:TK},wpAny (model prog w) A t Q (λ_ _=>False) s->(∀a s',Q a s'->u a s')->wpAny (model prog w) A t u E s:=
  λo p=>wpAny_mono o p λ_ _ z=>False.elim z
 refine OK (VY (OK (k (i n s B) λr s1 o=>?_)));cases r with
 |none=>exact TR o
 |some v=>
  refine OK (k o λ_ s2 p=>OK (k p λ_ s3 G=>OK (k G λok s4 q=>?_)));cases ok with
  |false=>exact TR ⟨rfl,q⟩
  |true=>exact OK (OK (wpAny_mono q (λx s5 F=>OK (k F λ_ s6 C=>TR (TR ⟨rfl,C⟩))) y))
end
section
variable{X:Cx}{Z:ck (TM×Obj)}{Y:St}{H:Hp}{s:TK}
theorem si
  (h:Q (newEnv scope s.heap.objs.size globals (V0 (s.heap.objs.size+1) scope.names closure) qual CL .none (ax env) builtinsNs) {s with heap:=pushCells (s.heap.push {cls:=.type "dict",data:=.dict #[]}) scope.names}):
  wpAny M A (newFunctionEnv scope globals closure [] qual CL .none (ax env)) Q E s:=by
 simp only[newFunctionEnv,Option.isSome_some,if_true];refine OK (wpAny_alloc ?_);refine OK (wpAny_layCells _ (λd a b=>by cases hkc:a==Ua.cell<;>simp[hkc]) _ _ _ _ ?_);rw[show({s with heap:=s.heap.push {cls:=.type "dict",data:=.dict #[]}}:TK).heap.objs.size=s.heap.objs.size+1 from d4 ..];rw[aaj];exact OK (TR (TR h))
theorem qD{O tg l:Ue}{B:ck Ue}{scope:V5}{pos:Pos}{own:ck Str}{h:ck (Str×Nat)}{g:TG}{tc:TT}{te:TE}{E:Tw->TK->Prop}{it:TM}{fp:ck TM}{tn:Nat->Heap->Prop}{J:It}{Fin:TM->Hp->Prop}
  {RR:Tw->TM->aeE->TK->Prop} (I:Inv X Z Y H s) (hc:X.calm=Ld) (XI:scope.kind=.function) (hnd:(scope.names.map (·.1)).Nodup) (hfr:∀y∈scope.names,y.2=.free->∃c,X.env.cells.lookup y.1=ax c) (hfv:aaH X scope h)
  (T:Turn X.prog X.w X.K tg J fp it tn) (st:tn 0 s.heap) (G:∀b∈fp,kY X Z H b)
  (hg:∀C,PG (cq X s H scope C (dw own h) fp) tg g) (ht:∀C,wU (cq X s H scope C (dw own h) fp) B tc) {W:TM->Tw->TK->Prop} (he:∀C,PE ((cq X s H scope C (dw own h) fp).Yp (W C)) O te) (hEE:∀D C x s1,s.heap.objs.size<=C->W C x s1->notedBy (model X.prog X.w) X.A (compEnvC scope (tS X scope C) C X.env) (λe s2=>RR (.ref D) C (.error e) s2) x s1)
  (hR:∀D,H D=CL->Hq J D (nb own h Y) g tc te H (Fin D))
  (hRR:∀D C H' s',Inv X Z Y H' s'->Fin D H'->(∃m,s'.heap.Ns C m)->s.heap.objs.size<=C->H' C=CL->RR (.ref D) C (.ok .next) s'):
  wpAny (model X.prog X.w) X.A (newList []) (λacc s3=>wpAny (model X.prog X.w) X.A (newFunctionEnv scope X.env.globals (ic X.env scope.names []) [] X.env.qual CL .none (ax X.env)) (λags s4=>
   codeAny (model X.prog X.w) X.A (.compStart (.ListComp O [⟨tg,l,B,0⟩] scope pos) 0 (.ref it) acc {ags with scope:=relabel scope X.env}) (RR acc ags.locals) s4) E s3) E s:=by
 refine Vw ?_;generalize hH2:s.heap.push {cls:=.type "list",dict:=CL,data:=.seq ([]:ck Tw).toArray}=h2;have hz:h2.objs.size=s.heap.objs.size+1:=by rw[<-hH2,d4]
 refine si (s:={s with heap:=h2}) ?_;have L:s.heap.objs.size<h2.objs.size:=by rw[hz];exact ZJ _
 have hC:s.heap.objs.size<=h2.objs.size:=WZ L;generalize hH1:pushCells (h2.push {cls:=.type "dict",data:=.dict #[]}) scope.names=h1;have kp2:∀b o,h2.get? b=ax o->h1.get? b=ax o:=λb o e=>by rw[<-hH1];exact aaT _ _ b o (cM _ e)
 have kp:∀b o,s.heap.get? b=ax o->h1.get? b=ax o:=λb o e=>kp2 b o (by rw[<-hH2];exact cM _ e);have hns:h1.Ns h2.objs.size (λ_=>CL):=by rw[<-hH1];exact(Heap.Ns.new h2 (.type "dict")).keeps (aaT _ _)
 have hoc:∀x c,(tS X scope h2.objs.size).lookup x=ax c->h2.objs.size<c->∃v,h1.IsCell c v:=λx c e Zw=>by
  have e':(V0 (h2.push {cls:=.type "dict",data:=.dict #[]}).objs.size scope.names (ic X.env scope.names [])).lookup x=ax c:=by rw[d4];exact e
  rcases qq _ _ _ x c e' with⟨_,z⟩|z
  .exact⟨CL,by rw[<-hH1];exact z⟩
  .exact a7 (abx (rN I z).2 (abx L Zw)) (VD _)
 have hd:∃n,h1.get? s.heap.objs.size=ax {cls:=.type "list",data:=.seq #[] n}:=⟨0,kp2 _ _ (by rw[<-hH2];exact c6 _ rfl)⟩;have F:∀b∈fp,b<s.heap.objs.size:=λb f=>by obtain⟨o,e,_⟩:=T.obj 0 _ st b f;exact c5 e
 have hn:H s.heap.objs.size=CL:=I.Vp.fresh (TQ _);obtain⟨W,⟨m0,w0⟩,U⟩:=hR s.heap.objs.size hn;have M:∀{pl:ck (TM×Obj)} {H':Hp},(∀b∈fp,H' b=CL)->(∀p∈pl,p.1∉fp)->∀b∈fp,kY (cq X s H scope h2.objs.size (dw own h) fp) pl H' b:=λ{pl H'} hn' hpl b f=>by have ok:=y0 (C:=h2.objs.size) (N:=dw own h) I XI hnd hfr hC G F;exact⟨hn' b f,(ok.exf b f).1,ok.aa9 b f,.inl f,(ok.exf b f).2,λp hp=>by have hp':p∈([]:ck (TM×Obj))++pl:=hp;intro z;exact hpl p (by simpa using hp') (by rw[z];exact f)⟩
 have k:∀s4:TK,s4={s with heap:=h1}->
   codeAny (model X.prog X.w) X.A (.compLoop (.ListComp O [⟨tg,l,B,0⟩] scope pos) 0 (.ref it) (.ref s.heap.objs.size) (compEnvC scope (tS X scope h2.objs.size) h2.objs.size X.env)) (RR (.ref s.heap.objs.size) h2.objs.size) s4:=by
  rintro s4 rfl
  have I0:Inv (cq X s H scope h2.objs.size (dw own h) fp) [] (nb own h Y) (bz H s.heap.objs.size (.lst [])) {s with heap:=h1}:=
   C1 I XI hnd hfr hfv (TQ _) L hC G F hns hoc kp hd
  have st0:tn 0 h1:=T.keep 0 _ _ st λb _ o e=>kp b o e;have fr0:∀b∈fp,(bz H s.heap.objs.size (.lst [])) b=CL:=λb f=>by rw[am (Ui (F b f))];exact(G b f).1
  refine Al (λx s1 z=>hEE _ _ x s1 hC z) (λn s'=>∃i σ' H',Inv (cq X s H scope h2.objs.size (dw own h) fp) [] σ' H' s'/\tn i s'.heap/\(∀b∈fp,H' b=CL)/\W i n σ' H') ?_ m0 ⟨0,_,_,I0,st0,fr0,w0⟩;rintro n s5 ⟨i,j,H5,I5,st5,fr5,w5⟩;rcases U i n j H5 w5 with⟨stop,fin⟩|⟨go,N,hN,step⟩
  .refine c9 (T.done (cq X s H scope h2.objs.size (dw own h) fp) rfl rfl rfl hc i [] s5 j H5 (λ_ _=>False) I5 (M fr5 (by simp)) st5 stop) λr s6 ⟨hr,R⟩=>?_;subst hr;obtain⟨mm,hm,_⟩:=R.loc;refine hRR _ _ H5 s6 ?_ fin ⟨mm,hm⟩ hC R.free;exact I.ac8 (ch:=fp) R.os R.base R.Vp R.bare λb f=>⟨(G b f).2.2.2.1,(G b f).2.1,(G b f).2.2.2.2.1,(G b f).2.2.2.2.2⟩
  .refine c9 (T.item (cq X s H scope h2.objs.size (dw own h) fp) rfl rfl rfl hc i [] s5 j H5 (λ_ _=>False) I5 (M fr5 (by simp)) st5 go) λr s6 ⟨u,hr,h6⟩=>?_
   subst hr;refine c9 h6 λ_ s7 ⟨x,H7,I7,r7,y7,t,fr7⟩=>?_;have I7':=I7.pinned (fp:=fp) (M fr7 (by simp)) (T.obj _ _ t);have q:∀{a:St} {P:Hp} {Q:TK},Inv (cq X s H scope h2.objs.size (dw own h) fp) ([]++pS fp s7.heap) a P Q->N a P->∃m,m<n/\∃i σ' H',Inv (cq X s H scope h2.objs.size (dw own h) fp) [] σ' H' Q/\tn i Q.heap/\(∀b∈fp,H' b=CL)/\W i m σ' H':=λ{a P Q} I8 n8=>by obtain⟨m',hm,w8⟩:=hN a P n8;refine⟨m',hm,i+1,a,P,I8.YX,T.keep _ _ _ t λb f o e=>(I8.pin (b,o) (Ud _ (Ud _ (jF f e)))).1,λb f=>?_,w8⟩;obtain⟨o,e,d⟩:=T.obj _ _ t b f;exact(I8.pin (b,o) (Ud _ (Ud _ (jF f e)))).2.1
   refine c9 (hg _ _ s7 j H7 x u _ I7' r7 (step x H7 y7)) λ_ Q ⟨a,P,I8,q8⟩=>?_;refine c9 (ht _ _ Q a P _ I8 q8) λok s9 ⟨H9,I9,q9⟩=>?_;cases ok with
   |false=>rw[ar Tz]at q9⊢;exact q I9 q9
   |true=>rw[ak rfl]at q9⊢;refine c9 (he _ _ s9 a H9 _ (I9.Yp _) q9) λy s10 ⟨S,H10,akM,r10,ys,hy,hl,q10⟩=>?_;have I10:=akM.Xx;refine c9 (rJ _ s10 a H10 (.ref s.heap.objs.size) [S] (.ref s.heap.objs.size) [y] (λ_ H11=>N a H11) I10 rfl (.cons r10 .nil) ⟨_,ys,S,rfl,rfl,hy,hl,q10⟩) λ_ s11 ⟨v11,H11,I11,_,q11⟩=>?_;exact q I11 q11
 exact codeAny_compStart_list (k _ rfl) (T.self _ 0 _ _ _ (T.keep 0 _ _ st λb _ o e=>kp b o e) (k _ rfl))
def vM(own:ck Str)(f:ck (Str×Nat))(b:TI)(g:TG)(e:TT)(d:TE):TE:=λY H Q=>b Y H λJ a=>∀D,a D=CL->Hq J D (nb own f Y) g e d a λh=>Q (.ref D) h
theorem oA{a:V5}(ok:X.Ok)(h:∀y∈a.names,y.2=.free->(X.env.scope.names.lookup y.1=ax .cell\/X.env.scope.names.lookup y.1=ax .free)):∀y∈a.names,y.2=.free->∃c,X.env.cells.lookup y.1=ax c:=
 λy b e=>ok.has y.1 (h y b e)
theorem Iq{a sc:V5}(h:(a.names.all λy=> !(y.2==Ua.free)||(sc.names.lookup y.1==ax Ua.cell)||(sc.names.lookup y.1==ax Ua.free))=Ld):
  ∀y∈a.names,y.2=.free->(sc.names.lookup y.1=ax .cell\/sc.names.lookup y.1=ax .free):=λy b e=>by
 have q:=Vy.mp h y b;rw[e]at q
 simpa using q
theorem yP{elt tg iter:Ue}{ifs:ck Ue}{scope:V5}{pos:Pos}(own:ck Str)(fv:ck (Str×Nat)){wi:TI}{g:TG}{tc:TT}{te:TE}(hc:X.calm=Ld)(hi:PI X tg iter wi)
  (hg:∀s H C fp,PG (cq X s H scope C (dw own fv) fp) tg g) (ht:∀s H C fp,wU (cq X s H scope C (dw own fv) fp) ifs tc) (he:∀s H C fp,PE (cq X s H scope C (dw own fv) fp) elt te) (hfv:aaH X scope fv)
  (aeQ:(scope.names.all λy=> !(y.2==Ua.free)||(X.env.scope.names.lookup y.1==ax Ua.cell)||(X.env.scope.names.lookup y.1==ax Ua.free))=Ld)
  (XI:scope.kind=.function:=by rfl) (hnd:(scope.names.map (·.1)).Nodup:=by left)
  (abW:∀y∈scope.names,y.2=.local->scope.names.lookup y.1=ax .local:=by left) (hs:∀x,foldedSetIterable iter X.env x=pure x:=by intro _;rfl):
  PE X (.ListComp elt [⟨tg,iter,ifs,0⟩] scope pos) (vM own fv wi g tc te):=by
 intro Z s Y H Q I h;have hfr:=Iq aeQ;rw[eval_ListComp];refine acm (use:=CL) rfl hs (qj (oA I.ok hfr)) XI abW (c9 (hi Z s Y H _ I h) λxv s1 h1=>c9 h1 λitv s2 h2=>?_);obtain⟨it,fp,tn,J,H2,e,I2,T,st2,f2,R⟩:=h2;subst e;refine qD I2 hc XI hnd (oA I.ok hfr) hfv T st2 f2 (λC=>hg _ _ C _) (λC=>ht _ _ C _) (W:=λ_ _ _=>False) (λC=>he _ _ C _) (λ_ _ _ _ _ z=>z.elim) (Fin:=λD H'=>Q (.ref D) H') R ?_;intro D C H' s' I' fin hm hC hn;obtain⟨m,hm⟩:=hm;refine⟨m,hm,λh' hs'=>⟨.ref D,H',?_,rfl,fin⟩⟩;obtain⟨f0,f1,_,f3,f4,f5⟩:=I2.aaB hC hn;exact I'.turned (t':=s'.toks) (λb o hb q=>(hs'.2 b hb).trans q) f0 f1 f3 f4 f5
theorem EZ{elt tg iter:Ue}{ifs:ck Ue}{scope:V5}{pos agv py:Pos}{i:Nat}{x:Str}(own:ck Str)(fv:ck (Str×Nat)){wi:TI}{g:TG}{tc:TT}{te:TE}(hN:X.N.Nodup)(hi':X.N[i]?=ax x)(hx:X.env.scope.names.lookup x=ax .local)
  (hc:X.calm=Ld) (hi:PI X tg iter wi)
  (hg:∀s H C fp,PG (cq X s H scope C (dw own fv) fp) tg g) (ht:∀s H C fp,wU (cq X s H scope C (dw own fv) fp) ifs tc) (he:∀s H C fp,PE (cq X s H scope C (dw own fv) fp) elt te) (hfv:aaH X scope fv)
  (aeQ:(scope.names.all λy=> !(y.2==Ua.free)||(X.env.scope.names.lookup y.1==ax Ua.cell)||(X.env.scope.names.lookup y.1==ax Ua.free))=Ld)
  (hsw:X1 (.ListComp elt [⟨tg,iter,ifs,0⟩] scope pos) (ax (.Name x py)) agv.line X.env=pure Ld:=by rfl)
  (XI:scope.kind=.function:=by rfl) (hnd:(scope.names.map (·.1)).Nodup:=by left)
  (abW:∀y∈scope.names,y.2=.local->scope.names.lookup y.1=ax .local:=by left) (hs:∀x,foldedSetIterable iter X.env x=pure x:=by intro _;rfl):
  PS X (.Assign [.Name x py] (.ListComp elt [⟨tg,iter,ifs,0⟩] scope pos) agv) (uQ (vM own fv wi g tc te) (oa i)):=by
 intro Z s Y H D I h;have hfr:=Iq aeQ;rw[exec_Assign_Name_used _ _ _ _ hsw];refine OK (VY (OK ?_));show wpAny _ _ (do let _<-comprehension (.ListComp elt [⟨tg,iter,ifs,0⟩] scope pos) scope X.env _ (newList []) Tx (eval iter X.env) (ax (assign (.Name x py) X.env))) _ _ s;refine OK (c9 (acm (use:=ax (assign (.Name x py) X.env)) (Q:=λ_ s'=>SP X Z D .next s') rfl hs (qj (oA I.ok hfr)) XI abW
  (c9 (hi Z s Y H _ I h) λxv s1 h1=>c9 h1 λitv s2 h2=>?_)) λ_ s' q=>TR (TR q))
 obtain⟨it,fp,tn,J,H2,e,I2,T,st2,f2,R⟩:=h2;subst e;refine qD I2 hc XI hnd (oA I.ok hfr) hfv T st2 f2 (λC=>hg _ _ C _) (λC=>ht _ _ C _) (W:=λ_ _ _=>False) (λC=>he _ _ C _) (λ_ _ _ _ _ z=>z.elim) (Fin:=λL H'=>D.nx (Y.set i (ax (.ref L))) H') R ?_;intro L C H' s' I' fin hm hC hn;obtain⟨m,hm⟩:=hm;obtain⟨f0,f1,f2',f3,f4,f5⟩:=I2.aaB hC hn;show wpAny _ _ (assign (.Name x py) X.env (.ref L)) _ _ s';refine afk (rO I' hN hi' (.inl hx) (v:=.ref L) rfl (λs'' I'' ⟨a,sb,ha⟩=>?_) (.inr hx));have hCa:C≠a:=by
  rcases ha with z|z
  .rw[z];exact f1
  .exact λq=>f4 x a z q.symm
 refine⟨m,hm.sameBut sb hCa,λh' hs'=>⟨_,H',?_,fin⟩⟩;exact I''.turned (t':=s''.toks) (λb o hb q=>(hs'.2 b hb).trans q) f0 f1 f3 f4 f5
end
def lx(P:Ug)(w:Ux)(K:cL)(mg:Str->cv Tw)(base:Heap)(k:Nat)(x:Str)(ps:ck Str)(sp:Sp):Prop:=
 ∃(f:TM) (a:U3),FnOk P w K mg base kS k f a ps sp/\Binds K a ps []/\VT K (.ref f)=Ld/\mg x=ax (.ref f)
theorem tK(C:lx X.prog X.w X.K X.mg X.base k x ps sp)(i:Wj j X.A)(ha:PA X (e::es) t)(d:k<=j:=by decide)(l:Gl X x:=by rfl)
  (g:(x==("__debug__":Str))=Tx:=by decide) (n:Uh (e::es) X.env=(Tx,eval e X.env)::Uh es X.env:=by rfl) (a:(backTo pos (Uh es X.env)).any (·.1)=Tx:=by rfl):
  PE X (.Call (.Name x p) (e::es) [] pos) (pW sp [] E0 t):=by
 obtain⟨f,o,F,b,h,m⟩:=C;exact yF F (i.mono d) l m h b .nil Pl ha g n a
section
variable{Z:St}{H:Hp}{Q:VK}{D:Ends}
theorem K4(h:t {D with nx:=u D} Z H):Eo t u D Z H:=h
theorem LM(h:te Z H λx H1=>g x Z H1 D.nx):uQ te g D Z H:=h
theorem FD{Q:St->Hp->Prop}(h:Q (Z.set i (ax v)) H):oa i v Z H Q:=h
theorem QB(h:Q v H):tC v Z H Q:=h
theorem Oo(h:ta Z H λx H1=>tb Z H1 λy H2=>r x y H2 Q):Fp r ta tb Z H Q:=h
theorem ND(c:Gx x y=Ld)(h:Q (.bl (decide (x=y))) H):RF x y H Q:=⟨c,h⟩
theorem Pi(c:Gx x y=Ld)(h:Q (.bl (!decide (x=y))) H):Rs x y H Q:=⟨c,h⟩
theorem K3(h:te Z H D.rt):FB te D Z H:=h
theorem GP(h:te Z H λ_ H1=>D.nx Z H1):xK te D Z H:=h
theorem KF(h:c Z H λb H1=>if b=Ld then t D Z H1 else u D Z H1):Fm c t u D Z H:=h
theorem FW(h:D.nx Z H):Cd D Z H:=h
theorem F9{Q:Bool->Hp->Prop}(h:t Z H λx H'=>∃k,x=.bl k/\Q k H'):rh t Z H Q:=h
theorem QS{Q:Bool->Hp->Prop}(h:t Z H λx H'=>∃k,x=.bl k/\Q k H'):tB t Z H Q:=h
theorem MM{Q:Bool->Prop}(h:Q b):∃k,V.bl b=.bl k/\Q k:=⟨b,rfl,h⟩
theorem N9{Q:Bool->Hp->Prop}(h:t Z H λc H1=>if c=Ld then Q Ld H1 else u Z H1 Q):Qx t u Z H Q:=h
theorem Kh{Q:Bool->Hp->Prop}(h:t Z H λc H1=>Q (!c) H1):Hf t Z H Q:=h
theorem J0{Q:ck V->Hp->Prop}(h:Q [] H):ou Z H Q:=h
theorem GU{Q:ck V->Hp->Prop}(h:ta Z H λx H1=>tr Z H1 λxs H2=>Q (x::xs) H2):i6 ta tr Z H Q:=h
theorem OO(h:t Z H λvs H1=>r vs H1 Q):G2 r t Z H Q:=h
theorem Ek(h:t Z H λvs H1=>sp (vs++[]) H1 Q E):pW sp [] E t Z H Q:=h
theorem LV(h:t Z H λxs H1=>xs.length<=T8/\∀p,H1 p=CL->Q (.ref p) (bz H1 p (.tup xs))):GK t Z H Q:=h
theorem Je(h:t Z H λxs H1=>xs.length<=T8/\∀p,H1 p=CL->Q (.ref p) (bz H1 p (.lst xs))):GW t Z H Q:=h
theorem Ob{K:cL}(h:to Z H λx H1=>QY K T x H1/\t Z H1 λxs H2=>r x xs H2 Q):Ib K T r to t Z H Q:=h
end
theorem K5{α:Type}{xs:ck α}{i:Int}{v:α}(a:0<=i)(h:xs[i.toNat]?=ax v):mL xs i=ax v:=by have q:=xZ h;rwa [WL a]at q
theorem Vl.tup{K:cL}(e:Vl H H')(h:XA K H a xs):XA K H' a xs:=by
 rcases h with(h|⟨o,h⟩)|h
 .exact .inl (.inl (e _ _ h))
 .exact .inl (.inr ⟨o,e _ _ h⟩)
 .exact .inr h
theorem aV(h:H p=CL)(o:HO):Vl H (bz H p o):=λb u q=>by rw[am (bW q h)];exact q
theorem M0:UK "max"=ax (.builtin "max"):=by left
theorem bx:UK "isinstance"=ax (.builtin "isinstance"):=by left
theorem Dm:UK "len"=ax (.builtin "len"):=by left
theorem B4:UK "sorted"=ax (.builtin "sorted"):=by left
theorem Pu:UK "all"=ax (.builtin "all"):=by left
theorem Ip:UK "int"=ax (.type "int"):=by left
theorem M4:UK "str"=ax (.type "str"):=by left
theorem Kl:UK "list"=ax (.type "list"):=by left
theorem Ft:UK "tuple"=ax (.type "tuple"):=by left
section
variable{X:Cx}
theorem uy:Wn X (.builtin "sorted") (λxs H Q=>∃(p:TM) (ns:ck Int),xs=[.ref p]/\XG X.K H p (ns.map V.int)/\ns.length<64/\∀(l:TM) (a:ck Int),H l=CL->a.Perm ns->a.Pairwise (·<=·)->Q (.ref l) (bz H l (.lst (a.map V.int)))):=by
 intro g s A H xs B Q I r h;obtain⟨p,ns,rfl,m,v,q⟩:=h;obtain⟨u,rfl,j⟩:=iZ r;cases j;obtain⟨y,rv,pl,E⟩:=I.list m;have n:=rv.length;rw[Tv]at n;refine sorted_ints pl.isList (lO rv) (by ext) λd a hi i k=>?_;obtain⟨e,t⟩:=sortedAll_at s.heap y d;have f:a.length=ns.length:=i.length_eq;have w:d.toList.length=a.length:=hi.length;refine⟨.ref (s.heap.objs.size+1),_,I.laid (t':=s.toks) (o:=.lst (a.map V.int)) (λb C z=>sortedAll_old z) (Xl _) ?_,rfl,q _ a (I.Vp.fresh (Xl _)) i k⟩;refine⟨?_,d.toList,e,kO hi,t⟩;rw[Tv,f];have:(64:Nat)<=T8:=by decide
 ext
end
end L2
namespace L3
open PySem L2
abbrev D:=lD
inductive PV where
 |fz (d:D)
 |ow (ds:ck D)
 |pl (i:Nat)
abbrev aD:=ck (cv PV)
structure Xc where
 cls:Str
 fs:ck (Str×D)
inductive Res(α:Type) where
 |ok (a:α)
 |er (x:Xc)
 |bad
namespace Res
def bind(r:Res α)(f:α->Res β):Res β:=match r with
 |.ok a=>f a
 |.er x=>.er x
 |.bad=>.bad
def U1:cv α->Res α
 |some a=>.ok a
 |none=>.bad
theorem bind_ok(a:α)(f:α->Res β):(Res.ok a).bind f=f a:=rfl
theorem aea(x:Xc)(f:α->Res β):(Res.er x).bind f=.er x:=rfl
end Res
abbrev fo:=@Res.bind_ok
abbrev bU:=TM->Prop
def kh(O:bU)(p:TM):bU:=λb=>O b\/b=p
def BF(O:bU)(p:TM):bU:=λb=>O b/\b≠p
def Sf:bU:=λ_=>False
def Ev(O:bU)(H:Hp)(a:bU)(H':Hp):Prop:=∀b o,H b=ax o->¬O b->H' b=ax o/\¬a b
theorem Ev.refl:Ev O H O H:=λ_ _ h n=>⟨h,n⟩
theorem Ev.trans(a:Ev O H O1 H1)(b:Ev O1 H1 O2 H2):Ev O H O2 H2:=λp o h n=>let⟨h1,n1⟩:=a p o h n;b p o h1 n1
theorem Ev.grow(s:Vl H H'):Ev O H O H':=λb o h n=>⟨s b o h,n⟩
theorem Ev.add(s:Vl H H')(a:H p=CL):Ev O H (kh O p) H':=λb o h n=>⟨s b o h,λz=>z.elim n λe=>by simp_all⟩
theorem Ev.sub(h:∀b,O' b->O b):Ev O H O' H:=λb o e n=>⟨e,λz=>n (h b z)⟩
theorem Ev.mut(a:O p)(u:HO):Ev O H O (bz H p u):=λb o h n=>⟨by rw[am (λe=>n (by simp_all))];exact h,n⟩
def XZ(K:cL)(H:Hp)(a:TM)(xs:ck V):Prop:=Rd H a (.lst xs)\/∃(b:ck Tw) (n:Nat),K.lookup a=ax {cls:=.type "list",data:=.seq b.toArray n}/\xs.length<=T8/\Vals xs b
theorem XZ.sq(h:XZ K H a xs):XG K H a xs:=by
 rcases h with h|⟨UD,n,h1,h2,h3⟩
 .exact .inl h
 .exact .inr ⟨_,UD.toArray,n,h1,rfl,rfl,rfl,by rw[T3,<-h3.length];exact h2,by ext⟩
theorem XZ.of(h:H a=ax (.lst xs)):XZ K H a xs:=.inl (.inl h)
theorem XZ.same(e:Vl H H')(h:XZ K H a xs):XZ K H' a xs:=by
 rcases h with(h|⟨o,h⟩)|h
 .exact .inl (.inl (e _ _ h))
 .exact .inl (.inr ⟨o,e _ _ h⟩)
 .exact .inr h
theorem kK(H:Hp):Vl (λ_=>CL) H:=λ_ _ h=>by cases h
def Zg(O:bU)(K:cL)(H:Hp)(a:TM)(xs:ck V):Prop:=XZ K H a xs/\(O a->XZ K (λ_=>CL) a xs)
def Yw(O:bU)(K:cL)(H:Hp)(a:TM)(xs:ck V):Prop:=XA K H a xs/\(O a->XA K (λ_=>CL) a xs)
section
variable{O Z:bU}{K:cL}{H H':Hp}{a:TM}{xs:ck V}
theorem Zg.ev(h:Zg O K H a xs)(e:Ev O H Z H'):Zg Z K H' a xs:=by
 obtain⟨h,k⟩:=h;by_cases z:O a
 .exact⟨XZ.same (kK H') (k z),λ_=>k z⟩
 .rcases h with(h|⟨o,h⟩)|h
  .obtain⟨d,b⟩:=e a _ h z;exact⟨.inl (.inl d),λy=>a7 y b⟩
  .obtain⟨d,b⟩:=e a _ h z;exact⟨.inl (.inr ⟨o,d⟩),λy=>a7 y b⟩
  .exact⟨.inr h,λ_=>.inr h⟩
theorem Yw.ev(h:Yw O K H a xs)(e:Ev O H Z H'):Yw Z K H' a xs:=by
 obtain⟨h,k⟩:=h;by_cases z:O a
 .exact⟨(kK H').tup (k z),λ_=>k z⟩
 .rcases h with(h|⟨o,h⟩)|h
  .obtain⟨d,b⟩:=e a _ h z;exact⟨.inl (.inl d),λy=>a7 y b⟩
  .obtain⟨d,b⟩:=e a _ h z;exact⟨.inl (.inr ⟨o,d⟩),λy=>a7 y b⟩
  .exact⟨.inr h,λ_=>.inr h⟩
end
mutual
inductive DV(O:bU)(K:cL)(H:Hp):V->D->Prop
 |VX:DV O K H .VX .none
 |bl (b:Bool):DV O K H (.bl b) (.bool b)
 |int (i:Int):DV O K H (.int i) (.int i)
 |str (x:Str):DV O K H (.str x) (.str x)
 |tup {a:TM} {xs:ck V} {ds:ck D}:Yw O K H a xs->VH O K H xs ds->DV O K H (.ref a) (.tuple ds)
 |lst {a:TM} {xs:ck V} {ds:ck D}:Zg O K H a xs->VH O K H xs ds->DV O K H (.ref a) (.list ds)
inductive VH(O:bU)(K:cL)(H:Hp):ck V->ck D->Prop
 |nil:VH O K H [] []
 |cons {v:V} {vs:ck V} {d:D} {ds:ck D}:DV O K H v d->VH O K H vs ds->VH O K H (v::vs) (d::ds)
end
section
variable{O Z:bU}{K:cL}{H H':Hp}
mutual
theorem DV.ev(e:Ev O H Z H'):∀{v:V} {d:D},DV O K H v d->DV Z K H' v d
 |_,_,.VX=>.VX
 |_,_,.bl b=>.bl b
 |_,_,.int i=>.int i
 |_,_,.str x=>.str x
 |_,_,.tup h hs=>.tup (h.ev e) (VH.ev e hs)
 |_,_,.lst h hs=>.lst (h.ev e) (VH.ev e hs)
theorem VH.ev(e:Ev O H Z H'):∀{vs:ck V} {ds:ck D},VH O K H vs ds->VH Z K H' vs ds
 |_,_,.nil=>.nil
 |_,_,.cons h hs=>.cons (DV.ev e h) (VH.ev e hs)
end
theorem VH.length:∀{vs:ck V} {ds:ck D},VH O K H vs ds->vs.length=ds.length
 |_,_,.nil=>rfl
 |_,_,.cons _ t=>by rw[TJ,TJ,t.length]
theorem VH.get:∀{vs:ck V} {ds:ck D} {i:Nat} {d:D},VH O K H vs ds->ds[i]?=ax d->∃v,vs[i]?=ax v/\DV O K H v d
 |_,_,_,_,.nil,e=>by simp at e
 |_,_,0,_,.cons h _,e=>by simp_all
 |_,_,i+1,d,.cons _ t,e=>by obtain⟨v,b,a⟩:=VH.get t (by simpa using e);simp_all
theorem VH.adS:∀{vs:ck V} {ds:ck D} {i:Nat} {v:V},VH O K H vs ds->vs[i]?=ax v->∃d,ds[i]?=ax d/\DV O K H v d
 |_,_,_,_,.nil,e=>by simp at e
 |_,_,0,_,.cons h _,e=>by simp_all
 |_,_,i+1,v,.cons _ t,e=>by obtain⟨d,b,a⟩:=VH.adS t (by simpa using e);simp_all
theorem VH.append:∀{vs ws:ck V} {ds es:ck D},VH O K H vs ds->VH O K H ws es->VH O K H (vs++ws) (ds++es)
 |_,_,_,_,.nil,h=>h
 |_,_,_,_,.cons h t,g=>.cons h (VH.append t g)
theorem VH.take:∀{vs:ck V} {ds:ck D} (n:Nat),VH O K H vs ds->VH O K H (vs.take n) (ds.take n)
 |_,_,0,_=>.nil
 |_,_,_+1,.nil=>.nil
 |_,_,n+1,.cons h t=>.cons h (VH.take n t)
theorem VH.drop:∀{vs:ck V} {ds:ck D} (n:Nat),VH O K H vs ds->VH O K H (vs.drop n) (ds.drop n)
 |_,_,0,h=>h
 |_,_,_+1,.nil=>.nil
 |_,_,n+1,.cons _ t=>VH.drop n t
theorem VH.erase:∀{vs:ck V} {ds:ck D} (n:Nat),VH O K H vs ds->VH O K H (vs.eraseIdx n) (ds.eraseIdx n)
 |_,_,_,.nil=>.nil
 |_,_,0,.cons _ t=>t
 |_,_,n+1,.cons g t=>.cons g (VH.erase n t)
theorem VH.flat(h:VH O K H vs ds):∀n:Nat,VH O K H (T1 n vs).flatten (T1 n ds).flatten
 |0=>.nil
 |n+1=>by rw[UU,UU,Ws,Ws];exact h.append (VH.flat h n)
mutual
theorem DV.plain:∀{v:V} {d:D},DV O K H v d->L2.DV K H v d
 |_,_,.VX=>.VX
 |_,_,.bl b=>.bl b
 |_,_,.int i=>.int i
 |_,_,.str x=>.str x
 |_,_,.tup h hs=>.tup h.1 (VH.plain hs)
 |_,_,.lst h hs=>.lst h.1.sq (VH.plain hs)
theorem VH.plain:∀{vs:ck V} {ds:ck D},VH O K H vs ds->L2.VH K H vs ds
 |_,_,.nil=>.nil
 |_,_,.cons h hs=>.cons (DV.plain h) (VH.plain hs)
end
end
def DX(O:bU)(K:cL)(H:Hp)(v:V):D->Prop
 |.list ds=>∃a xs,v=.ref a/\XZ K H a xs/\VH O K H xs ds
 |d=>DV O K H v d
theorem DV.x(h:DV O K H v d):DX O K H v d:=by
 cases h with
 |lst h a=>exact⟨_,_,rfl,h.1,a⟩
 |VX=>exact .VX
 |bl b=>exact .bl b
 |int i=>exact .int i
 |str x=>exact .str x
 |tup h a=>exact .tup h a
theorem DX.plain(h:DX O K H v d):L2.DV K H v d:=by
 cases d with
 |list ds=>obtain⟨a,xs,rfl,f,e⟩:=h;exact .lst f.sq e.plain
 |none=>exact DV.plain h
 |bool b=>exact DV.plain h
 |int i=>exact DV.plain h
 |str x=>exact DV.plain h
 |tuple ds=>exact DV.plain h
 |dict Yc=>exact DV.plain h
def aaG(K:cL)(b:Hp)(O:bU)(H:Hp)(v:V):PV->Prop
 |.fz d=>DV O K H v d
 |.ow ds=>∃a vs,v=.ref a/\O a/\b a=CL/\H a=ax (.lst vs)/\VH O K H vs ds
 |.pl _=>False
structure Rl(K:cL)(B:bU)(H0:Hp)(O:bU)(σ:St)(H:Hp)(ρ:aD):Prop where
 same:Vl H0 H
 bo:∀a,B a->O a
 bd:∀a,B a->H0 a≠CL
 od:∀a,H a=CL->¬O a
 len:σ.length=ρ.length
 slot:∀(i:Nat) (x:PV),ρ[i]?=ax (ax x)->∃v,σ[i]?=ax (ax v)/\aaG K H0 O H v x
 one:∀(i j:Nat) (ds es:ck D) (v:V),ρ[i]?=ax (ax (.ow ds))->ρ[j]?=ax (ax (.ow es))->σ[i]?=ax (ax v)->σ[j]?=ax (ax v)->i=j
def Yg(K:cL)(f:Hp)(O:bU)(b:St)(H:Hp)(ρ:aD)(v:V):PV->Prop
 |.fz d=>DV O K H v d
 |.ow ds=>∃a vs,v=.ref a/\O a/\f a=CL/\H a=ax (.lst vs)/\VH O K H vs ds/\∀(i:Nat) (e:ck D),ρ[i]?=ax (ax (.ow e))->b[i]?≠ax (ax (.ref a))
 |.pl i=>b[i]?=ax (ax v)
def kI:PV->Prop
 |.ow _=>False
 |_=>True
def dZ:PV->PV
 |.ow ds=>.fz (.list ds)
 |p=>p
section
variable{K:cL}{B O X:bU}{Z H H':Hp}{Y:St}{ρ ρ':aD}{v:V}
theorem aaG.grow(s:Vl H H')(h:aaG K Z O H v x):aaG K Z O H' v x:=by
 cases x with
 |fz d=>exact DV.ev (Ev.grow s) h
 |ow ds=>obtain⟨a,vs,e,j,g,f,b⟩:=h;exact⟨a,vs,e,j,g,s _ _ f,b.ev (Ev.grow s)⟩
 |pl i=>exact h
theorem Rl.grow(R:Rl K B Z O Y H ρ)(s:Vl H H'):Rl K B Z O Y H' ρ:=
 ⟨R.same.trans s,R.bo,R.bd,λa h=>R.od a (s.free h),R.len,λi x h=>let⟨v,h1,h2⟩:=R.slot i x h;⟨v,h1,h2.grow s⟩,R.one⟩
theorem Rl.aey(R:Rl K B Z O Y H ρ)(h:H p=CL):Z p=CL:=R.same.free h
theorem Rl.add(R:Rl K B Z O Y H ρ)(s:Vl H H')(f:H p=CL)(g:H' p≠CL):Rl K B Z (kh O p) Y H' ρ:=by
 refine⟨R.same.trans s,λa h=>.inl (R.bo a h),R.bd,λa h z=>z.elim (R.od a (s.free h)) λe=>g (by simp_all),R.len,λi x h=>?_,R.one⟩;obtain⟨v,j,b⟩:=R.slot i x h;refine⟨v,j,?_⟩;cases x with
 |fz d=>exact DV.ev (Ev.add s f) b
 |ow ds=>obtain⟨a,vs,e,n,m,l,k⟩:=b;exact⟨a,vs,e,.inl n,m,s _ _ l,k.ev (Ev.add s f)⟩
 |pl i=>exact b
theorem Rl.agK(R:Rl K B Z O Y H ρ)(h:Z a=CL):¬B a:=λz=>R.bd a z h
theorem Rl.sub(R:Rl K B Z O Y H ρ){a:TM}(l:Z a=CL)(h:∀(i:Nat) (es:ck D),ρ[i]?=ax (ax (.ow es))->Y[i]?≠ax (ax (.ref a))):Rl K B Z (BF O a) Y H ρ:=by
 refine⟨R.same,λb f=>⟨R.bo b f,λe=>R.agK l (e▸f)⟩,R.bd,λb f z=>R.od b f z.1,R.len,λi x j=>?_,R.one⟩;obtain⟨v,k,g⟩:=R.slot i x j;refine⟨v,k,?_⟩;cases x with
 |fz d=>exact DV.ev (Ev.sub λb z=>z.1) g
 |ow ds=>obtain⟨b,vs,e,p,o,n,m⟩:=g;subst e;exact⟨b,vs,rfl,⟨p,λe=>h i ds j (by rw[k,e])⟩,o,n,m.ev (Ev.sub λb z=>z.1)⟩
 |pl i=>exact g
theorem w6(h:H a=ax (.lst vs))(n:¬O a)(hd:VH O K H vs ds):DV O K H (.ref a) (.list ds):=.lst ⟨XZ.of h,λz=>a7 z n⟩ hd
theorem jw{pv:PV}(R:Rl K B Z O Y H ρ)(h:Yg K Z O Y H ρ v pv):∃X,Ev O H X H/\Rl K B Z X Y H ρ/\Yg K Z X Y H ρ v (dZ pv):=by
 cases pv with
 |fz d=>exact⟨O,.refl,R,h⟩
 |pl i=>exact⟨O,.refl,R,h⟩
 |ow ds=>obtain⟨a,vs,rfl,k,j,g,f,e⟩:=h;exact⟨BF O a,Ev.sub λb z=>z.1,R.sub j e,w6 g (λz=>z.2 rfl) (f.ev (Ev.sub λb z=>z.1))⟩
theorem kQ(pv:PV):kI (dZ pv):=by cases pv<;>trivial
theorem Yg.keep{pv:PV}(a:kI pv)(e:Ev O H X H')(h:Yg K Z O Y H ρ v pv):Yg K Z X Y H' ρ' v pv:=by
 cases pv with
 |fz d=>exact DV.ev e h
 |pl i=>exact h
 |ow ds=>exact a.elim
def RQ:cv (cv PV)->cv D
 |some (ax (.fz d))=>ax d
 |some (ax (.ow ds))=>ax (.list ds)
 |_=>CL
def jb(ρ:aD):PV->cv D
 |.fz d=>ax d
 |.ow ds=>ax (.list ds)
 |.pl i=>RQ ρ[i]?
theorem gP{pv:PV}(R:Rl K B Z O Y H ρ)(h:Yg K Z O Y H ρ v pv)(e:jb ρ pv=ax d):DX O K H v d:=by
 cases pv with
 |fz n=>cases e;exact DV.x h
 |ow ds=>cases e;obtain⟨a,vs,rfl,y,w,l,k,t⟩:=h;exact⟨a,vs,rfl,XZ.of l,k⟩
 |pl i=>
  have b:RQ ρ[i]?=ax d:=e;have m:=h;cases q:ρ[i]? with
  |none=>rw[q]at b;cases b
  |some o=>
   cases o with
   |none=>rw[q]at b;cases b
   |some x=>
    obtain⟨u,g,f⟩:=R.slot i x q;rw[m]at g;cases g;rw[q]at b;cases x with
    |fz n=>cases b;exact DV.x f
    |ow ds=>cases b;obtain⟨a,vs,rfl,r,p,k3,k4⟩:=f;exact⟨a,vs,rfl,XZ.of k3,k4⟩
    |pl j=>exact f.elim
def toS(ρ:aD)(i:Nat):cv (cv PV)->cv (D×aD)
 |some (ax (.fz d))=>ax (d,ρ)
 |some (ax (.ow ds))=>ax (.list ds,ρ.set i (ax (.fz (.list ds))))
 |_=>CL
def se(ρ:aD):PV->cv (D×aD)
 |.fz d=>ax (d,ρ)
 |.ow ds=>ax (.list ds,ρ)
 |.pl i=>toS ρ i ρ[i]?
theorem dB{l:ck α}(h:(l.set i x)[j]?=ax y):(j=i/\y=x)\/(j≠i/\l[j]?=ax y):=by
 rw[U4]at h;by_cases e:i=j
 .rw[ak e]at h
  split at h
  .cases h;exact .inl ⟨e.symm,rfl⟩
  .cases h
 .rw[ar e]at h;exact .inr ⟨λz=>e z.symm,h⟩
theorem pG{pv:PV}(R:Rl K B Z O Y H ρ)(h:Yg K Z O Y H ρ v pv)(e:se ρ pv=ax (d,ρ')):∃X,Ev O H X H/\Rl K B Z X Y H ρ'/\DV X K H v d:=by
 cases pv with
 |fz d'=>cases e;exact⟨O,.refl,R,h⟩
 |ow ds=>cases e;obtain⟨a,vs,rfl,h1,U,T,S,Q⟩:=h;exact⟨BF O a,Ev.sub λb z=>z.1,R.sub U Q,w6 T (λz=>z.2 rfl) (S.ev (Ev.sub λb z=>z.1))⟩
 |pl i=>
  have f:toS ρ i ρ[i]?=ax (d,ρ'):=e;have y:=h;cases q:ρ[i]? with
  |none=>rw[q]at f;cases f
  |some o=>
   cases o with
   |none=>rw[q]at f;cases f
   |some x=>
    obtain⟨u,E,A⟩:=R.slot i x q;rw[y]at E;cases E;rw[q]at f;cases x with
    |fz d'=>cases f;exact⟨O,.refl,R,A⟩
    |pl j=>exact A.elim
    |ow ds=>
     cases f;obtain⟨a,vs,rfl,k1,P,k3,k4⟩:=A;have n:Ev O H (BF O a) H:=Ev.sub λb z=>z.1;have F:=w6 k3 (λz=>z.2 rfl) (k4.ev n);refine⟨BF O a,n,⟨R.same,λb m=>⟨R.bo b m,λe=>R.agK P (e▸m)⟩,R.bd,λb m z=>R.od b m z.1,by rw[Wl];exact R.len,λj x l=>?_,λj k xs G w t r=>?_⟩,F⟩
     .rcases dB l with⟨rfl,g⟩|⟨X9,l⟩
      .cases g;exact⟨_,y,F⟩
      .obtain⟨u,C,p⟩:=R.slot j x l
       refine⟨u,C,?_⟩;cases x with
       |fz d=>exact DV.ev n p
       |pl i=>exact p
       |ow xs=>obtain⟨b,I,rfl,N,M,L,J⟩:=p;exact⟨b,I,rfl,⟨N,λz=>X9 (R.one j i xs ds (.ref a) l q (by rw[C,z]) y)⟩,M,L,J.ev n⟩
     .rcases dB t with⟨rfl,g⟩|⟨_,t⟩
      .cases g
      .rcases dB r with⟨rfl,g⟩|⟨_,r⟩
       .cases g
       .exact R.one j k xs G w t r
end
def Rn(K:cL)(B:bU)(H:Hp)(c:Tw)(dx:cv TM)(x:Xc):Prop:=
 (∃a,c=.ref a/\T9 K T5 x.cls=ax (ax (.ref a)))/\∃fs,(∀p,dx=ax p->H p=ax (.xd fs))/\∀f d,x.fs.lookup f=ax d->dx≠CL/\∃v,fs.lookup f=ax v/\DV B K H v d
def XE(K:cL)(B:bU)(a:Hp)(E:XK)(x:Xc):Prop:=∀c dx H',Vl a H'->Rn K B H' c dx x->E c dx H'
theorem XE.from(h:XE K B H0 E x)(g:∀a,B a->O a)(s:Vl H0 H):XE K O H E x:=λc dx l b ⟨k,fs,j,i⟩=>
 h c dx l (s.trans b) ⟨k,fs,j,λf d e=>let⟨g1,v,g2,g3⟩:=i f d e;⟨g1,v,g2,g3.ev (Ev.sub g)⟩⟩
def WR(K:cL)(E:XK)(B:bU)(b:Hp)(P:α->Prop):Res α->Prop
 |.ok a=>P a
 |.er x=>XE K B b E x
 |.bad=>False
section
variable{K:cL}{E:XK}{B:bU}{Z:Hp}
theorem WR.bind(h:WR K E B Z P (r.bind k)):WR K E B Z (λa=>WR K E B Z P (k a)) r:=by cases r<;>exact h
theorem WR.U1(h:WR K E B Z P ((Res.U1 o).bind k)):∃a,o=ax a/\WR K E B Z P (k a):=by
 cases o with
 |none=>exact h.elim
 |some a=>exact⟨a,rfl,h⟩
theorem WR.imp(h:WR K E B Z P r)(g:∀a,P a->P' a):WR K E B Z P' r:=by
 cases r with
 |ok a=>exact g a h
 |er x=>exact h
 |bad=>exact h
end
abbrev FE:=aD->Res (PV×aD)
abbrev FT:=aD->Res (Bool×aD)
abbrev FA:=aD->Res (ck PV×aD)
def EO(K:cL)(E:XK)(t:TE)(f:FE):Prop:=
 ∀(B:bU) (b:Hp) (O:bU) (a:St) (H:Hp) (ρ:aD) (Q:VK),Rl K B b O a H ρ->WR K E B b (λr=>∀O' v H',Ev O H O' H'->Rl K B b O' a H' r.2->Yg K b O' a H' r.2 v r.1->Q v H') (f ρ)->t a H Q
def TTO(K:cL)(E:XK)(t:TT)(f:FT):Prop:=
 ∀(B:bU) (b:Hp) (O:bU) (a:St) (H:Hp) (ρ:aD) (Q:Bool->Hp->Prop),Rl K B b O a H ρ->WR K E B b (λr=>∀O' H',Ev O H O' H'->Rl K B b O' a H' r.2->Q r.1 H') (f ρ)->t a H Q
def AO(K:cL)(E:XK)(t:TA)(f:FA):Prop:=
 ∀(B:bU) (b:Hp) (O:bU) (a:St) (H:Hp) (ρ:aD) (Q:ck V->Hp->Prop),Rl K B b O a H ρ->WR K E B b (λr=>∀O' vs H',Ev O H O' H'->Rl K B b O' a H' r.2->Paired (λv pv=>Yg K b O' a H' r.2 v pv/\kI pv) vs r.1->Q vs H') (f ρ)->t a H Q
inductive RV where
 |fz (d:D)
 |ow (ds:ck D)
def RV.pv:RV->PV
 |.fz d=>.fz d
 |.ow ds=>.ow ds
def Fin(O:bU)(K:cL)(H:Hp)(Q:VK):RV->Prop
 |.fz d=>∀v H',Vl H H'->DV O K H' v d->Q v H'
 |.ow ds=>∀p vs H',Vl H H'->H p=CL->H' p=ax (.lst vs)->VH (kh O p) K H' vs ds->Q (.ref p) H'
def nZ(O:bU)(H:Hp):Prop:=∀a,H a=CL->¬O a
section
variable{K:cL}{E:XK}{B O X:bU}{Y H H':Hp}{Z:St}{ρ ρ':aD}{v:V}
theorem jg(R:Rl K B Y O Z H ρ)(h:∀X v H',Ev O H X H'->Rl K B Y X Z H' ρ->Yg K Y X Z H' ρ v rv.pv->Q v H'):Fin O K H Q rv:=by
 cases rv with
 |fz d=>exact λv H' s f=>h O v H' (Ev.grow s) (R.grow s) f
 |ow ds=>intro p vs H' s b e f;refine h (kh O p) (.ref p) H' (Ev.add s b) (R.add s b (by rw[e];simp)) ⟨p,vs,rfl,.inr rfl,R.aey b,e,f,λi q hi z=>?_⟩;obtain⟨u,g,a,l,k,o,n,j,m⟩:=R.slot i _ hi;rw[z]at g;cases g;cases k;rw[b]at j;cases j
theorem Fin.new(hd:VH O K H vs ds)(h:Fin O K H Q (.ow ds)):∀p,H p=CL->Q (.ref p) (bz H p (.lst vs)):=λp a=>
 h p vs _ (aV a _) a aF (hd.ev (Ev.add (aV a _) a))
theorem Fin.adD(hd:VH O K H vs ds)(b:nZ O H)(h:Fin O K H Q (.fz (.tuple ds))):∀p,H p=CL->Q (.ref p) (bz H p (.tup vs)):=λp a=>
 h (.ref p) _ (aV a _) (.tup ⟨XA.of aF,λz=>a7 z (b p a)⟩ (hd.ev (Ev.grow (aV a _))))
theorem Fin.at(h:Fin O K H Q (.fz d))(a:DV O K H v d):Q v H:=h v H (Vl.refl H) a
def yL(ρ:aD)(i:Nat):cv (cv PV)->Res (PV×aD)
 |some (ax (.fz d))=>.ok (.fz d,ρ)
 |some (ax (.ow _))=>.ok (.pl i,ρ)
 |_=>.bad
def ac(i:Nat):FE:=λρ=>yL ρ i ρ[i]?
theorem Lw:EO K E (lB i) (ac i):=by
 intro B Y O Z H ρ Q R w;unfold ac at w;cases q:ρ[i]? with
 |none=>rw[q]at w;exact w.elim
 |some o=>
  cases o with
  |none=>rw[q]at w;exact w.elim
  |some x=>
   rw[q]at w;obtain⟨v,a,b⟩:=R.slot i x q;cases x with
   |fz d=>exact⟨v,a,w O v H .refl R b⟩
   |ow ds=>exact⟨v,a,w O v H .refl R a⟩
   |pl j=>exact w.elim
def pC(d:D):FE:=λρ=>.ok (.fz d,ρ)
theorem Dj(h:∀O H,DV O K H v d):EO K E (tC v) (pC d):=λB Y O Z H ρ Q R w=>w O v H .refl R (h O H)
theorem Ky:EO K E (tC (.int i)) (pC (.int i)):=Dj λ_ _=>.int i
theorem NJ:EO K E (tC (.bl b)) (pC (.bool b)):=Dj λ_ _=>.bl b
theorem LZ:EO K E (tC (.str x)) (pC (.str x)):=Dj λ_ _=>.str x
theorem Lo:EO K E (tC .VX) (pC .none):=Dj λ_ _=>.VX
def jY(K:cL)(r:R2)(f:D->D->cv RV):Prop:=∀(O:bU) (H:Hp) (x y:V) (dx a:D) (rv:RV) (Q:VK),nZ O H->DX O K H x dx->DX O K H y a->f dx a=ax rv->Fin O K H Q rv->r x y H Q
def ah(f:D->D->cv RV)(fa d:FE):FE:=λρ=>(fa ρ).bind λa=>(d a.2).bind λb=>(Res.U1 (jb b.2 (dZ a.1))).bind λdx=>(Res.U1 (jb b.2 b.1)).bind λe=>(Res.U1 (f dx e)).bind λrv=>.ok (rv.pv,b.2)
theorem Ix(p:jY K r f)(ha:EO K E ta fa)(q:EO K E tb fb):EO K E (Fp r ta tb) (ah f fa fb):=by intro B Y O Z H ρ Q R w;refine ha B Y O Z H ρ _ R (w.bind.imp λa h N x M u C o=>?_);obtain⟨I,t,R2,n⟩:=jw C o;refine q B Y I Z M a.2 _ R2 (h.bind.imp λb d G y L e3 e m=>?_);have g:=n.keep (kQ a.1) e3 (ρ':=b.2);obtain⟨dx,j,d⟩:=d.U1;obtain⟨z,i,d⟩:=d.U1;obtain⟨rv,k,d⟩:=d.U1;refine p G L x y dx z rv Q e.od (gP e g j) (gP e m i) k (jg e λF v J e4 A l=>?_);exact d F v J (u.trans (t.trans (e3.trans e4))) A l
def Rr(K:cL)(r:V->Hp->VK->Prop)(f:D->cv RV):Prop:=∀(O:bU) (H:Hp) (x:V) (dx:D) (rv:RV) (Q:VK),nZ O H->DX O K H x dx->f dx=ax rv->Fin O K H Q rv->r x H Q
def B9(f:D->cv RV)(fa:FE):FE:=λρ=>(fa ρ).bind λa=>(Res.U1 (jb a.2 a.1)).bind λdx=>(Res.U1 (f dx)).bind λrv=>.ok (rv.pv,a.2)
theorem Nv(j:Rr K r f)(ha:EO K E ta fa):EO K E (RJ r ta) (B9 f fa):=by intro B Y O Z H ρ Q R w;refine ha B Y O Z H ρ _ R (w.bind.imp λa b n x p k d i=>?_);obtain⟨dx,e,b⟩:=b.U1;obtain⟨rv,g,b⟩:=b.U1;exact j n p x dx rv Q d.od (gP d i e) g (jg d λm v o e4 l h=>b m v o (k.trans e4) l h)
def QF:D->cv Bool
 |.bool b=>ax b
 |_=>CL
theorem K6(h:DX O K H x d)(e:QF d=ax b):x=.bl b:=by cases d<;>cases e;cases h;rfl
def ag(fa:FE):aD->Res (Bool×aD):=λρ=>(fa ρ).bind λa=>(Res.U1 (jb a.2 a.1)).bind λd=>(Res.U1 (QF d)).bind λb=>.ok (b,a.2)
theorem jr(ha:EO K E ta fa):TTO K E (rh ta) (ag fa):=by intro B Y O Z H ρ Q R w;refine ha B Y O Z H ρ _ R (w.bind.imp λa e k x l j f i=>?_);obtain⟨d,g,e⟩:=e.U1;obtain⟨b,h,e⟩:=e.U1;exact⟨b,K6 (gP f i g) h,e k l j f⟩
theorem OX(ha:EO K E ta fa):TTO K E (tB ta) (ag fa):=jr ha
def di(fa b:FT):FT:=λρ=>(fa ρ).bind λa=>if a.1=Ld then b a.2 else .ok (Tx,a.2)
def iR(fa b:FT):FT:=λρ=>(fa ρ).bind λa=>if a.1=Ld then .ok (Ld,a.2)else b a.2
def d9(fa:FT):FT:=λρ=>(fa ρ).bind λa=>.ok (!a.1,a.2)
theorem TTO.next(h:TTO K E t f)(R:Rl K B Y O1 Z H1 ρ)(a:Ev O H O1 H1)(w:WR K E B Y (λr=>∀X H',Ev O H X H'->Rl K B Y X Z H' r.2->Q r.1 H') (f ρ)):t Z H1 Q:=
 h B Y O1 Z H1 ρ Q R (w.imp λr q X H' b d=>q X H' (a.trans b) d)
theorem EO.next(h:EO K E t f)(R:Rl K B Y O1 Z H1 ρ)(b:Ev O H O1 H1)(w:WR K E B Y (λr=>∀X v H',Ev O H X H'->Rl K B Y X Z H' r.2->Yg K Y X Z H' r.2 v r.1->Q v H') (f ρ)):t Z H1 Q:=
 h B Y O1 Z H1 ρ Q R (w.imp λr q X v H' d e a=>q X v H' (b.trans d) e a)
theorem Fe(k:TTO K E t f)(j:TTO K E u g):TTO K E (Pj t u) (di f g):=by
 intro B Y O Z H ρ Q R w;refine k B Y O Z H ρ _ R (w.bind.imp λa d l m e h=>?_);obtain⟨b,i⟩:=a;cases b with
 |true=>exact j.next h e d
 |false=>exact d l m e h
theorem IH(k:TTO K E t f)(j:TTO K E u g):TTO K E (Qx t u) (iR f g):=by
 intro B Y O Z H ρ Q R w;refine k B Y O Z H ρ _ R (w.bind.imp λa d l m e h=>?_);obtain⟨b,i⟩:=a;cases b with
 |true=>exact d l m e h
 |false=>exact j.next h e d
theorem Gz(d:TTO K E t f):TTO K E (Hf t) (d9 f):=by intro B Y O Z H ρ Q R w;exact d B Y O Z H ρ _ R (w.bind.imp λa b h i e g=>b h i e g)
def aU:FT:=λρ=>.ok (Ld,ρ)
theorem D8:TTO K E Ii aU:=λB Y O Z H ρ Q R w=>w O H .refl R
def j8(fa b:FE):FE:=λρ=>(ag fa ρ).bind λa=>if a.1=Ld then b a.2 else .ok (.fz (.bool Tx),a.2)
def Mr(fa b:FE):FE:=λρ=>(ag fa ρ).bind λa=>if a.1=Ld then .ok (.fz (.bool Ld),a.2)else b a.2
def zy(fa:FE):FE:=λρ=>(ag fa ρ).bind λa=>.ok (.fz (.bool (!a.1)),a.2)
theorem Lm(ha:EO K E ta fa)(i:EO K E tb fb):EO K E (Hy ta tb) (j8 fa fb):=by
 intro B Y O Z H ρ Q R w;refine jr ha B Y O Z H ρ (λc d=>if c=Ld then tb Z d Q else Q (.bl Tx) d) R (w.bind.imp λa e j d f g=>?_);obtain⟨b,h⟩:=a;cases b with
 |true=>exact i.next g f e
 |false=>exact e j _ d f g (.bl Tx)
theorem Oz(ha:EO K E ta fa)(i:EO K E tb fb):EO K E (Px ta tb) (Mr fa fb):=by
 intro B Y O Z H ρ Q R w;refine jr ha B Y O Z H ρ (λc d=>if c=Ld then Q (.bl Ld) d else tb Z d Q) R (w.bind.imp λa e j d f g=>?_);obtain⟨b,h⟩:=a;cases b with
 |true=>exact e j _ d f g (.bl Ld)
 |false=>exact i.next g f e
theorem IS(ha:EO K E ta fa):EO K E (HF ta) (zy fa):=by intro B Y O Z H ρ Q R w;exact jr ha B Y O Z H ρ (λc b=>Q (.bl (!c)) b) R (w.bind.imp λa d g b e f=>d g _ b e f (.bl _))
def cx(f g:D->D->cv RV)(fa e fc:FE):FE:=λρ=>(fa ρ).bind λa=>(e a.2).bind λb=>(Res.U1 (jb b.2 (dZ a.1))).bind λdx=>(Res.U1 (jb b.2 (dZ b.1))).bind λi=>
 (Res.U1 (f dx i)).bind λrv=>match rv with
  |.fz (.bool Ld)=>(fc b.2).bind λc=>(Res.U1 (jb c.2 (dZ b.1))).bind λd=>(Res.U1 (jb c.2 c.1)).bind λh=>(Res.U1 (g d h)).bind λrv=>.ok (rv.pv,c.2)
  |.fz (.bool Tx)=>.ok (.fz (.bool Tx),b.2)
  |_=>.bad
theorem Eb(hr:jY K r f)(p:jY K r' g)(ha:EO K E ta fa)(hb:EO K E tb fb)(hc:EO K E tc fc):EO K E (wQ r r' ta tb tc) (cx f g fa fb fc):=by
 intro B Y O Z H ρ Q R w;refine ha B Y O Z H ρ _ R (w.bind.imp λa J O1 x H1 F R1 p1=>?_);obtain⟨O2,C,R2,p2⟩:=jw R1 p1;refine hb B Y O2 Z H1 a.2 _ R2 (J.bind.imp λb e O3' y I q u n=>?_);obtain⟨i,e3,l,A⟩:=jw u n;have e3:=q.trans e3;have o:=p2.keep (kQ a.1) e3 (ρ':=b.2);obtain⟨dx,N,e⟩:=e.U1;obtain⟨dy,M,e⟩:=e.U1;obtain⟨rv,S,e⟩:=e.U1;refine hr i I x y dx dy rv _ l.od (gP l o N) (gP l A M) S ?_;cases rv with
 |ow ds=>exact e.elim
 |fz d=>
  intro v H' s dv;cases dv with
  |bl k=>
   refine⟨k,rfl,?_⟩;have G:=l.grow s;have e4:Ev i I i H':=Ev.grow s;cases k with
   |false=>exact e i _ H' (F.trans (C.trans (e3.trans e4))) G (.bl Tx)
   |true=>rw[ak rfl];refine hc B Y i Z H' b.2 _ G (WR.imp (WR.bind e) λc h O5 z H5 e5 j U=>?_);obtain⟨t,m,h⟩:=h.U1;obtain⟨dz,L,h⟩:=h.U1;obtain⟨rv,P,h⟩:=h.U1;refine p O5 H5 y z t dz rv Q j.od (gP j (A.keep (kQ b.1) (e4.trans e5)) m) (gP j U L) P (jg j λO6 v H6 e6 R6 T=>?_);exact h O6 v H6 (F.trans (C.trans (e3.trans (e4.trans (e5.trans e6))))) R6 T
  |_=>exact e.elim
def ae:FA:=λρ=>.ok ([],ρ)
def aa(fa:FE)(d:FA):FA:=λρ=>(fa ρ).bind λa=>(d a.2).bind λb=>.ok (dZ a.1::b.1,b.2)
theorem KW:AO K E ou ae:=λB Y O Z H ρ Q R w=>w O [] H .refl R .nil
theorem Ew(ha:EO K E ta fa)(j:AO K E tr fr):AO K E (i6 ta tr) (aa fa fr):=by intro B Y O Z H ρ Q R w;refine ha B Y O Z H ρ _ R (w.bind.imp λa f t x r l n i=>?_);obtain⟨p,k,R2,h⟩:=jw n i;refine j B Y p Z r a.2 _ R2 (f.bind.imp λb e o d q e3 m g=>?_);exact e o (x::d) q (l.trans (k.trans e3)) m (.cons ⟨h.keep (kQ a.1) e3,kQ a.1⟩ g)
def jX(ρ:aD):ck PV->cv (ck D)
 |[]=>ax []
 |p::r=>match jb ρ p with
  |some d=>(match jX ρ r with
   |some ds=>ax (d::ds)
   |none=>CL)
  |none=>CL
theorem mX(R:Rl K B Y O Z H ρ):∀{vs:ck V} {ps:ck PV} {ds:ck D},Paired (λv pv=>Yg K Y O Z H ρ v pv/\kI pv) vs ps->jX ρ ps=ax ds->Paired (DX O K H) vs ds
 |_,_,_,.nil,e=>by cases e;exact .nil
 |_,_,_,.cons (l₂:=ps) (b:=p) h t,e=>by
  unfold jX at e;cases q:jb ρ p with
  |none=>simp_all
  |some d=>
   rw[q]at e;dsimp only at e;cases q2:jX ρ ps with
   |none=>simp_all
   |some a=>rw[q2]at e;cases e;exact .cons (gP R h.1 q) (mX R t q2)
def jk(ρ:aD):ck PV->cv (ck D×aD)
 |[]=>ax ([],ρ)
 |p::r=>match se ρ p with
  |some (d,ρ1)=>(match jk ρ1 r with
   |some (ds,ρ2)=>ax (d::ds,ρ2)
   |none=>CL)
  |none=>CL
theorem kg:∀{vs:ck V} {ps:ck PV} {ds:ck D} {O:bU} {ρ ρ':aD},Rl K B Y O Z H ρ->Paired (λv pv=>Yg K Y O Z H ρ v pv/\kI pv) vs ps->jk ρ ps=ax (ds,ρ')->∃X,Ev O H X H/\Rl K B Y X Z H ρ'/\VH X K H vs ds
 |_,_,_,O,_,_,R,.nil,e=>by cases e;exact⟨O,.refl,R,.nil⟩
 |_,_,_,O,ρ,ρ',R,.cons (l₁:=vs) (l₂:=ps) (b:=p) h t,e=>by
  unfold jk at e;cases q:se ρ p with
  |none=>simp_all
  |some r=>
   obtain⟨d,a⟩:=r;rw[q]at e;dsimp only at e;cases q2:jk a ps with
   |none=>simp_all
   |some l=>obtain⟨n,j⟩:=l;rw[q2]at e;cases e;obtain⟨z,i,w,u⟩:=pG R h.1 q;have k:Paired (λv pv=>Yg K Y z Z H a v pv/\kI pv) vs ps:=Paired.afj t λv pv ⟨m,f⟩=>⟨m.keep f i,f⟩;obtain⟨y,g,R2,o⟩:=kg w k q2;exact⟨y,i.trans g,R2,.cons (u.ev g) o⟩
abbrev FN:=ck D->Res RV
def sI(K:cL)(n:Nat)(F:FN):Sp:=λvs H Q E=>vs.length=n/\∃(B:bU) (ds:ck D),(∀a,B a->H a≠CL)/\VH B K H vs ds/\WR K E B H (Fin B K H Q) (F ds)
def jU(F:FN)(n:Nat)(fa:FA):FE:=λρ=>(fa ρ).bind λa=>(Res.U1 (jk a.2 a.1)).bind λb=>if b.1.length=n then(F b.1).bind λrv=>.ok (rv.pv,b.2)else .bad
theorem Fx(ha:AO K E ta fa):EO K E (pW (sI K n F) [] E ta) (jU F n fa):=by
 intro B Y O Z H ρ Q R w;refine ha B Y O Z H ρ _ R (w.bind.imp λa f t vs u k m h=>?_);obtain⟨⟨ds,e⟩,q,b⟩:=f.U1;obtain⟨p,j,R2,d⟩:=kg m h q;dsimp only at b;by_cases hn:ds.length=n
 .rw[ak hn]at b
  rw[UQ];refine⟨d.length.trans hn,p,ds,λa z i=>R2.od a i z,d,?_⟩;cases qF:F ds with
  |bad=>rw[qF]at b;exact b.elim
  |er x=>rw[qF]at b;exact XE.from b R2.bo R2.same
  |ok rv=>rw[qF]at b;exact jg R2 λo v r e3 l g=>b o v r (k.trans (j.trans e3)) l g
 .rw[ar hn]at b;exact b.elim
def bM(fa:FA):FE:=λρ=>(fa ρ).bind λa=>(Res.U1 (jk a.2 a.1)).bind λb=>if b.1.length<=1000 then .ok (.fz (.tuple b.1),b.2)else .bad
def b7(fa:FA):FE:=λρ=>(fa ρ).bind λa=>(Res.U1 (jk a.2 a.1)).bind λb=>if b.1.length<=1000 then .ok (.ow b.1,b.2)else .bad
theorem AX(h:n<=1000):n<=T8:=UH h (by decide)
theorem L8(ha:AO K E ta fa):EO K E (GK ta) (bM fa):=by
 intro B Y O Z H ρ Q R w;refine ha B Y O Z H ρ _ R (w.bind.imp λa f p vs r j l h=>?_);obtain⟨⟨ds,e⟩,q,b⟩:=f.U1;obtain⟨o,i,R2,d⟩:=kg l h q;dsimp only at b;by_cases hn:ds.length<=1000
 .rw[ak hn]at b;refine⟨by rw[d.length];exact AX hn,Fin.adD d R2.od (jg R2 λm v n e3 k g=>b m v n (j.trans (i.trans e3)) k g)⟩
 .rw[ar hn]at b;exact b.elim
theorem KJ(ha:AO K E ta fa):EO K E (GW ta) (b7 fa):=by
 intro B Y O Z H ρ Q R w;refine ha B Y O Z H ρ _ R (w.bind.imp λa f p vs r j l h=>?_);obtain⟨⟨ds,e⟩,q,b⟩:=f.U1;obtain⟨o,i,R2,d⟩:=kg l h q;dsimp only at b;by_cases hn:ds.length<=1000
 .rw[ak hn]at b;refine⟨by rw[d.length];exact AX hn,Fin.new d (jg R2 λm v n e3 k g=>b m v n (j.trans (i.trans e3)) k g)⟩
 .rw[ar hn]at b;exact b.elim
def yg(K:cL)(r:ck V->Hp->VK->Prop)(f:ck D->cv RV):Prop:=∀(O:bU) (H:Hp) (xs:ck V) (ds:ck D) (rv:RV) (Q:VK),nZ O H->Paired (DX O K H) xs ds->f ds=ax rv->Fin O K H Q rv->r xs H Q
def b8(f:ck D->cv RV)(fa:FA):FE:=λρ=>(fa ρ).bind λa=>(Res.U1 (jX a.2 a.1)).bind λds=>(Res.U1 (f ds)).bind λrv=>.ok (rv.pv,a.2)
theorem N4(j:yg K r f)(ha:AO K E ta fa):EO K E (G2 r ta) (b8 f fa):=by intro B Y O Z H ρ Q R w;refine ha B Y O Z H ρ _ R (w.bind.imp λa e n vs p k d i=>?_);obtain⟨ds,q,b⟩:=e.U1;obtain⟨rv,g,b⟩:=b.U1;exact j n p vs ds rv Q d.od (mX d i q) g (jg d λm v o e4 l h=>b m v o (k.trans e4) l h)
def IW:D->cv Int
 |.int i=>ax i
 |_=>CL
theorem xa(h:DX O K H x d)(e:IW d=ax i):x=.int i:=by cases d<;>cases e;cases h;rfl
abbrev FO:=aD->Res (cv Int×aD)
def OI(K:cL)(E:XK)(t:TO)(f:FO):Prop:=
 ∀(B:bU) (Y:Hp) (O:bU) (Z:St) (H:Hp) (ρ:aD) (Q:cv Int->Hp->Prop),Rl K B Y O Z H ρ->WR K E B Y (λr=>∀X H',Ev O H X H'->Rl K B Y X Z H' r.2->Q r.1 H') (f ρ)->t Z H Q
def cH:FO:=λρ=>.ok (CL,ρ)
def bK(fa:FE):FO:=λρ=>(fa ρ).bind λa=>(Res.U1 (jb a.2 a.1)).bind λd=>(Res.U1 (IW d)).bind λi=>.ok (ax i,a.2)
theorem B5:OI K E yf cH:=λB Y O Z H ρ Q R w=>w O H .refl R
theorem Dp(ha:EO K E ta fa):OI K E (HS ta) (bK fa):=by intro B Y O Z H ρ Q R w;refine ha B Y O Z H ρ _ R (w.bind.imp λa f k x l j e h=>?_);obtain⟨d,q,b⟩:=f.U1;obtain⟨i,g,b⟩:=b.U1;exact⟨i,xa (gP e h q) g,b k l j e⟩
def Pv(K:cL)(r:V->cv Int->cv Int->Hp->VK->Prop)(f:D->cv Int->cv Int->cv RV):Prop:=∀(O:bU) (H:Hp) (x:V) (lo hi:cv Int) (dx:D) (rv:RV) (Q:VK),nZ O H->DX O K H x dx->f dx lo hi=ax rv->Fin O K H Q rv->r x lo hi H Q
def ke(f:D->cv Int->cv Int->cv RV)(fa:FE)(b d:FO):FE:=λρ=>(fa ρ).bind λa=>(b a.2).bind λl=>(d l.2).bind λh=>(Res.U1 (jb h.2 (dZ a.1))).bind λdx=>(Res.U1 (f dx l.1 h.1)).bind λrv=>.ok (rv.pv,h.2)
theorem O8(o:Pv K r f)(ha:EO K E ta fa)(p:OI K E tl fl)(q:OI K E th fh):EO K E (RG r ta tl th) (ke f fa fl fh):=by intro B Y O Z H ρ Q R w;refine ha B Y O Z H ρ _ R (w.bind.imp λa g P x N u A n=>?_);obtain⟨I,t,R2,m⟩:=jw A n;refine p B Y I Z N a.2 _ R2 (g.bind.imp λl e G M e3 z=>?_);refine q B Y G Z M l.2 _ z (e.bind.imp λh b F L e4 d=>?_);obtain⟨dx,i,b⟩:=b.U1;obtain⟨rv,j,b⟩:=b.U1;exact o F L x l.1 h.1 dx rv Q d.od (gP d (m.keep (kQ a.1) (e3.trans e4)) i) j (jg d λC v J e5 y k=>b C v J (u.trans (t.trans (e3.trans (e4.trans e5)))) y k)
end
theorem xY{l:ck α}(h:(l.set i x)[i]?=ax y):i<l.length:=by
 rw[U4]at h;rw[ak rfl]at h;split at h
 .assumption
 .cases h
section
variable{K:cL}{E:XK}{B O U:bU}{Z H H':Hp}{Y:St}{ρ ρ':aD}{v:V}
theorem Rl.mut{i:Nat}{ds g:ck D}{a:TM}{f:ck V}(R:Rl K B Z O Y H ρ)(hi:ρ[i]?=ax (ax (.ow ds)))(I:Y[i]?=ax (ax (.ref a)))(J:O a)(L:Z a=CL)(hd:VH O K H f g):
  Rl K B Z O Y (bz H a (.lst f)) (ρ.set i (ax (.ow g))):=by
 have ev:Ev O H O (bz H a (.lst f)):=Ev.mut J _;refine⟨λb o e=>by rw[am (bW e L)];exact R.same b o e,R.bo,R.bd,λb m=>?_,by rw[Wl];exact R.len,λj x l=>?_,λj k xs F w X T y r=>?_⟩
 .by_cases e:b=a
  .rw[e,aF]at m;cases m
  .rw[am e]at m;exact R.od b m
 .rcases dB l with⟨rfl,ee⟩|⟨X9,l⟩
  .cases ee;exact⟨_,I,a,f,rfl,J,L,aF,hd.ev ev⟩
  .obtain⟨u,G,q⟩:=R.slot j x l
   refine⟨u,G,?_⟩;cases x with
   |fz d=>exact DV.ev ev q
   |pl i=>exact q
   |ow xs=>obtain⟨b,M,rfl,S,Q,P,N⟩:=q;have C:b≠a:=λz=>X9 (R.one j i xs ds (.ref a) l hi (by rw[G,z]) I);exact⟨b,M,rfl,S,Q,by rw[am C];exact P,N.ev ev⟩
 .have own:∀{j:Nat} {xs:ck D},(ρ.set i (ax (.ow g)))[j]?=ax (ax (.ow xs))->∃F,ρ[j]?=ax (ax (.ow F)):=λ{j xs} h=>by
   rcases dB h with⟨rfl,_⟩|⟨_,h⟩
   .exact⟨_,hi⟩
   .exact⟨_,h⟩
  obtain⟨p,A⟩:=own X;obtain⟨n,t⟩:=own T;exact R.one j k p n w A t y r
theorem xL(h:n<1000000):n<T8:=Uc h (by decide)
def qN:cv (cv PV)->cv (ck D)
 |some (ax (.ow ds))=>ax ds
 |_=>CL
theorem kM(h:qN o=ax ds):o=ax (ax (.ow ds)):=by
 unfold qN at h;split at h
 .cases h;rfl
 .cases h
def iU(i:Nat)(fe:FE):FE:=λρ=>(Res.U1 (qN ρ[i]?)).bind λ_=>(fe ρ).bind λa=>(Res.U1 (se a.2 a.1)).bind λb=>(Res.U1 (qN b.2[i]?)).bind λds=>
 if ds.length<1000000 then .ok (.fz .none,b.2.set i (ax (.ow (ds++[b.1]))))else .bad
theorem Ly(q:EO K E te fe):EO K E (Ib K "list" yQ (lB i) (i6 te ou)) (iU i fe):=by
 intro B Z O Y H ρ Q R w;obtain⟨C,o,w⟩:=w.U1;obtain⟨v,j,a,vs,rfl,M,L,r,J⟩:=R.slot i _ (kM o);refine⟨_,j,.inl ⟨rfl,_,XG.of r⟩,?_⟩;refine q B Z O Y H ρ _ R (w.bind.imp λb e P y S u F p=>?_);obtain⟨⟨d,m⟩,n,e⟩:=e.U1;obtain⟨G,t,R2,A⟩:=pG F p n;obtain⟨ds,f,e⟩:=e.U1;have f:=kM f;obtain⟨I,l,N,g,z,k,k3,k4,k5⟩:=R2.slot i _ f;subst z;rw[j]at l;cases l;dsimp only at e;by_cases h:ds.length<1000000
 .rw[ak h]at e;refine⟨a,g,y,rfl,rfl,k4,xL (by rw[k5.length];exact h),?_⟩;exact e G .VX _ (u.trans (t.trans (Ev.mut k _))) (R2.mut f j k k3 (k5.append (.cons A .nil))) .VX
 .rw[ar h]at e;exact e.elim
def Ai(i:Nat)(fe:FE):FE:=λρ=>(Res.U1 (qN ρ[i]?)).bind λ_=>(fe ρ).bind λa=>(Res.U1 (jb a.2 a.1)).bind λd=>(Res.U1 (IW d)).bind λn=>(Res.U1 (qN a.2[i]?)).bind λds=>
 if -(2^63)<=n/\n<2^63 then(Res.U1 (seqIndex? n ds.length)).bind λk=>(Res.U1 ds[k]?).bind λx=>.ok (.fz x,a.2.set i (ax (.ow (ds.eraseIdx k))))else .bad
theorem JC(C:EO K E te fe):EO K E (Ib K "list" DC (lB i) (i6 te ou)) (Ai i fe):=by
 intro B Z O Y H ρ Q R w;obtain⟨M,t,w⟩:=w.U1;obtain⟨v,j,a,vs,rfl,X,T,F,S⟩:=R.slot i _ (kM t);refine⟨_,j,.inl ⟨rfl,_,XG.of F⟩,?_⟩;refine C B Z O Y H ρ _ R (w.bind.imp λb e N y H1 I l z=>?_);obtain⟨d,r,e⟩:=e.U1;obtain⟨n,p,e⟩:=e.U1;obtain⟨ds,f,e⟩:=e.U1;have f:=kM f;have G:=xa (gP l z r) p;subst G;obtain⟨P,m,a',g,J,h,k3,k4,k5⟩:=l.slot i _ f;subst J;rw[j]at m;cases m;by_cases hn: -(2^63)<=n/\n<2^63
 .rw[ak hn]at e;obtain⟨k,q,e⟩:=e.U1;obtain⟨x,o,e⟩:=e.U1;obtain⟨u,A,L⟩:=k5.get o;refine⟨a,g,n,k,u,rfl,rfl,k4,hn.1,hn.2,by rw[k5.length];exact q,A,?_⟩;exact e N u _ (I.trans (Ev.mut h _)) (l.mut f j h k3 (k5.erase k)) (L.ev (Ev.mut h _))
 .rw[ar hn]at e;exact e.elim
abbrev FG:=PV->aD->Res aD
abbrev Mu:=ck D->aD->Res aD
def GO(K:cL)(E:XK)(g:TG)(f:FG):Prop:=
 ∀(B:bU) (Z:Hp) (O:bU) (Y:St) (H:Hp) (ρ:aD) (v:V) (pv:PV) (Q:St->Hp->Prop),Rl K B Z O Y H ρ->Yg K Z O Y H ρ v pv->WR K E B Z (λρ'=>∀U σ' H',Ev O H U H'->Rl K B Z U σ' H' ρ'->Q σ' H') (f pv ρ)->g v Y H Q
def Ol(K:cL)(E:XK)(g:zO)(f:Mu):Prop:=
 ∀(B:bU) (Z:Hp) (O:bU) (Y:St) (H:Hp) (ρ:aD) (vs:ck V) (ds:ck D) (Q:St->Hp->Prop),Rl K B Z O Y H ρ->VH O K H vs ds->WR K E B Z (λρ'=>∀U σ' H',Ev O H U H'->Rl K B Z U σ' H' ρ'->Q σ' H') (f ds ρ)->g vs Y H Q
theorem Rl.agX(R:Rl K B Z O Y H ρ)(h:DV O K H v d):Rl K B Z O (Y.set i (ax v)) H (ρ.set i (ax (.fz d))):=by
 refine⟨R.same,R.bo,R.bd,R.od,by rw[Wl,Wl];exact R.len,λj x f=>?_,λj k xs n w l g b a=>?_⟩
 .rcases dB f with⟨rfl,e⟩|⟨t,f⟩
  .cases e;have:=xY f;exact⟨v,by rw[U4,ak rfl,ak (by rw[R.len];exact this)],h⟩
  .obtain⟨u,r,q⟩:=R.slot j x f;exact⟨u,by rw[U4,ar (λz=>t z.symm)];exact r,q⟩
 .rcases dB l with⟨rfl,m⟩|⟨p,l⟩
  .cases m
  .rcases dB g with⟨rfl,m⟩|⟨o,g⟩
   .cases m
   .rw[U4,ar (λz=>p z.symm)]at b;rw[U4,ar (λz=>o z.symm)]at a;exact R.one j k xs n w l g b a
theorem Rl.ajr(R:Rl K B Z O Y H ρ)(h:Yg K Z O Y H ρ v (.ow ds)):Rl K B Z O (Y.set i (ax v)) H (ρ.set i (ax (.ow ds))):=by
 obtain⟨a,vs,rfl,G,F,C,A,o⟩:=h;refine⟨R.same,R.bo,R.bd,R.od,by rw[Wl,Wl];exact R.len,λj x l=>?_,λj k xs n w y g d b=>?_⟩
 .rcases dB l with⟨rfl,e⟩|⟨L,l⟩
  .cases e;have:=xY l;exact⟨.ref a,by rw[U4,ak rfl,ak (by rw[R.len];exact this)],a,vs,rfl,G,F,C,A⟩
  .obtain⟨u,r,q⟩:=R.slot j x l;exact⟨u,by rw[U4,ar (λz=>L z.symm)];exact r,q⟩
 .rcases dB y with⟨rfl,J⟩|⟨p,f⟩
  .rcases dB g with⟨rfl,I⟩|⟨m,g⟩
   .rfl
   .rw[U4,ar (λz=>m z.symm)]at b
    rcases dB d with⟨_,e⟩|⟨z,_⟩
    .cases e;exact a7 b (o k n g)
    .exact a7 rfl z
  .have t:=f
   rw[U4,ar (λz=>p z.symm)]at d;rcases dB g with⟨rfl,J⟩|⟨m,g⟩
   .rcases dB b with⟨_,e⟩|⟨z,_⟩
    .cases e;exact a7 d (o j xs f)
    .exact a7 rfl z
   .rw[U4,ar (λz=>m z.symm)]at b;exact R.one j k xs n w f g d b
def gN(i:Nat):FG:=λpv ρ=>match pv with
 |.ow ds=>.ok (ρ.set i (ax (.ow ds)))
 |.fz d=>.ok (ρ.set i (ax (.fz d)))
 |.pl j=>(Res.U1 (se ρ (.pl j))).bind λb=>.ok (b.2.set i (ax (.fz b.1)))
theorem sF:GO K E (oa i) (gN i):=by
 intro B Z O Y H ρ v pv Q R p w;cases pv with
 |ow ds=>exact w O _ H .refl (R.ajr p)
 |fz d=>exact w O _ H .refl (R.agX p)
 |pl j=>obtain⟨⟨d,a⟩,q,w⟩:=WR.U1 (show WR K E B Z _ ((Res.U1 (se ρ (.pl j))).bind λb=>.ok (b.2.set i (ax (.fz b.1))))from w);obtain⟨g,e,R2,f⟩:=pG R p q;exact w g _ H e (R2.agX f)
def wu:Mu:=λds ρ=>match ds with
 |[]=>.ok ρ
 |_=>.bad
def l9(f:FG)(g:Mu):Mu:=λds ρ=>match ds with
 |[]=>.bad
 |d::r=>(f (.fz d) ρ).bind λa=>g r a
theorem Jo:Ol K E KB wu:=by
 intro B Z O Y H ρ vs ds Q R a w;cases a with
 |nil=>exact⟨rfl,w O Y H .refl R⟩
 |cons _ _=>exact w.elim
theorem EX(n:GO K E t f)(m:Ol K E u g):Ol K E (D7 t u) (l9 f g):=by
 intro B Z O Y H ρ vs ds Q R p w;cases p with
 |nil=>exact w.elim
 |cons l k=>rename_i v vs d ds;refine⟨_,_,rfl,n B Z O Y H ρ _ (.fz d) _ R l (WR.imp (WR.bind w) λe j z b C h r=>?_)⟩;exact m B Z z b C e _ _ Q r (k.ev h) (j.imp λi q y a A o R2=>q y a A (h.trans o) R2)
def RA:D->cv (ck D)
 |.tuple ds=>ax ds
 |_=>CL
theorem Cy(h:DX O K H x d)(e:RA d=ax ds):∃a xs,x=.ref a/\Yw O K H a xs/\VH O K H xs ds:=by
 cases d<;>cases e;cases h with
 |tup h b=>exact⟨_,_,rfl,h,b⟩
def gT(n:Nat)(f:Mu):FG:=λpv ρ=>(Res.U1 (jb ρ pv)).bind λd=>(Res.U1 (RA d)).bind λds=>if ds.length=n then f ds ρ else .bad
theorem Lh(h:Ol K E t f):GO K E (Kk K n t) (gT n f):=by
 intro B Z O Y H ρ v pv Q R p w;obtain⟨d,g,w⟩:=w.U1;obtain⟨ds,e,w⟩:=w.U1;obtain⟨a,xs,rfl,i,b⟩:=Cy (gP R p g) e;by_cases hn:ds.length=n
 .rw[ak hn]at w;exact⟨a,xs,rfl,i.1,b.length.trans hn,h B Z O Y H ρ xs ds Q R b w⟩
 .rw[ar hn]at w;exact w.elim
inductive Fl where
 |nx (ρ:aD)
 |rt (rv:RV)
 |bk (ρ:aD)
 |ct (ρ:aD)
abbrev FS:=aD->Res Fl
def acL(K:cL)(B:bU)(Z:Hp)(O:bU)(H:Hp)(D:Ends):Fl->Prop
 |.nx ρ'=>∀U σ' H',Ev O H U H'->Rl K B Z U σ' H' ρ'->D.nx σ' H'
 |.bk ρ'=>∀U σ' H',Ev O H U H'->Rl K B Z U σ' H' ρ'->D.bk σ' H'
 |.ct ρ'=>∀U σ' H',Ev O H U H'->Rl K B Z U σ' H' ρ'->D.ct σ' H'
 |.rt rv=>Fin B K Z D.rt rv
def SO(K:cL)(E:XK)(t:TS)(g:FS):Prop:=
 ∀(B:bU) (Z:Hp) (O:bU) (Y:St) (H:Hp) (ρ:aD) (D:Ends),Rl K B Z O Y H ρ->WR K E B Z (acL K B Z O H D) (g ρ)->t D Y H
theorem acL.ev{D:Ends}(e:Ev O H O1 H1)(h:acL K B Z O H D fl):acL K B Z O1 H1 D fl:=by
 cases fl with
 |nx ρ'=>exact λU a H' b d=>h U a H' (e.trans b) d
 |bk ρ'=>exact λU a H' b d=>h U a H' (e.trans b) d
 |ct ρ'=>exact λU a H' b d=>h U a H' (e.trans b) d
 |rt rv=>exact h
def aC:FS:=λρ=>.ok (.nx ρ)
def aj(f g:FS):FS:=λρ=>(f ρ).bind λa=>match a with
 |.nx ρ1=>g ρ1
 |a=>.ok a
def cj(f:FE):FS:=λρ=>(f ρ).bind λa=>.ok (.nx a.2)
def aN(f:FE)(g:FG):FS:=λρ=>(f ρ).bind λa=>(g a.1 a.2).bind λb=>.ok (.nx b)
def ce(c:FT)(f g:FS):FS:=λρ=>(c ρ).bind λa=>if a.1=Ld then f a.2 else g a.2
def zB(ρ:aD):PV->cv RV
 |.fz d=>ax (.fz d)
 |.ow ds=>ax (.ow ds)
 |.pl i=>match ρ[i]? with
  |some (ax (.fz d))=>ax (.fz d)
  |some (ax (.ow ds))=>ax (.ow ds)
  |_=>CL
def aL(f:FE):FS:=λρ=>(f ρ).bind λa=>(Res.U1 (zB a.2 a.1)).bind λrv=>.ok (.rt rv)
theorem GY:SO K E Cd aC:=λB Z O Y H ρ D R w=>w O Y H .refl R
theorem IR(i:SO K E t f)(h:SO K E u g):SO K E (Eo t u) (aj f g):=by
 intro B Z O Y H ρ D R w;refine i B Z O Y H ρ {D with nx:=u D} R (WR.imp (WR.bind w) λe b=>?_);cases e with
 |nx a=>exact λl d m j k=>h B Z l d m a D k (WR.imp b λe q=>q.ev j)
 |rt rv=>exact b
 |bk a=>exact b
 |ct a=>exact b
theorem F0(h:EO K E t f):SO K E (xK t) (cj f):=by intro B Z O Y H ρ D R w;exact h B Z O Y H ρ _ R (w.bind.imp λa b g x i d e j=>b g Y i d e)
theorem wO(h:EO K E t f)(k:GO K E g fg):SO K E (uQ t g) (aN f fg):=by intro B Z O Y H ρ D R w;refine h B Z O Y H ρ _ R (w.bind.imp λa i p x r m n j=>?_);exact k B Z p Y r a.2 x a.1 _ n j (i.bind.imp λd e o b q l R2=>e o b q (m.trans l) R2)
theorem NX(l:TTO K E c fc)(n:SO K E t f)(m:SO K E u g):SO K E (Fm c t u) (ce fc f g):=by
 intro B Z O Y H ρ D R w;refine l B Z O Y H ρ _ R (w.bind.imp λa e j k h i=>?_);obtain⟨b,d⟩:=a;cases b with
 |true=>exact n B Z j Y k d D i (WR.imp e λo q=>q.ev h)
 |false=>exact m B Z j Y k d D i (WR.imp e λo q=>q.ev h)
theorem L7{pv:PV}(R:Rl K B Z O Y H ρ)(p:Yg K Z O Y H ρ v pv)(e:zB ρ pv=ax rv)(w:Fin B K Z Q rv):Q v H:=by
 have ow:∀{a:TM} {vs:ck V} {ds:ck D},O a->Z a=CL->H a=ax (.lst vs)->VH O K H vs ds->Fin B K Z Q (.ow ds)->Q (.ref a) H:=λ{a vs ds} l k g f w=>
  w a vs H R.same k g (f.ev (Ev.sub λb z=>z.elim (R.bo b) λe=>by simp_all))
 have fz:∀{d:D},DV O K H v d->Fin B K Z Q (.fz d)->Q v H:=λ{d} h w=>w v H R.same (h.ev (Ev.sub R.bo));cases pv with
 |fz d=>cases e;exact fz p w
 |ow ds=>cases e;obtain⟨a,vs,rfl,l,k,g,f,t⟩:=p;exact ow l k g f w
 |pl i=>
  have r:=p;unfold zB at e;dsimp only at e;cases q:ρ[i]? with
  |none=>simp_all
  |some o=>
   cases o with
   |none=>simp_all
   |some x=>
    obtain⟨u,n,m⟩:=R.slot i x q;rw[r]at n;cases n;rw[q]at e;cases x with
    |fz d=>cases e;exact fz m w
    |ow ds=>cases e;obtain⟨a,vs,rfl,l,k,g,f⟩:=m;exact ow l k g f w
    |pl j=>exact m.elim
theorem IV(h:EO K E t f):SO K E (FB t) (aL f):=by intro B Z O Y H ρ D R w;refine h B Z O Y H ρ _ R (w.bind.imp λa b i x j g e d=>?_);obtain⟨rv,q,b⟩:=b.U1;exact L7 e d q b
def sJ(K:cL)(J:It)(O:bU)(H:Hp)(ds:ck D):Prop:=∀U H',Ev O H U H'->nZ U H'->
 (∀i,i<ds.length->J.go i H'/\∀x H'',J.yld i H' x H''->Vl H' H''/\∃d,ds[i]?=ax d/\DV U K H'' x d)/\J.stop ds.length H'
abbrev FI:=aD->Res (ck D×aD)
def IO(K:cL)(E:XK)(b:TI)(d:FI):Prop:=
 ∀(B:bU) (Z:Hp) (O:bU) (Y:St) (H:Hp) (ρ:aD) (a:It->Hp->Prop),Rl K B Z O Y H ρ->WR K E B Z (λr=>∀U J H',Ev O H U H'->Rl K B Z U Y H' r.2->sJ K J U H' r.1->a J H') (d ρ)->b Y H a
def ot(gt:FG)(b:FS):ck D->FS
 |[],ρ=>.ok (.nx ρ)
 |d::r,ρ=>(gt (.fz d) ρ).bind λa=>(b a).bind λe=>match e with
  |.nx ρ2=>ot gt b r ρ2
  |.ct ρ2=>ot gt b r ρ2
  |.bk ρ2=>.ok (.nx ρ2)
  |.rt rv=>.ok (.rt rv)
def hG(d:FI)(gt:FG)(b:FS):FS:=λρ=>(d ρ).bind λa=>ot gt b a.1 a.2
theorem K0(hi:IO K E wi fi)(X:GO K E g gt)(hb:SO K E tb b):SO K E (KG wi g tb) (hG fi gt b):=by
 intro B Z O Y H ρ D R w;refine hi B Z O Y H ρ _ R (w.bind.imp λa L C J S P Q N=>?_);obtain⟨ds,A⟩:=a;dsimp only at L N Q;refine⟨λi m f H'=>m=ds.length - i/\i<=ds.length/\∃O2 ρ2,Ev C S O2 H'/\Rl K B Z O2 f H' ρ2/\WR K E B Z (acL K B Z O H D) (ot gt b (ds.drop i) ρ2),⟨_,rfl,Vd _,C,A,.refl,Q,L⟩,?_⟩;rintro i m l I ⟨rfl,hi,O2,ρ2,e2,R2,w2⟩;obtain⟨go,n⟩:=N O2 I e2 R2.od;by_cases t:i<ds.length
 .obtain⟨g1,g2⟩:=go i t
  refine .inr ⟨g1,λf H'=>i+1<=ds.length/\∃O2 ρ2,Ev C S O2 H'/\Rl K B Z O2 f H' ρ2/\WR K E B Z (acL K B Z O H D) (ot gt b (ds.drop (i+1)) ρ2),λf H' ⟨h1,h2⟩=>⟨ds.length - (i+1),by ext,rfl,h1,h2⟩,λx G y=>?_⟩;obtain⟨M,d,hd,dv⟩:=g2 x G y;have ed:ds.drop i=d::ds.drop (i+1):=by obtain⟨_,q⟩:=TN.mp hd;rw[XO t,q]
  rw[ed]at w2;have e3:Ev O2 I O2 G:=Ev.grow M;refine X B Z O2 l G ρ2 x (.fz d) _ (R2.grow M) dv (WR.imp (WR.bind w2) λz T O4 u H4 e4 R4=>?_);have k:=e2.trans (e3.trans e4);refine hb B Z O4 u H4 z _ R4 (WR.imp (WR.bind T) λfl r=>?_);cases fl with
  |nx h=>exact λp j F e5 o=>⟨t,p,h,k.trans e5,o,r⟩
  |ct h=>exact λp j F e5 o=>⟨t,p,h,k.trans e5,o,r⟩
  |bk h=>exact λp j F e5 o=>r p j F (P.trans (k.trans e5)) o
  |rt rv=>exact r
 .have e:i=ds.length:=by ext
  subst e;rw[VR (TQ _)]at w2;exact .inl ⟨n,w2 O2 l I (P.trans e2) R2⟩
def ef:D->cv (ck D)
 |.tuple ds=>ax ds
 |.list ds=>ax ds
 |_=>CL
def Dn(K:cL)(d:TE):TI:=λY H R=>d Y H λx b=>∃a,x=.ref a/\(((∃xs,XG K b a xs)/\R (P7 K a) b)\/((∃xs,XA K b a xs)/\R (QU K a) b))
theorem Bz(u:PE X l tl):PI X tg l (Dn X.K tl):=by
 intro g s Y H R I h;refine c9 (u g s Y H _ I h) λv f ⟨x,m,d,n,r⟩=>?_;obtain⟨a,e,q⟩:=r;subst e;cases n;rcases q with⟨⟨xs,i⟩,q⟩|⟨⟨xs,i⟩,q⟩
 .obtain⟨k,rv,p,t⟩:=d.list i
  refine Y8 p.isList ?_;refine⟨f.heap.objs.size,[f.heap.objs.size],_,_,m,rfl,d.kept λb o e=>cM _ e,zY a _,⟨_,c6 _ rfl,rfl,rfl⟩,λb j=>?_,q⟩;have e:b=f.heap.objs.size:=by simpa using j
  subst e;exact d.aaB (TQ _) (d.Vp.fresh (TQ _))
 .obtain⟨k,rv,p,t⟩:=d.tuple i
  refine Wd (show f.heap.IsTuple a k.toArray from p) ?_;refine⟨f.heap.objs.size,[f.heap.objs.size],_,_,m,rfl,d.kept λb o e=>cM _ e,xk a _,⟨_,c6 _ rfl,rfl,rfl⟩,λb j=>?_,q⟩;have e:b=f.heap.objs.size:=by simpa using j
  subst e;exact d.aaB (TQ _) (d.Vp.fresh (TQ _))
theorem EU(h:Zg O K H a xs)(hd:VH O K H xs ds):sJ K (P7 K a) O H ds:=by intro U H' e n;have b:=h.ev e;have f:=hd.ev e;refine⟨λi hi=>?_,⟨xs,b.1.sq,by rw[hd.length];exact TQ _⟩⟩;obtain⟨x,k,_⟩:=f.get (TF hi);refine⟨⟨xs,x,b.1.sq,k⟩,?_⟩;rintro y l ⟨rfl,hy⟩;obtain⟨d,j,g⟩:=f.adS (hy xs b.1.sq);exact⟨Vl.refl _,d,j,g⟩
theorem Kx(h:Yw O K H a xs)(hd:VH O K H xs ds):sJ K (QU K a) O H ds:=by intro U H' e n;have b:=h.ev e;have f:=hd.ev e;refine⟨λi hi=>?_,⟨xs,b.1,by rw[hd.length];exact TQ _⟩⟩;obtain⟨x,k,_⟩:=f.get (TF hi);refine⟨⟨xs,x,b.1,k⟩,?_⟩;rintro y l ⟨rfl,hy⟩;obtain⟨d,j,g⟩:=f.adS (hy xs b.1);exact⟨Vl.refl _,d,j,g⟩
def hW(fe:FE):FI:=λρ=>(fe ρ).bind λa=>(Res.U1 (se a.2 a.1)).bind λb=>(Res.U1 (ef b.1)).bind λds=>.ok (ds,b.2)
theorem Ki(h:EO K E tl fe):IO K E (Dn K tl) (hW fe):=by
 intro B Z O Y H ρ p R w;refine h B Z O Y H ρ _ R (w.bind.imp λa b r x k i o m=>?_);obtain⟨⟨d,l⟩,q,b⟩:=b.U1;obtain⟨j,g,R2,n⟩:=pG o m q;obtain⟨ds,e,b⟩:=b.U1;dsimp only at e;cases n with
 |tup h f=>cases e;exact⟨_,rfl,.inr ⟨⟨_,h.1⟩,b j _ k (i.trans g) R2 (Kx h f)⟩⟩
 |lst h f=>cases e;exact⟨_,rfl,.inl ⟨⟨_,h.1.sq⟩,b j _ k (i.trans g) R2 (EU h f)⟩⟩
 |_=>cases e
def gR(lo:Int)(n:Nat):ck D:=(Uo n).map λ(k:Nat)=>.int (lo+(k:Int))
theorem D6:sJ K (P2 lo n) O H (gR lo n):=by
 intro U H' e d;have a:(gR lo n).length=n:=by unfold gR;simp_all
 refine⟨λi hi=>?_,by show n<=_;rw[a];exact TQ _⟩;rw[a]at hi;refine⟨hi,?_⟩;rintro x b ⟨rfl,rfl⟩;exact⟨Vl.refl _,.int (lo+i),by unfold gR;simp_all,.int _⟩
def jB(i:Int):Prop:= -(2^62)<=i/\i<2^62
noncomputable instance(i:Int):Decidable (jB i):=by unfold jB;infer_instance
def d8:ck D->cv (ck D)
 |[.int j]=>if jB j then ax (gR 0 j.toNat)else CL
 |_=>CL
def hV(f:ck D->cv (ck D))(fa:FA):FI:=λρ=>(fa ρ).bind λa=>(Res.U1 (jX a.2 a.1)).bind λds=>(Res.U1 (f ds)).bind λxs=>.ok (xs,a.2)
theorem G6(h:AO K E ta fa):IO K E (Ht ta) (hV d8 fa):=by
 intro B Z O Y H ρ p R w;refine h B Z O Y H ρ _ R (w.bind.imp λa d n vs o m f i=>?_);obtain⟨ds,q,d⟩:=d.U1;obtain⟨xs,b,d⟩:=d.U1;have g:=mX f i q;unfold d8 at b;split at b
 .rename_i j
  split at b
  .rename_i e
   cases b;cases g with
   |cons l k=>cases k;cases l;exact⟨j,rfl,e.1,e.2,d n _ o m f D6⟩
  .cases b
 .cases b
end
section
variable{K:cL}{E:XK}{B O Y:bU}{X H H':Hp}{Z:St}{ρ ρ':aD}{v:V}
def rq:cv PV->cv PV
 |some (.fz d)=>ax (.fz d)
 |_=>CL
def bX(ρ:aD):aD:=ρ.map rq
theorem v7{i:Nat}(h:(bX ρ)[i]?=ax (ax x)):∃d,x=.fz d/\ρ[i]?=ax (ax (.fz d)):=by
 unfold bX at h;rw[TU]at h;cases q:ρ[i]? with
 |none=>simp_all
 |some o=>
  rw[q]at h;have a:=Us h;unfold rq at a;split at a
  .cases a;exact⟨_,rfl,rfl⟩
  .cases a
def rQ(ρ:aD):ck Nat->cv (ck D×aD)
 |[]=>ax ([],ρ)
 |j::r=>match se ρ (.pl j)with
  |some (d,ρ1)=>(match rQ ρ1 r with
   |some (c,ρ2)=>ax (d::c,ρ2)
   |none=>CL)
  |none=>CL
theorem zG(R:Rl K B X O Z H ρ)(h:se ρ (.pl i)=ax (d,ρ')):∃v,Z[i]?=ax (ax v):=by
 have a:toS ρ i ρ[i]?=ax (d,ρ'):=h;cases q:ρ[i]? with
 |none=>rw[q]at a;cases a
 |some o=>
  cases o with
  |none=>rw[q]at a;cases a
  |some x=>obtain⟨v,b,_⟩:=R.slot i x q;exact⟨v,b⟩
theorem vB:∀{b:ck Nat} {ds:ck D} {O:bU} {ρ ρ':aD},Rl K B X O Z H ρ->rQ ρ b=ax (ds,ρ')->∃Y vs,Ev O H Y H/\Rl K B X Y Z H ρ'/\VH Y K H vs ds/\b.map (λj=>(Z[j]?).join)=vs.map ax
 |[],_,O,_,_,R,e=>by cases e;exact⟨O,[],.refl,R,.nil,rfl⟩
 |j::r,_,O,ρ,ρ',R,e=>by
  unfold rQ at e;cases q:se ρ (.pl j)with
  |none=>simp_all
  |some p=>
   obtain⟨d,a⟩:=p;rw[q]at e;dsimp only at e;cases q2:rQ a r with
   |none=>simp_all
   |some h=>obtain⟨c,g⟩:=h;rw[q2]at e;cases e;obtain⟨v,i⟩:=zG R q;obtain⟨u,k,n,m⟩:=pG (pv:=.pl j) R i q;obtain⟨o,vs,f,R2,l,t⟩:=vB n q2;exact⟨o,v::vs,k.trans f,R2,.cons (m.ev f) l,by simp_all⟩
def cf(gt:FG)(ft:FT)(fe:FE):ck D->aD->ck D->Res (ck D)
 |[],_,acc=>.ok acc
 |d::r,ρ,acc=>(gt (.fz d) ρ).bind λe=>(ft e).bind λb=>if b.1=Ld then(fe b.2).bind λa=>(Res.U1 (se a.2 a.1)).bind λx=>
   if acc.length<1000000 then cf gt ft fe r (bX x.2) (acc++[x.1])else .bad
  else cf gt ft fe r (bX b.2) acc
def g9:Res α->Res α
 |.er _=>.bad
 |r=>r
def bE(n:Nat)(b:ck Nat)(e:FI)(gt:FG)(ft:FT)(fe:FE):FE:=λρ=>(e ρ).bind λa=>(Res.U1 (rQ a.2 b)).bind λc=>
 (g9 (cf gt ft fe a.1 (T1 n CL++c.1.map λd=>ax (.fz d)) [])).bind λxs=>.ok (.ow xs,c.2)
theorem GI{own:ck Str}(h:own.length=n):own.map (λ_=>(CL:cv V))=T1 n CL:=by
 subst h
 induction own with
 |nil=>rfl
 |cons x r a=>grind
theorem xF(h:WR K E B X P (g9 r)):∃a,r=.ok a/\P a:=by
 cases r with
 |ok a=>exact⟨a,rfl,h⟩
 |er x=>exact h.elim
 |bad=>exact h.elim
def Nl(K:cL)(J:It)(O:bU)(H:Hp)(ds:ck D):Prop:=∀Y H',Ev O H Y H'->Vl H H'->nZ Y H'->
 (∀i,i<ds.length->J.go i H'/\∀x H'',J.yld i H' x H''->Vl H' H''/\∃d,ds[i]?=ax d/\DV Y K H'' x d)/\J.stop ds.length H'
def P3(K:cL)(E:XK)(b:TI)(d:FI):Prop:=
 ∀(B:bU) (X:Hp) (O:bU) (Z:St) (H:Hp) (ρ:aD) (a:It->Hp->Prop),Rl K B X O Z H ρ->WR K E B X (λr=>∀Y J H',Ev O H Y H'->Rl K B X Y Z H' r.2->Nl K J Y H' r.1->a J H') (d ρ)->b Z H a
theorem IO.s(h:IO K E wi fi):P3 K E wi fi:=λB X O Z H ρ d R w=>h B X O Z H ρ d R (w.imp λr q Y J H' e R a=>q Y J H' e R λf g b _ n=>a f g b n)
theorem uV(hn:own.length=n)(hf:fv.map (·.2)=fj)
  (hi:P3 K E wi fi) (hg:GO K E0 g gt) (ht:TTO K E0 tc ft) (he:EO K E0 te fe):EO K E (vM own fv wi g tc te) (bE n fj fi gt ft fe):=by
 intro B X O Z H ρ Q R w;refine hi B X O Z H ρ _ R (w.bind.imp λa w1 O1 J H1 e1 R1 it=>?_);obtain⟨ds,ρ1⟩:=a;obtain⟨⟨cs,ρ2⟩,qc,w1⟩:=w1.U1;dsimp only at qc it;obtain⟨I,vs,e2,R2,dvs,hvs⟩:=vB R1 qc;obtain⟨xs,qx,w1⟩:=xF (WR.bind w1);intro l F;have hB:∀{H':Hp},Vl H1 H'->H' l≠CL->∀a,kh I l a->H' a≠CL:=λ{H'} s nd a h z=>h.elim (λq=>R2.od a (s.free z) q) λe=>nd (by rw[<-e];exact z);refine⟨λi m L H'=>m=ds.length - i/\i<=ds.length/\∃(A:ck D) (G:ck V) (t:aD),Vl H1 H'/\H' l=ax (.lst G)/\VH (kh I l) K H' G A/\L.length=t.length/\(∀(j:Nat) (x:PV),t[j]?=ax (ax x)->∃d u,x=PV.fz d/\L[j]?=ax (ax u)/\DV (kh I l) K H' u d)/\cf gt ft fe (ds.drop i) t A=.ok xs,
  ⟨_,rfl,Vd _,[],[],_,aV F _,aF,.nil,?_,λj x M=>?_,qx⟩,?_⟩
 .unfold nb
  rw[T4,T4,Tv,Tv,Wq,Tv,hn,<-dvs.length];have:=ey ab4 hvs
  grind
 .have hm:fv.map (λp=>(Z[p.2]?).join)=vs.map ax:=by rw[<-hvs,<-hf,Uz];rfl
  unfold nb;rw[GI hn,hm];by_cases hj:j<n
  .rw[Vc (by rw[Wq];exact hj),WV,ak hj]at M;cases M
  .rw[Vr (by rw[Wq];ext),Wq,TU]at M⊢
   cases qd:cs[j - n]? with
   |none=>rw[qd]at M;cases M
   |some d=>rw[qd]at M;cases M;obtain⟨u,hu,du⟩:=dvs.get qd;exact⟨d,u,rfl,by rw[hu];rfl,du.ev (Ev.add (aV F _) F)⟩
 .rintro i m L H' ⟨rfl,hi,A,G,t,s,hD,dys,hl,hsl,f⟩
  have nD:H' l≠CL:=by rw[hD];simp
  have no':=λa z h=>hB s nD a h z;have ev1:=e2.trans (Ev.add s F);obtain⟨go,stop⟩:=it (kh I l) H' ev1 s no';by_cases Zw:i<ds.length
  .obtain⟨g1,g2⟩:=go i Zw
   refine .inr ⟨g1,λC N=>i+1<=ds.length/\∃(A:ck D) (G:ck V) (t:aD),Vl H1 N/\N l=ax (.lst G)/\VH (kh I l) K N G A/\C.length=t.length/\(∀(j:Nat) (x:PV),t[j]?=ax (ax x)->∃d u,x=PV.fz d/\C[j]?=ax (ax u)/\DV (kh I l) K N u d)/\cf gt ft fe (ds.drop (i+1)) t A=.ok xs,
    λC N ⟨U,h2⟩=>⟨ds.length - (i+1),by ext,rfl,U,h2⟩,λx H3 y=>?_⟩
   obtain⟨s3,d,hd,dv⟩:=g2 x H3 y;have ed:ds.drop i=d::ds.drop (i+1):=by obtain⟨_,q⟩:=TN.mp hd;rw[XO Zw,q]
   rw[ed]at f;have hD3:=s3 _ _ hD;have nD3:H3 l≠CL:=by rw[hD3];simp
   have sv:=s.trans s3;have RC:Rl K (kh I l) H3 (kh I l) L H3 t:=⟨Vl.refl _,λ_ h=>h,hB sv nD3,λa z h=>hB sv nD3 a h z,hl,λj x M=>by obtain⟨d,u,rfl,U,h2⟩:=hsl j x M;exact⟨u,U,h2.ev (Ev.grow s3)⟩,λj k xs G w hj=>by obtain⟨d,u,e,_⟩:=hsl j _ hj;cases e⟩;unfold cf at f;have back:∀{O5:bU} {C:St} {N:Hp} {P:aD} {H6:Hp},Rl K (kh I l) H3 O5 C N P->(∀b o,b≠l->N b=ax o->H6 b=ax o)->C.length=(bX P).length/\∀(j:Nat) (x:PV),(bX P)[j]?=ax (ax x)->∃d u,x=PV.fz d/\C[j]?=ax (ax u)/\DV (kh I l) K H6 u d:=λ{O5 C N P H6} T k=>by refine⟨by unfold bX;rw[Tv];exact T.len,λj x M=>?_⟩;obtain⟨d,rfl,hxx⟩:=v7 M;obtain⟨u,U,h2⟩:=T.slot j _ hxx;refine⟨d,u,rfl,U,DV.ev (λb o h n=>⟨k b o (λe=>n (.inr e)) h,n⟩) (DV.ev (Ev.sub T.bo) h2)⟩
   refine hg _ _ _ L H3 t x (.fz d) _ RC dv ?_;cases qg:gt (.fz d) t with
   |er z=>rw[qg]at f;cases f
   |bad=>rw[qg]at f;cases f
   |ok ρ3=>
    rw[qg,fo]at f;intro O4 σ4 H4 e4 R4;refine ht _ _ _ σ4 H4 ρ3 _ R4 ?_;cases qt:ft ρ3 with
    |er z=>rw[qt]at f;cases f
    |bad=>rw[qt]at f;cases f
    |ok b=>
     obtain⟨b,ρ4⟩:=b;rw[qt,fo]at f;intro O5 N e5 T;cases b with
     |false=>rw[ar Tz]at f⊢;obtain⟨l5,k5⟩:=back T λb o _ h=>h;refine⟨Zw,A,G,bX ρ4,sv.trans T.same,T.same _ _ hD3,?_,l5,k5,f⟩;exact dys.ev (Ev.grow (s3.trans T.same))
     |true=>
      rw[ak rfl]at f⊢;refine he _ _ _ σ4 N ρ4 _ T ?_;cases qe:fe ρ4 with
      |er z=>rw[qe]at f;cases f
      |bad=>rw[qe]at f;cases f
      |ok r=>
       rw[qe,fo]at f;intro O6 yv H6 e6 R6 p6;cases q7:se r.2 r.1 with
       |none=>rw[q7]at f;cases f
       |some xr=>
        obtain⟨xd,ρ7⟩:=xr;rw[q7]at f;obtain⟨O7,e7,R7,dv7⟩:=pG R6 p6 q7;have hD7:=R7.same _ _ hD3;have S:(if A.length<1000000 then cf gt ft fe (ds.drop (i+1)) (bX ρ7) (A++[xd])else .bad)=.ok xs:=f;by_cases hl6:A.length<1000000
        .rw[ak hl6]at S
         have up:∀b o,b≠l->H6 b=ax o->bz H6 l (.lst (G++[yv])) b=ax o:=λb o hb h=>by rw[am hb];exact h
         have evD:Ev (kh I l) H6 (kh I l) (bz H6 l (.lst (G++[yv]))):=λb o h n=>⟨up b o (λe=>n (.inr e)) h,n⟩;have ai0:=dys.ev (Ev.grow (s3.trans R7.same));obtain⟨l5,k5⟩:=back R7 up;refine⟨G,hD7,xL (by rw[dys.length];exact hl6),Zw,A++[xd],G++[yv],bX ρ7,λb o h=>?_,aF,?_,l5,k5,S⟩
         .rw[am (bW h F)];exact R7.same _ _ (sv _ _ h)
         .exact(ai0.append (.cons (DV.ev (Ev.sub R7.bo) dv7) .nil)).ev evD
        .rw[ar hl6]at S;cases S
  .have e:i=ds.length:=by ext
   subst e;rw[VR (TQ _)]at f;have f:=f;cases f;refine .inl ⟨stop,?_⟩;refine w1 (kh I l) (.ref l) H' (e1.trans ev1) (R2.add s F nD) ⟨l,G,rfl,.inr rfl,R2.aey F,hD,dys,λk es hk z=>?_⟩;obtain⟨u,U,b,us,e2,g1,g2,g3,g4⟩:=R2.slot k _ hk;rw[z]at U;cases U;cases e2;rw[F]at g3;cases g3
def JT(ρ:aD):cv (cv PV)->Res (ck D×aD)
 |some (ax (.ow ds))=>.ok (ds,ρ)
 |_=>.bad
def lu(i:Nat):FI:=λρ=>JT ρ ρ[i]?
theorem C5:P3 K E (Dn K (lB i)) (lu i):=by
 intro B X O Z H ρ A R w;unfold lu at w;cases q:ρ[i]? with
 |none=>rw[q]at w;exact w.elim
 |some o=>
  cases o with
  |none=>rw[q]at w;exact w.elim
  |some x=>
   cases x with
   |fz d=>rw[q]at w;exact w.elim
   |pl j=>rw[q]at w;exact w.elim
   |ow ds=>rw[q]at w;obtain⟨v,p,a,vs,rfl,z,u,f,r⟩:=R.slot i _ q;refine⟨_,p,a,rfl,.inl ⟨⟨vs,XG.of f⟩,w O _ H .refl R λY H' e s n=>?_⟩⟩;have k:=s _ _ f;have b:=r.ev e;refine⟨λj m=>?_,⟨vs,XG.of k,by rw[b.length];simp_all⟩⟩;obtain⟨x,l,_⟩:=b.get (TF m);refine⟨⟨vs,x,XG.of k,l⟩,?_⟩;rintro y t ⟨rfl,hy⟩;obtain⟨d,h,g⟩:=b.adS (hy vs (XG.of k));exact⟨Vl.refl _,d,h,g⟩
def aK(F:FN)(n:Nat)(fa:FA):FE:=λρ=>(fa ρ).bind λa=>(Res.U1 (jk a.2 a.1)).bind λb=>if b.1.length=n then(g9 (F b.1)).bind λrv=>.ok (rv.pv,b.2)else .bad
theorem Mc(ha:AO K E ta fa):EO K E (pW (sI K n F) [] E0 ta) (aK F n fa):=by
 intro B X O Z H ρ Q R w;refine ha B X O Z H ρ _ R (w.bind.imp λa f u vs y l o i=>?_);obtain⟨⟨ds,e⟩,q,b⟩:=f.U1;obtain⟨r,k,R2,d⟩:=kg o i q;dsimp only at b;by_cases hn:ds.length=n
 .rw[ak hn]at b;obtain⟨rv,g,b⟩:=xF (WR.bind b);rw[UQ];refine⟨d.length.trans hn,r,ds,λa z j=>R2.od a j z,d,?_⟩;rw[g];exact jg R2 λp v t e3 m h=>b p v t (l.trans (k.trans e3)) m h
 .rw[ar hn]at b;exact b.elim
end
def bN(N:Nat)(g:FS):FN:=λds=>(g (ds.map (λd=>ax (.fz d))++T1 (N - ds.length) CL)).bind λa=>match a with
 |.rt rv=>.ok rv
 |.nx _=>.ok (.fz .none)
 |_=>.bad
theorem vv(g:∀a,B a->H a≠CL)(k:VH B K H vs ds):Rl K B H B (L2.start N vs) H (ds.map (λd=>ax (.fz d))++T1 (N.length - ds.length) CL):=by
 have p:=k.length;refine⟨Vl.refl _,λ_ h=>h,g,λa z h=>g a h z,?_,λi x l=>?_,λi j xs o w hi=>?_⟩
 .unfold L2.start;simp_all
 all_goals
  have b:∀{i:Nat} {x:PV},(ds.map (λd=>ax (PV.fz d))++T1 (N.length - ds.length) CL)[i]?=ax (ax x)->∃d,x=.fz d/\ds[i]?=ax d:=λ{i x} h=>by
   by_cases hi:i<ds.length
   .rw[Vc (by rw[Tv];exact hi),TU]at h
    cases q:ds[i]? with
    |none=>rw[q]at h;cases h
    |some d=>rw[q]at h;cases h;exact⟨d,rfl,rfl⟩
   .rw[Vr (by rw[Tv];ext),WV]at h;split at h<;>cases h
 .obtain⟨d,rfl,m⟩:=b l;obtain⟨v,f,n⟩:=k.get m;refine⟨v,?_,n⟩;have hi:=(TN.mp f).1;unfold L2.start;rw[Vc (by rw[Tv];exact hi),TU,f];rfl
 .obtain⟨d,e,_⟩:=b hi;cases e
theorem SI(F:ZE K x qual st f fd)(S:V1 N ps (az st))(hn:ps.length=n)
  (p:∀(a:Tw) (A:Ut) (outer:ck Env) (s:TK) (H:Hp) (E:XK),Wj k (A.deeper (UA qual (az st) s.heap.objs.size f a))->
   ∃t,PSs (gx kS P w K mg base N qual (az st) f a A outer s H E).nox (dr st) t/\SO K E t g):FnOk P w K mg base kS (k+1) f fd ps (sI K n (bN N.length g)):=by
 refine F.ok S (λvs H Q E h=>h.1.trans hn.symm) (λa A outer s H vs Q E j h=>?_);obtain⟨t,d,i⟩:=p a A outer s H E j;obtain⟨u,B,ds,l,o,h⟩:=h;refine⟨t,d,i B H B _ H _ _ (vv l o) (WR.imp (WR.bind h) λm q=>?_)⟩;cases m with
 |rt rv=>exact q
 |nx ρ=>exact λv b r e R=>q .VX r R.same .VX
 |bk ρ=>exact q.elim
 |ct ρ=>exact q.elim
end L3
namespace L3
open PySem PySem.Spec PyProof.Rows L2
theorem OpR.or(h:OpR X f r)(h':OpR X f r'):OpR X f (λx y H Q=>r x y H Q\/r' x y H Q):=by
 intro a s b H x y v u Q I e d q;rcases q with q|q
 .exact h a s b H x y v u Q I e d q
 .exact h' a s b H x y v u Q I e d q
theorem Mf(I:Inv X pins σ H s)(h:XZ X.K H l xs):xs.length<=T8/\∃(a:ck Tw) (n:Nat),Vals xs a/\xs.length=a.length/\s.heap.get? l=ax {cls:=.type "list",data:=.seq a.toArray n}:=by
 rcases h with(h|⟨o,h⟩)|⟨a,n,h1,h2,h3⟩
 .exact I.ad2 h
 .obtain⟨_,z,a,n,r,e⟩:=I.Vp l _ h;exact⟨z,a,n,r,r.length,e⟩
 .exact⟨h2,a,n,h3,h3.length,I.Zm _ _ h1⟩
def Ho(K:cL):R2:=λx y H Q=>∃l b xs zs,x=.ref l/\y=.ref b/\XZ K H l xs/\XZ K H b zs/\xs.length+zs.length<=T8/\∀p,H p=CL->Q (.ref p) (bz H p (.lst (xs++zs)))
theorem tD:OpR X (V2 .Add) (Ho X.K):=by
 intro d s w H x y v u Q I i g h;obtain⟨l,b,xs,A,rfl,rfl,m,o,E,q⟩:=h;cases i;cases g;obtain⟨z,f,n,r,F,e⟩:=Mf I m;obtain⟨B,a,C,j,k,t⟩:=Mf I o;refine PySem.P.add_list e t ?_ (by simp_all);have p:f.toArray++a.toArray=(f++a).toArray:=by simp
 rw[p];exact⟨.ref _,_,I.ae8 (r.append j) (by simp_all),rfl,q _ I.fresh⟩
def Im(K:cL):R2:=λx y H Q=>∃l k xs,x=.ref l/\y=.int k/\XZ K H l xs/\ -(2^63)<=k/\k<2^63/\xs.length*k.toNat<=T8/\
 ∀p,H p=CL->Q (.ref p) (bz H p (.lst (T1 k.toNat xs).flatten))
theorem FJ:OpR X (V2 .Mult) (Im X.K):=by
 intro o s N H x y v u Q I C B h;obtain⟨l,k,xs,rfl,rfl,G,L,J,E,q⟩:=h;cases C;obtain⟨t,rfl⟩:=B;obtain⟨z,b,n,r,P,e⟩:=Mf I G;have d:b.toArray.size*k.toNat<=T8:=by simp_all
 have g:¬b.toArray.size*k.toNat>(2^63 - 1)/8:=by
  have:(T8:Nat)<=(2^63 - 1)/8:=by decide
  ext
 have i:¬(!Um.List.listFitsIndex k)=Ld:=by rw[abt L J];simp_all
 have j:¬Um.List.listTooLong (b.toArray.size*k.toNat)=Ld:=by rw[C4 d];simp_all
 have f:Yj (λw p=>w++p) #[] (T1 (if b.toArray.isEmpty=Ld then 0 else k.toNat) b.toArray)=(T1 k.toNat b).flatten.toArray:=by
  have M:=λm=>by have:=na b m [];rw[Xn]at this;exact this
  rw[M];cases b with
  |nil=>simp
  |cons a O=>rfl
 refine ab5 (by decide) ⟨_,e,rfl⟩ (λA=>ZH A k t) noFill_list_mul F.fills_int_mul F.slot_int_rmul repeat_list F.slot_int_index.lookup
  (VU F.slot_int_rmul (ZH s k t) F.entry_int_rmul (F.args_int_rmul_2 _ _) (int___rmul___int_list k t l b.toArray n)
   ⟨e,rfl,⟨_,e,rfl⟩,VU F.slot_list_mul ⟨_,e,rfl⟩ F.entry_list_mul (F.args_list_mul_2 _ _) (AutoListH.list___mul___list_int_3 l b.toArray n k t i g j) ⟨e,?_⟩⟩)
 rw[f];exact⟨.ref _,_,I.ae8 (r.rep k.toNat) (by rw[xP,Nat.mul_comm];exact E),rfl,q _ I.fresh⟩
section
variable{K:cL}
def fI(g:Int->Int->Int):D->D->cv RV
 |.int i,.int j=>ax (.fz (.int (g i j)))
 |_,_=>CL
def fB(g:Int->Int->Bool):D->D->cv RV
 |.int i,.int j=>ax (.fz (.bool (g i j)))
 |_,_=>CL
def Oc(C:Int->Int->Bool)(g:Int->Int->Int):D->D->cv RV
 |.int i,.int j=>if C i j=Ld then ax (.fz (.int (g i j)))else CL
 |_,_=>CL
theorem Cn(h:fI g dx dy=ax rv):∃i j,dx=.int i/\dy=.int j/\rv=.fz (.int (g i j)):=by
 unfold fI at h;split at h
 .cases h;exact⟨_,_,rfl,rfl,rfl⟩
 .cases h
theorem MH:jY K (vY λi j=>.int (g i j)) (fI g):=by intro O H x y dx d rv Q n b a e q;obtain⟨i,j,rfl,rfl,rfl⟩:=Cn e;cases b;cases a;exact⟨i,j,rfl,rfl,q.at (.int _)⟩
theorem yq:jY K (vY λi j=>.bl (g i j)) (fB g):=by
 intro O H x y dx d rv Q n b a e q;unfold fB at e;split at e
 .cases e;cases b;cases a;exact⟨_,_,rfl,rfl,q.at (.bl _)⟩
 .cases e
theorem xp(f:∀i j,C i j=Ld->C' i j):jY K (rI C' λi j=>.int (g i j)) (Oc C g):=by
 intro O H x y dx h rv Q n b a e q;unfold Oc at e;split at e
 .split at e
  .rename_i d;cases e;cases b;cases a;exact⟨_,_,rfl,rfl,f _ _ d,q.at (.int _)⟩
  .cases e
 .cases e
theorem An(h:DX O K H x (.list ds)):∃a xs,x=.ref a/\XZ K H a xs/\VH O K H xs ds:=h
theorem AB(h:DX O K H x (.tuple ds)):∃a xs,x=.ref a/\Yw O K H a xs/\VH O K H xs ds:=Cy h rfl
def HN(K:cL):R2:=λx y H Q=>vY (λi j=>.int (i+j)) x y H Q\/Ho K x y H Q\/Ig K x y H Q
theorem F7:OpR X (V2 .Add) (HN X.K):=OpR.or L5 (OpR.or tD EN)
def bq:D->D->cv RV
 |.int i,.int j=>ax (.fz (.int (i+j)))
 |.list xs,.list ys=>if xs.length+ys.length<=1000000 then ax (.ow (xs++ys))else CL
 |.tuple xs,.tuple ys=>if xs≠[]/\xs.length+ys.length<=1000000 then ax (.fz (.tuple (xs++ys)))else CL
 |_,_=>CL
theorem mw(h:n<=1000000):n<=T8:=UH h (by decide)
theorem VH.ne(h:VH O K H vs ds):vs=[]↔ds=[]:=by cases h<;>simp
theorem Fq:jY K (HN K) bq:=by
 intro O H x y dx o rv Q n k j e q;unfold bq at e;split at e
 .cases e;cases k;cases j;exact .inl ⟨_,_,rfl,rfl,q.at (.int _)⟩
 .split at e
  .rename_i g;cases e;obtain⟨a,xs,rfl,h,d⟩:=An k;obtain⟨b,i,rfl,l,f⟩:=An j;exact .inr (.inl ⟨a,b,xs,i,rfl,rfl,h,l,mw (by rw[d.length,f.length];exact g),Fin.new (d.append f) q⟩)
  .cases e
 .split at e
  .rename_i g;cases e;obtain⟨a,xs,rfl,h,d⟩:=AB k;obtain⟨b,i,rfl,l,f⟩:=AB j;refine .inr (.inr ⟨a,b,xs,i,rfl,rfl,h.1,l.1,λz=>g.1 (d.ne.mp z),mw (by rw[d.length,f.length];exact g.2),λz=>?_,λ_=>Fin.adD (d.append f) n q⟩);have m:=f.ne.mp z;subst m;rw[UQ]at q;exact q.at (.tup h d)
  .cases e
 .cases e
def B6(K:cL):R2:=λx y H Q=>rI ad4 (λi j=>.int (i*j)) x y H Q\/Im K x y H Q
theorem Gg:OpR X (V2 .Mult) (B6 X.K):=OpR.or IC FJ
def iw(i:Int):Bool:=decide (-(2^64)<i/\i<2^64)
theorem pV(h:iw i=Ld): -(2^64)<i/\i<2^64:=a6 h
def zK:D->D->cv RV
 |.int i,.int j=>if(iw i||iw j)=Ld then ax (.fz (.int (i*j)))else CL
 |.list xs,.int k=>if xs.length*k.toNat<=1000000/\ -(2^63)<=k/\k<2^63 then ax (.ow (T1 k.toNat xs).flatten)else CL
 |_,_=>CL
theorem Fc:jY K (B6 K) zK:=by
 intro O H x y dx i rv Q n f d e q;unfold zK at e;split at e
 .split at e
  .rename_i b
   cases e;cases f;cases d;refine .inl ⟨_,_,rfl,rfl,?_,q.at (.int _)⟩;rcases(Vt _ _).mp b with z|z
   .exact .inl (pV z)
   .exact .inr (pV z)
  .cases e
 .split at e
  .rename_i b;cases e;cases d;obtain⟨a,xs,rfl,h,g⟩:=An f;exact .inr ⟨a,_,xs,rfl,rfl,h,b.2.1,b.2.2,mw (by rw[g.length];exact b.1),Fin.new (g.flat _) q⟩
  .cases e
 .cases e
def sP:=fI λi j=>i - j
theorem Fk:jY K (vY λi j=>.int (i - j)) sP:=MH
def IZ(_ j:Int):Bool:=decide (0<j)
def br:=Oc IZ λi j=>i % j
theorem EH:jY K (rI (λ_ j=>0<j) λi j=>.int (i % j)) br:=xp λi j h=>a6 h
def Jt(_ j:Int):Bool:=decide (0<j/\j<2^128)
def bT:=Oc Jt λi j=>i/j
theorem GX:jY K (rI (λ_ j=>0<j/\j.natAbs.log2<9000) λi j=>.int (i/j)) bT:=xp λi j h=>by
 have b:=a6 h;refine⟨b.1,?_⟩;have a:j.natAbs<2^128:=by ext
 have d:=(ahE (by ext)).mpr a;ext
def Du(i j:Int):Bool:=decide (0<=j/\j<=1000000/\i.natAbs<2^64)
theorem GB(i j:Int)(h:Du i j=Ld):Ku i j:=by unfold Du at h;exact(show 0<=j/\j<=1000000/\i.natAbs<2^64 from a6 h)
def nt:=Oc Du λi j=>i^j.toNat
theorem F8:jY K (rI Ku λi j=>.int (i^j.toNat)) nt:=xp GB
def nc:=fB λi j=>decide (i<j)
def qJ:=fB λi j=>decide (i<=j)
def oO:=fB λi j=>decide (j<i)
def Eh:=fB λi j=>decide (j<=i)
theorem Kd:jY K (vY λi j=>.bl (decide (i<j))) nc:=yq
theorem Lg:jY K (vY λi j=>.bl (decide (i<=j))) qJ:=yq
theorem IJ:jY K (vY λi j=>.bl (decide (j<i))) oO:=yq
theorem JP:jY K (vY λi j=>.bl (decide (j<=i))) Eh:=yq
def jP(d:D):Bool:=d.canLay0&&decide (d.depth<=64)
def bV(d e:D):cv RV:=if(jP d&&e.canLay0)=Ld then ax (.fz (.bool (lD.eqv d e)))else CL
def iG(d e:D):cv RV:=if(jP d&&e.canLay0)=Ld then ax (.fz (.bool (!lD.eqv d e)))else CL
theorem Ml:jY K (GZ K Tx) bV:=by
 intro O H x y dx f rv Q n d b e q;unfold bV at e;split at e
 .rename_i a;cases e;unfold jP at a;simp only[Tu,decide_eq_true_eq]at a;exact⟨dx,f,d.plain,b.plain,a.1.1,a.2,a.1.2,q.at (.bl _)⟩
 .cases e
theorem KM:jY K (GZ K Ld) iG:=by
 intro O H x y dx f rv Q n d b e q;unfold iG at e;split at e
 .rename_i a;cases e;unfold jP at a;simp only[Tu,decide_eq_true_eq]at a;exact⟨dx,f,d.plain,b.plain,a.1.1,a.2,a.1.2,q.at (.bl _)⟩
 .cases e
def jd:D->D->cv RV
 |.none,.none=>ax (.fz (.bool Ld))
 |_,.none=>ax (.fz (.bool Tx))
 |_,_=>CL
def qM:D->D->cv RV
 |.none,.none=>ax (.fz (.bool Tx))
 |_,.none=>ax (.fz (.bool Ld))
 |_,_=>CL
theorem DS(h:DX O K H x d)(hd:d≠.none):x≠.VX:=by
 cases d with
 |none=>simp_all
 |list ds=>obtain⟨a,xs,rfl,_⟩:=An h;simp
 |tuple ds=>obtain⟨a,xs,rfl,_⟩:=AB h;simp
 |bool b=>cases h;simp
 |int b=>cases h;simp
 |str b=>cases h;simp
 |dict b=>cases h
theorem E5:jY K (λx y H Q=>y=.VX/\Q (.bl (decide (x=.VX))) H) jd:=by
 intro O H x y dx f rv Q n b a e q;unfold jd at e;split at e
 .cases e;cases b;cases a;exact⟨rfl,q.at (.bl _)⟩
 .rename_i d;cases e;cases a;refine⟨rfl,?_⟩;rw[a5 (DS b d)];exact q.at (.bl _)
 .cases e
theorem FZ:jY K (λx y H Q=>y=.VX/\Q (.bl (!decide (x=.VX))) H) qM:=by
 intro O H x y dx f rv Q n b a e q;unfold qM at e;split at e
 .cases e;cases b;cases a;exact⟨rfl,q.at (.bl _)⟩
 .rename_i d;cases e;cases a;refine⟨rfl,?_⟩;rw[a5 (DS b d)];exact q.at (.bl _)
 .cases e
def Ep(K:cL)(a:Bool):R2:=λx y H Q=>∃d ds,L2.DV K H x d/\(L2.DV K H y (.list ds)\/L2.DV K H y (.tuple ds))/\d.canLay0=Ld/\lD.canLayAll0 ds=Ld/\d.depth<=64/\Q (.bl (if a then !(ds.any λe=>lD.eqv e d)else ds.any λe=>lD.eqv e d)) H
theorem Kf(o:X.A.units+65<cLine):OpR X (U8 .In) (Ep X.K Tx):=by
 intro g s n H x y v u Q I k e h;obtain⟨d,ds,m,a,j,i,l,q⟩:=h;obtain⟨p,f⟩:=m.reads I k;have hm:min (lD.depthAll ds) d.depth<=64:=UH (ZG _ _) l;rcases a with a|a
 .obtain⟨bs,b⟩:=a.reads I e;exact aiT b f i j (by ext) ⟨.bl _,H,I,rfl,q⟩
 .obtain⟨bs,b⟩:=a.reads I e;exact aiU b f i j (by ext) ⟨.bl _,H,I,rfl,q⟩
theorem Fa(o:X.A.units+65<cLine):OpR X (U8 .NotIn) (Ep X.K Ld):=by
 intro g s n H x y v u Q I k e h;obtain⟨d,ds,m,a,j,i,l,q⟩:=h;obtain⟨p,f⟩:=m.reads I k;have hm:min (lD.depthAll ds) d.depth<=64:=UH (ZG _ _) l;rcases a with a|a
 .obtain⟨bs,b⟩:=a.reads I e;exact aiV b f i j (by ext) ⟨.bl _,H,I,rfl,q⟩
 .obtain⟨bs,b⟩:=a.reads I e;exact aiW b f i j (by ext) ⟨.bl _,H,I,rfl,q⟩
def iY(d e:D):cv RV:=match ef e with
 |some ds=>if(jP d&&lD.canLayAll0 ds)=Ld then ax (.fz (.bool (ds.any λe=>lD.eqv e d)))else CL
 |none=>CL
def jM(d e:D):cv RV:=match ef e with
 |some ds=>if(jP d&&lD.canLayAll0 ds)=Ld then ax (.fz (.bool (!ds.any λe=>lD.eqv e d)))else CL
 |none=>CL
theorem A1(a:DX O K H y e)(h:ef e=ax ds):L2.DV K H y (.list ds)\/L2.DV K H y (.tuple ds):=by
 unfold ef at h;split at h
 .cases h;exact .inr a.plain
 .cases h;exact .inl a.plain
 .cases h
theorem Kw:jY K (Ep K Tx) iY:=by
 intro O H x y dx g rv Q n d b e q;unfold iY at e;split at e
 .rename_i ds f
  split at e
  .rename_i a;cases e;unfold jP at a;simp only[Tu,decide_eq_true_eq]at a;exact⟨dx,ds,d.plain,A1 b f,a.1.1,a.2,a.1.2,q.at (.bl _)⟩
  .cases e
 .cases e
theorem Gi:jY K (Ep K Ld) jM:=by
 intro O H x y dx g rv Q n d b e q;unfold jM at e;split at e
 .rename_i ds f
  split at e
  .rename_i a;cases e;unfold jP at a;simp only[Tu,decide_eq_true_eq]at a;exact⟨dx,ds,d.plain,A1 b f,a.1.1,a.2,a.1.2,q.at (.bl _)⟩
  .cases e
 .cases e
def aG(d e:D):cv RV:=match ef d,e with
 |some ds,.int i=>(mL ds i).map .fz
 |_,_=>CL
theorem Bt(h:VH O K H xs ds)(e:mL ds i=ax d):∃v,mL xs i=ax v/\DV O K H v d:=by
 unfold mL at e⊢;rw[h.length];cases q:Ei ds.length i with
 |none=>simp_all
 |some j=>rw[q]at e;exact h.get e
theorem Lf:jY K (PB K) aG:=by
 intro O H x y dx m rv Q n k l e q;unfold aG at e;split at e
 .rename_i ds i b
  cases l;cases qa:mL ds i with
  |none=>simp_all
  |some d=>
   rw[qa]at e;cases e;unfold ef at b;split at b
   .cases b;obtain⟨a,xs,rfl,h,g⟩:=AB k;obtain⟨v,f,j⟩:=Bt g qa;exact .inr (.inl ⟨a,xs,i,v,rfl,rfl,h.1,f,q.at j⟩)
   .cases b;obtain⟨a,xs,rfl,h,g⟩:=An k;obtain⟨v,f,j⟩:=Bt g qa;exact .inl ⟨a,xs,i,v,rfl,rfl,h.sq,f,q.at j⟩
   .cases b
 .cases e
def iX(xs:ck D)(lo hi:cv Int):ck D:=(xs.drop (HT.sIx xs.length 0 lo)).take (HT.sIx xs.length xs.length hi - HT.sIx xs.length 0 lo)
theorem Cm{lo hi:cv Int}(h:VH O K H xs ds):VH O K H (zu xs lo hi) (iX ds lo hi):=by unfold zu iX;rw[h.length];exact(h.drop _).take _
def dL(n:Nat)(lo hi:cv Int):Bool:=decide (HT.sIx n 0 lo=0/\HT.sIx n n hi=n)
def J4(K:cL):V->cv Int->cv Int->Hp->VK->Prop:=λx lo hi H Q=>OZ K x lo hi H Q\/Oe K x lo hi H Q
theorem Bx:Ia X (J4 X.K):=by
 intro a s b H x v e d lo hi f Q I g j pl i h;rcases h with h|h
 .exact Gy a s b H x v e d lo hi f Q I g j pl i h
 .exact Jw a s b H x v e d lo hi f Q I g j pl i h
def ur:D->cv Int->cv Int->cv RV
 |.list ds,lo,hi=>ax (.ow (iX ds lo hi))
 |.tuple ds,lo,hi=>if dL ds.length lo hi=Ld then CL else ax (.fz (.tuple (iX ds lo hi)))
 |_,_,_=>CL
theorem sh:Pv K (J4 K) ur:=by
 intro O H x lo hi dx rv Q n f e q;unfold ur at e;split at e
 .cases e;obtain⟨a,xs,rfl,d,b⟩:=An f;exact .inl ⟨a,xs,rfl,d.sq,Fin.new (Cm b) q⟩
 .split at e
  .cases e
  .rename_i g;cases e;obtain⟨a,xs,rfl,d,b⟩:=AB f;refine .inr ⟨a,xs,rfl,d.1,λz=>g ?_,Fin.adD (Cm b) n q⟩;unfold dL;rw[<-b.length];exact a4 z
 .cases e
def qL:D->cv RV
 |.int i=>ax (.fz (.int (-i)))
 |_=>CL
theorem FP:Rr K (rU λi=>.int (-i)) qL:=by
 intro O H x dx rv Q n a e q;unfold qL at e;split at e
 .cases e;cases a;exact⟨_,rfl,q.at (.int _)⟩
 .cases e
def bF:ck D->cv RV
 |[d]=>(match ef d with
  |some ds=>ax (.fz (.int ds.length))
  |none=>CL)
 |_=>CL
theorem KZ:yg K (λxs H Q=>∃x n,xs=[x]/\KS K x H n/\Q (.int n) H) bF:=by
 intro O H xs ds rv Q n g e q;unfold bF at e;split at e
 .split at e
  .rename_i h d
   cases e;cases g with
   |cons b f=>
    cases f;unfold ef at d;split at d
    .cases d;obtain⟨a,xs,rfl,b,f⟩:=AB b;exact⟨_,xs.length,rfl,.inr ⟨xs,b.1,rfl⟩,by rw[f.length];exact q.at (.int _)⟩
    .cases d;obtain⟨a,xs,rfl,b,f⟩:=An b;exact⟨_,xs.length,rfl,.inl ⟨xs,b.sq,rfl⟩,by rw[f.length];exact q.at (.int _)⟩
    .cases d
  .cases e
 .cases e
def iJ:ck D->cv RV
 |[.tuple ds]=>ax (.fz (.tuple ds))
 |[.list ds]=>ax (.fz (.tuple ds))
 |_=>CL
theorem D3:yg K (λxs H Q=>∃p ys,xs=[.ref p]/\((XG K H p ys/\∀l,H l=CL->Q (.ref l) (bz H l (.tup ys)))\/(XA K H p ys/\Q (.ref p) H))) iJ:=by
 intro O H xs ds rv Q n f e q;unfold iJ at e;split at e
 .cases e
  cases f with
  |cons b d=>cases d;obtain⟨a,xs,rfl,b,d⟩:=AB b;exact⟨a,xs,rfl,.inr ⟨b.1,q.at (.tup b d)⟩⟩
 .cases e
  cases f with
  |cons b d=>cases d;obtain⟨a,xs,rfl,b,d⟩:=An b;exact⟨a,xs,rfl,.inl ⟨b.sq,Fin.adD d n q⟩⟩
 .cases e
def zj:ck D->cv RV
 |[d]=>(ef d).map .ow
 |_=>CL
theorem Fv:yg K (λxs H Q=>∃p ys,xs=[.ref p]/\(XG K H p ys\/XA K H p ys)/\∀l,H l=CL->Q (.ref l) (bz H l (.lst ys))) zj:=by
 intro O H xs ds rv Q n g e q;unfold zj at e;split at e
 .rename_i d
  cases g with
  |cons b f=>
   cases f;cases hs:ef d with
   |none=>simp_all
   |some h=>
    rw[hs]at e;cases e;unfold ef at hs;split at hs
    .cases hs;obtain⟨a,xs,rfl,b,f⟩:=AB b;exact⟨a,xs,rfl,.inr b.1,Fin.new f q⟩
    .cases hs;obtain⟨a,xs,rfl,b,f⟩:=An b;exact⟨a,xs,rfl,.inl b.sq,Fin.new f q⟩
    .cases hs
 .cases e
def jp:ck D->cv RV
 |[.int i,.int j]=>ax (.fz (.int (if j>i then j else i)))
 |_=>CL
theorem Fu:yg K (λxs H Q=>∃i j,xs=[.int i,.int j]/\Q (.int (if j>i then j else i)) H) jp:=by
 intro O H xs ds rv Q n b e q;unfold jp at e;split at e
 .cases e
  cases b with
  |cons f a=>
   cases a with
   |cons a d=>cases d;cases f;cases a;exact⟨_,_,rfl,q.at (.int _)⟩
 .cases e
end
end L3
namespace PySem
open Sem (wp)
open AutoSeq1 (wpAny_loadPart')
open Builtin Builtin.Str
section
variable{prog:Ug}{w:Ux}{A:Ut}{E:Tw->TK->Prop}{s:TK}
theorem i8(a:s.heap.IsTupleIter it t i)(h:s.heap.IsTuple t items)(g:items[i]?=ax x)
  (k:∀h',h'.IsTupleIter it t (i+1)->Heap.SameBut it s.heap h'->Q x {s with heap:=h'}):wpAny (model prog w) A (Um.SmallTypes.nextOf (.ref it)) Q E s:=by
 obtain⟨o,d,j,b⟩:=id a;obtain⟨l,e,_,m,f⟩:=h;unfold Um.SmallTypes.nextOf;refine OK (VQ a.typeIs F.slot_tuple_iterator_next
  (Wh F.slot_tuple_iterator_next a.typeIs F.entry_tuple_iterator_next ?_ (F.args_tuple_iterator_next_1 _)))
 show wpAny _ _ (field (.ref it) 0>>=_) _ _ s;refine OK (UL d b rfl ?_);show wpAny _ _ (if(Tw.ref t==Tw.none)=Ld then _ else _) _ _ s;rw[ar (show¬((Tw.ref t==Tw.none)=Ld)from Tz)];refine OK (UL d b rfl ?_);refine OK (V3 e f ?_);simp only[UI,g];refine OK (Wi d b (by simp) (TR ⟨x,rfl,TR (k _ ?_ (Heap.SameBut.update ..))⟩));exact⟨_,dN _ d (ek (ec b _)),(Obj.cls_mapFields ..).trans j,by rw[ec b];simp[rawInt]⟩
theorem gz(h:A.handled=CL)(a:s.heap.IsTupleIter it t i)(k:s.heap.IsTuple t items)(j:items[i]?=CL)
  (l:∀h' e,Heap.ExtBut it s.heap h'->(∃o,h'.get? e=ax o/\o.cls=.type "StopIteration")->E (.ref e) {s with heap:=h'}):wpAny (model prog w) A (Um.SmallTypes.nextOf (.ref it)) Q E s:=by
 obtain⟨o,d,p,g⟩:=id a;obtain⟨m,b,_,n,f⟩:=k;unfold Um.SmallTypes.nextOf;refine OK (VQ a.typeIs F.slot_tuple_iterator_next
  (Wh F.slot_tuple_iterator_next a.typeIs F.entry_tuple_iterator_next ?_ (F.args_tuple_iterator_next_1 _)))
 show wpAny _ _ (field (.ref it) 0>>=_) _ _ s;refine OK (UL d g rfl ?_);show wpAny _ _ (if(Tw.ref t==Tw.none)=Ld then _ else _) _ _ s;rw[ar (show¬((Tw.ref t==Tw.none)=Ld)from Tz)];refine OK (UL d g rfl ?_);refine OK (V3 b f ?_);simp only[UI,j];refine OK (aby (OK (Wi d g (by simp) ?_)));refine OK ?_;simp only[newExc,newTuple];refine OK (Vw ?_ (by size_fits));refine OK (wpAny_of_eq (by first|rfl|(simp only[firstArgMember];rfl)) ?_);refine Vw ?_ (by size_fits);simp only[raiseNew];refine OK (wpAny_handled ?_)
 first|rw[show A.in1.handled=CL from h]|rw[h]
 refine OK (TR (wpAny_throw ?_));exact l _ _ (((Heap.SameBut.update ..).extBut.push _).push _) ⟨_,c6 _ rfl,rfl⟩
end
theorem Cc(j:A.handled=CL)(it l:TM)(p:l≠it)(a:Array Tw):
  Draws prog w A it [it,l] a.size (λi v=>a[i]?=ax v) (λi h=>h.IsTupleIter it l i/\h.IsTuple l a) where
 live:=λ_ _ b=>let⟨o,ho,_⟩:=b.1;⟨o,ho⟩
 frame:=λ_ _ _ b g=>⟨b.1.at λo e=>g it (by simp) o e,let⟨o,h1,h2⟩:=b.2;⟨o,g l (by simp) o h1,h2⟩⟩
 item:=λi s Q E hi b k=>by refine i8 b.1 b.2 (x:=a[i]) (by simp[hi]) λn f d=>?_;exact k _ n s.toks (by simp[hi]) ⟨f,let⟨o,h1,h2⟩:=b.2;⟨o,(d.2 l p).trans h1,h2⟩⟩ d
 done:=λs Q E b m=>gz j b.1 b.2 (by simp) m
set_option maxHeartbeats 4000000 in
theorem kj(l:TM)(a:Array Tw)(n:Nat)(dct:cv TM)(j:Array (cv Tw)):
  Meets (Um.«enumerate.__new__» ⟨[.type "enumerate",.ref l],[]⟩) (λ_ R s=>s.heap.get? l=ax {cls:=.type "tuple",dict:=dct,data:=.seq a n,slots:=j}/\
   R (.ok (.ret (.ref (s.heap.push {cls:=.type "tuple_iterator",data:=.fields #[.ref l,.int 0 0]}).objs.size)))
    {s with heap:=(s.heap.push {cls:=.type "tuple_iterator",data:=.fields #[.ref l,.int 0 0]}).push {cls:=.type "enumerate",data:=.fields #[.none,.bool Tx,.ref s.heap.objs.size,rawInt 0,.none,.none]}}):=
 .of_wp λf w A R s h=>by
  obtain⟨m,g,d,i,k⟩:=s;obtain⟨b,h⟩:=h;have o:=akX;have e:Heap.IsTuple (TK.heap ⟨m,g,d,i,k⟩) l a:=⟨_,b,rfl,n,rfl⟩
  wp_walk using XM b
  refine ahF λp=>TR ?_;split
  .rename_i c _ _ _ _ _
   cases(c==Tw.type "enumerate")
   .wp_walk using XM b,Wd e
    exact⟨_,rfl,h⟩
   .wp_walk using XM b,Wd e
    exact⟨_,rfl,h⟩
  .wp_walk using XM b,Wd e
   exact⟨_,rfl,h⟩
section
variable{prog:Ug}{w:Ux}{A:Ut}{E:Tw->TK->Prop}{s:TK}
theorem kq(j:s.heap.IsTuple l items)
  (h:∀h',abv h' (s.heap.objs.size+1) s.heap.objs.size 0 .none->h'.IsTupleIter s.heap.objs.size l 0->h'.objs.size=s.heap.objs.size+2->
   (∀b o,s.heap.get? b=ax o->h'.get? b=ax o)->Q (.ref (s.heap.objs.size+1)) {s with heap:=h'}):
  wpAny (model prog w) A (call (.type "enumerate") [.ref l]) Q E s:=by
 obtain⟨⟨c,dct,k,g⟩,i,e,n,d⟩:=j;replace e:c=.type "tuple":=e;replace d:k=.seq items n:=d;subst e d;refine callType_new F.called_enumerate (by decide) (F.typeCall_enumerate_1 _) (F.newCall_enumerate_1 _) (λobj=>F.args_object_init_2 obj _) F.entry_enumerate_new
  (kj l items n dct g) ⟨i,?_⟩
 have a:(s.heap.push {cls:=.type "tuple_iterator",data:=.fields #[.ref l,.int 0 0]}).objs.size=s.heap.objs.size+1:=d4 ..;rw[a]
 have f:abv ((s.heap.push {cls:=.type "tuple_iterator",data:=.fields #[.ref l,.int 0 0]}).push
   {cls:=.type "enumerate",data:=.fields #[.none,.bool Tx,.ref s.heap.objs.size,rawInt 0,.none,.none]}) (s.heap.objs.size+1) s.heap.objs.size 0 .none:=by
  have:=c6 (s.heap.push {cls:=.type "tuple_iterator",data:=.fields #[.ref l,.int 0 0]})
   (o:={cls:=.type "enumerate",data:=.fields #[.none,.bool Tx,.ref s.heap.objs.size,rawInt 0,.none,.none]}) rfl
  rw[a]at this;exact this
 refine⟨⟨_,f,rfl⟩,h _ f ⟨_,cM _ (c6 _ rfl),rfl,rfl⟩ (by rw[d4,a]) λb o x=>cM _ (cM _ x)⟩
end
end PySem
namespace L3
open PySem PySem.Spec PyProof.Rows L2
def Ji(K:cL)(a:TM):It:=
 ⟨λi H=>∃xs x,XA K H a xs/\xs[i]?=ax x,
  λi H v b=>∃p x,H p=CL/\v=.ref p/\(∀xs,XA K H a xs->xs[i]?=ax x)/\b=bz H p (.tup [.int i,x]),
  λi H=>∃xs,XA K H a xs/\xs.length<=i⟩
theorem yR(I:Inv X pins σ H s)(j:XA X.K H a xs)(i:XA X.K H a ys):xs=ys:=by
 obtain⟨f,h,⟨o,k,_,n,l⟩,_⟩:=I.tuple j;obtain⟨b,g,⟨m,d,_,p,e⟩,_⟩:=I.tuple i;rw[k]at d;cases d;rw[l]at e;have:f=b:=by
  have q:f.toArray=b.toArray:=by injection e
  simpa using q
 subst this;exact h.inj g
theorem wj{K:cL}{kk}(a e it:TM)(X9:e≠it)(hai:a≠it)(hae:a≠e):
  Turn P w K (.Tuple elts kk tp) (Ji K a) [e,it] e (λi h=>(∃old,abv h e it i old)/\h.IsTupleIter it a i) where
 mem:=by simp
 obj:=λi h f b l=>by
  obtain⟨⟨old,m⟩,o,t,_,d⟩:=f;rcases TL.mp l with z|l
  .subst z;exact⟨_,m,λv z=>by cases(show Z2.fields _=Z2.cell v from z)⟩
  .have z:b=it:=by simpa using l
   subst z;exact⟨o,t,λv z=>by rw[d]at z;cases z⟩
 keep:=λi h h' f k=>by obtain⟨⟨old,m⟩,g⟩:=f;exact⟨⟨old,k e (by simp) _ m⟩,g.at λo q=>k it (by simp) o q⟩
 item:=by
  intro X hP R hK Y i n s σ H E I L f T;subst hP R hK;obtain⟨⟨old,m⟩,g⟩:=f;obtain⟨xs,x,G,O⟩:=T;obtain⟨C,rv,p,hz⟩:=I.tuple G;obtain⟨u,hu,ru⟩:=rv.get O;have Zw:i<C.toArray.size:=by
   have:=(TN.mp hu).1
   simpa using this
  refine acS (Cc (A:=X.A.in1) (I.ok.hd Y) it a hai C.toArray) m ⟨g,p⟩ Zw X9 (by simp[X9,hae.symm]) λy h1 tk F t ads hT hsz J=>⟨_,rfl,?_⟩;have N:y=u:=by
   have q:C.toArray[i]?=ax u:=by simpa using hu
   rw[q]at F;exact(Us F).symm
  subst N;refine X6 t λM U r=>?_;have B:=c5 m;have S:it<s.heap.objs.size:=by obtain⟨_,z,_⟩:=g;exact c5 z
  have hn:=I.Vp.fresh (TQ _);have kk:∀b o,b∉[e,it]->s.heap.get? b=ax o->M.get? b=ax o:=λb o l q=>by have h3:b≠e:=λz=>l (by simp[z]);have h4:b≠it:=λz=>l (by simp[z]);exact(r.2 b h3).trans (J b o h3 h4 q)
  have hT2:=(r.2 _ (Vb B)).trans hT
  have I2:Inv X n σ (bz H s.heap.objs.size (.tup [.int i,x])) {s with heap:=M,toks:=tk+1}:=
   I.X7 L kk (TQ _) ⟨by show 2<=T8;decide,[.int i tk,y],.cons ⟨_,rfl⟩ (.cons ru .nil),⟨_,hT2,⟨rfl,_,rfl⟩,rfl⟩⟩
  refine⟨.ref s.heap.objs.size,_,I2,rfl,⟨_,x,hn,rfl,λys F=>by rw[yR I F G];exact O,rfl⟩,⟨⟨y,U⟩,ads.1.at λo q=>(r.2 it X9.symm).trans q⟩,λb l=>?_⟩;have Z:b≠s.heap.objs.size:=by
   rcases TL.mp l with z|l
   .rw[z];exact Ui B
   .rw[show b=it by simpa using l];exact Ui S
  rw[am Z];exact(L b l).1
 done:=by
  intro X hP R hK Y i n s σ H E I L f T;subst hP R hK;obtain⟨⟨old,m⟩,g⟩:=f;obtain⟨xs,G,O⟩:=T;obtain⟨C,rv,p,hz⟩:=I.tuple G;obtain⟨f0,f1,f2,f3,f4,f5⟩:=L it (by simp);have hl:=rv.length
  have D':Draws X.prog X.w X.A.in1 it [it,a] i (λ_ _=>True) (λj h=>j=i/\h.IsTupleIter it a i/\h.IsTuple a C.toArray):=
   ⟨λj h f=>let⟨o,t,_⟩:=f.2.1;⟨o,t⟩,λj h h' f J=>⟨f.1,f.2.1.at λo e=>J it (by simp) o e,let⟨o,h1,M⟩:=f.2.2;⟨o,J a (by simp) o h1,M⟩⟩,
    λj s Q E hj f hQ=>a7 f.1 (Ui hj),λs Q E f hE=>gz (I.ok.hd Y) f.2.1 f.2.2 (by simp;ext) hE⟩
  exact ac6 D' m ⟨rfl,g,p⟩ λh1 eb=>⟨rfl,I.turned (λb o l q=>eb b o l q) f0 f1 f3 f4 f5⟩
 self:=λ_ _ _ _ _ f h=>by obtain⟨⟨old,m⟩,_⟩:=f;exact WB m h
def xb(K:cL)(ta:TA):TI:=λd H R=>ta d H λvs b=>∃a,vs=[.ref a]/\(((∃xs,XG K b a xs)/\R (Qs K a) b)\/((∃xs,XA K b a xs)/\R (Ji K a) b))
theorem CF{kk}(G:Gl X "enumerate")(hm:X.mg "enumerate"=CL)(ha:PA X [l] ta)(F:Uh [l] X.env=[(Tx,eval l X.env)]:=by rfl):
  PI X (.Tuple elts kk tp) (.Call (.Name "enumerate" p) [l] [] pos) (xb X.K ta):=by
 intro f s y H R I h;refine Call_ (lN I G hm boot_enumerate (Wa (c9 (ha pos f s y H _ I h) λM d ⟨vs,v,i,B,C⟩=>?_) F rfl));obtain⟨a,e,q⟩:=C;subst e;obtain⟨u,rfl,A⟩:=iZ B;cases A;have w:∀b∈[d.heap.objs.size+1,d.heap.objs.size],kY X f v b:=λb t=>by
  have k:d.heap.objs.size<=b:=by
   rcases TL.mp t with z|t
   .rw[z];exact Xl _
   .rw[show b=d.heap.objs.size by simpa using t];exact TQ _
  exact i.aaB k (i.Vp.fresh k)
 rcases q with⟨⟨xs,o⟩,q⟩|⟨⟨xs,o⟩,q⟩
 .obtain⟨L,rv,pl,E⟩:=i.list o;refine call_enumerate_list pl.isList λJ j g n r=>?_;refine WB j ?_;exact⟨d.heap.objs.size+1,[d.heap.objs.size+1,d.heap.objs.size],_,_,v,rfl,i.kept r,Ay a _ _ (ZK _),⟨⟨_,j⟩,g⟩,w,q⟩
 .obtain⟨L,rv,pl,E⟩:=i.tuple o
  refine kq pl λJ j g n r=>?_;refine WB j ?_;have m:a<d.heap.objs.size:=by obtain⟨_,z,_⟩:=pl;exact c5 z
  exact⟨d.heap.objs.size+1,[d.heap.objs.size+1,d.heap.objs.size],_,_,v,rfl,i.kept r,wj a _ _ (ZK _) (Ui m) (Ui (Ww m)),⟨⟨_,j⟩,g⟩,w,q⟩
def aZ(i:Nat):ck D->ck D
 |[]=>[]
 |d::r=>.tuple [.int (i:Nat),d]::aZ (i+1) r
theorem fZ:∀(ds:ck D) (i:Nat),(aZ i ds).length=ds.length
 |[],_=>rfl
 |d::r,i=>by show(aZ (i+1) r).length+1=r.length+1;rw[fZ r]
theorem gc:∀(ds:ck D) (i j:Nat),(aZ i ds)[j]?=(ds[j]?).map λd=>.tuple [.int ((i+j:Nat):Int),d]
 |[],_,_=>by simp[aZ]
 |d::r,i,0=>rfl
 |d::r,i,j+1=>by
  show(aZ (i+1) r)[j]?=_;rw[gc r (i+1) j,Ye];have:i+1+j=i+(j+1):=by ext
  rw[this]
section
variable{K:cL}{E:XK}{B O O':bU}{H0 H H':Hp}{σ:L2.St}{ρ ρ':aD}{v:V}
theorem AZ(h:Zg O K H a xs)(hd:VH O K H xs ds):sJ K (Qs K a) O H (aZ 0 ds):=by intro O' H' e n;have f:=h.ev e;have j:=hd.ev e;rw[fZ];refine⟨λi hi=>?_,⟨xs,f.1.sq,by rw[hd.length];exact TQ _⟩⟩;obtain⟨x,g,dx⟩:=j.get (TF hi);refine⟨⟨xs,x,f.1.sq,g⟩,?_⟩;rintro y k ⟨p,z,d,rfl,hz,rfl⟩;have b:=hz xs f.1.sq;rw[g]at b;cases b;refine⟨aV d _,.tuple [.int i,ds[i]],?_,.tup ⟨XA.of aF,λq=>a7 q (n p d)⟩ (.cons (.int _) (.cons (dx.ev (Ev.grow (aV d _))) .nil))⟩;rw[gc,TF hi];simp
theorem AN(h:Yw O K H a xs)(hd:VH O K H xs ds):sJ K (Ji K a) O H (aZ 0 ds):=by intro O' H' e n;have f:=h.ev e;have j:=hd.ev e;rw[fZ];refine⟨λi hi=>?_,⟨xs,f.1,by rw[hd.length];exact TQ _⟩⟩;obtain⟨x,g,dx⟩:=j.get (TF hi);refine⟨⟨xs,x,f.1,g⟩,?_⟩;rintro y k ⟨p,z,d,rfl,hz,rfl⟩;have b:=hz xs f.1;rw[g]at b;cases b;refine⟨aV d _,.tuple [.int i,ds[i]],?_,.tup ⟨XA.of aF,λq=>a7 q (n p d)⟩ (.cons (.int _) (.cons (dx.ev (Ev.grow (aV d _))) .nil))⟩;rw[gc,TF hi];simp
def ph(fa:FA):FI:=λρ=>(fa ρ).bind λa=>(Res.U1 (jk a.2 a.1)).bind λb=>match b.1 with
 |[d]=>(Res.U1 (ef d)).bind λds=>.ok (aZ 0 ds,b.2)
 |_=>.bad
theorem Ey(h:AO K E ta fa):IO K E (xb K ta) (ph fa):=by
 intro B H0 O σ H ρ t R w;refine h B H0 O σ H ρ _ R (w.bind.imp λa b u vs j g p l=>?_);obtain⟨⟨ds,k⟩,q,b⟩:=b.U1;obtain⟨i,f,R2,o⟩:=kg p l q;dsimp only at b;cases o with
 |nil=>exact b.elim
 |cons n m=>
  cases m with
  |cons _ _=>exact b.elim
  |nil=>
   obtain⟨r,d,b⟩:=WR.U1 b;cases n with
   |tup h e=>cases d;exact⟨_,rfl,.inr ⟨⟨_,h.1⟩,b i _ j (g.trans f) R2 (AN h e)⟩⟩
   |lst h e=>cases d;exact⟨_,rfl,.inl ⟨⟨_,h.1.sq⟩,b i _ j (g.trans f) R2 (AZ h e)⟩⟩
   |_=>cases d
end
theorem zo{bs:ck Bool}(r:Vals (bs.map V.bl) UD){i:Nat}(h:UD[i]?=ax v):∃b,bs[i]?=ax b/\v=.bool b:=by
 have d:=r.length;rw[Tv]at d;have hi:i<bs.length:=by rw[d];exact(TN.mp h).1
 obtain⟨u,a,e⟩:=r.get (by rw[TU,TF hi];rfl);rw[h]at a;cases a;exact⟨bs[i],TF hi,e⟩
theorem v9(bs:ck Bool):((Uo bs.length).all λi=>(bs[i]?).getD Ld)=bs.all id:=by
 rw[VN,Vy,Vy];constructor
 .intro h b a;obtain⟨i,hi,e⟩:=List.mem_iff_getElem.mp a;have:=h i (Ur.mpr hi);rw[TF hi,e]at this;exact this
 .intro h i hi;have hi:=Ur.mp hi;rw[TF hi];exact h _ (Vz hi)
section
variable{X:Cx}
theorem CM(n:X.calm=Ld):Wn X (.builtin "all") (λxs H Q=>∃(p:TM) (bs:ck Bool),xs=[.ref p]/\XG X.K H p (bs.map V.bl)/\Q (.bl (bs.all id)) H):=by
 intro d s y H xs z Q I r h;obtain⟨l,bs,rfl,k,q⟩:=h;obtain⟨u,rfl,j⟩:=iZ r;cases j;obtain⟨g,rv,pl,E⟩:=I.list k;have a:=rv.length;rw[Tv]at a;have w:l<s.heap.objs.size:=by obtain⟨_,_,e,_⟩:=pl;exact c5 e
 refine call_all_walk (Y8 pl.isList ?_);refine⟨s.heap.objs.size,[s.heap.objs.size,l],[s.heap.objs.size],g.toArray.size,_,_,λi=>(bs[i]?).getD Ld,rfl,afl.list (A:=X.A.in1) (I.ok.hd n) _ l (Ui w) g.toArray,
  ⟨⟨_,c6 _ rfl,rfl,rfl⟩,pl.isList.push _⟩,λi v C G J t f=>?_,λF B m=>?_⟩
 .obtain⟨b,e,rfl⟩:=zo rv (by simpa using t);simp only[e,Option.getD_some]at f;exact Vv f
 .rw[T3,<-a,v9];refine⟨.bl _,H,I.kept λb o e=>m b o (λhm=>?_) (cM _ e),rfl,q⟩;rw[TX.mp hm]at e;exact VD _ (c5 e)
end
section
variable{K:cL}
def on:ck D->cv (ck Bool)
 |[]=>ax []
 |.bool b::r=>(on r).map (b::·)
 |_=>CL
theorem xQ:∀{xs:ck V} {ds:ck D} {bs:ck Bool},VH O K H xs ds->on ds=ax bs->xs=bs.map V.bl
 |_,_,_,.nil,e=>by cases e;rfl
 |_,_,bs,.cons (ds:=r) h t,e=>by
  cases h with
  |bl b=>
   have a:(on r).map (b::·)=ax bs:=e;cases q:on r with
   |none=>rw[q]at a;cases a
   |some d=>rw[q]at a;cases a;rw[xQ t q];rfl
  |_=>cases e
def mV:ck D->cv RV
 |[.list ds]=>(on ds).map λbs=>.fz (.bool (bs.all id))
 |_=>CL
theorem Jg:yg K (λxs H Q=>∃(p:TM) (bs:ck Bool),xs=[.ref p]/\XG K H p (bs.map V.bl)/\Q (.bl (bs.all id)) H) mV:=by
 intro O H xs ds rv Q n f e q;unfold mV at e;split at e
 .rename_i g
  cases qs:on g with
  |none=>rw[qs]at e;cases e
  |some bs=>
   rw[qs]at e;cases e;cases f with
   |cons d b=>cases b;obtain⟨a,h,rfl,d,b⟩:=An d;have:=xQ b qs;subst this;exact⟨a,bs,rfl,d.sq,q.at (.bl _)⟩
 .cases e
def oy:ck D->cv (ck Int)
 |[]=>ax []
 |.int b::r=>(oy r).map (b::·)
 |_=>CL
theorem oJ:∀{xs:ck V} {ds:ck D} {bs:ck Int},VH O K H xs ds->oy ds=ax bs->xs=bs.map V.int
 |_,_,_,.nil,e=>by cases e;rfl
 |_,_,bs,.cons (ds:=r) h t,e=>by
  cases h with
  |int b=>
   have a:(oy r).map (b::·)=ax bs:=e;cases q:oy r with
   |none=>rw[q]at a;cases a
   |some d=>rw[q]at a;cases a;rw[oJ t q];rfl
  |_=>cases e
def xi(x:Int):ck Int->ck Int
 |[]=>[x]
 |y::r=>if x<=y then x::y::r else y::xi x r
def jv:ck Int->ck Int
 |[]=>[]
 |x::r=>xi x (jv r)
theorem nQ(x:Int):∀l,(xi x l).Perm (x::l)
 |[]=>Zs _
 |y::r=>by
  unfold xi;split
  .exact Zs _
  .exact((nQ x r).cons y).trans (amG x y r)
theorem jE:∀l,(jv l).Perm l
 |[]=>Zs _
 |x::r=>(nQ x _).trans ((jE r).cons x)
theorem oh(x:Int):∀l:ck Int,l.Pairwise (·<=·)->(xi x l).Pairwise (·<=·)
 |[],_=>by simp[xi]
 |y::r,h=>by
  unfold xi;obtain⟨d,f⟩:=Vj.mp h;split
  .rename_i a
   refine Vj.mpr ⟨λz b=>?_,h⟩;rcases TL.mp b with e|e
   .rw[e];exact a
   .have:=d z e;ext
  .rename_i a
   refine Vj.mpr ⟨λz b=>?_,oh x r f⟩;rcases TL.mp ((nQ x r).mem_iff.mp b)with e|e
   .rw[e];ext
   .exact d z e
theorem fR:∀l,(jv l).Pairwise (·<=·)
 |[]=>Xi
 |x::r=>oh x _ (fR r)
theorem nj{l m:ck Int}(d:l.Perm m)(e:l.Pairwise (·<=·))(hm:m.Pairwise (·<=·)):l=m:=d.eq_of_pairwise (λa b _ _ g f=>Int.le_antisymm g f) e hm
def tQ:ck D->cv RV
 |[.list ds]=>(match oy ds with
  |some a=>if a.length<64 then ax (.ow ((jv a).map .int))else CL
  |none=>CL)
 |_=>CL
theorem pE(ns:ck Int):VH O K H (ns.map V.int) (ns.map .int):=by
 induction ns with
 |nil=>exact .nil
 |cons n r a=>exact .cons (.int n) a
theorem Ah:yg K (λxs H Q=>∃(p:TM) (ns:ck Int),xs=[.ref p]/\XG K H p (ns.map V.int)/\ns.length<64/\∀(l:TM) (b:ck Int),H l=CL->b.Perm ns->b.Pairwise (·<=·)->Q (.ref l) (bz H l (.lst (b.map V.int)))) tQ:=by
 intro O H xs ds rv Q n d e q;unfold tQ at e;split at e
 .rename_i j
  cases qs:oy j with
  |none=>rw[qs]at e;cases e
  |some ns=>
   rw[qs]at e;dsimp only at e;split at e
   .rename_i f
    cases e;cases d with
    |cons h g=>cases g;obtain⟨a,m,rfl,h,g⟩:=An h;have:=oJ g qs;subst this;refine⟨a,ns,rfl,h.sq,f,λl b f d i=>?_⟩;have k:=nj (d.trans (jE ns).symm) i (fR ns);subst k;exact Fin.new (pE _) q l f
   .cases e
 .cases e
end
def RH(K:cL)(H:Hp)(x:V)(t:String):Prop:=match x with
 |.VX=>t= "NoneType"
 |.bl _=>t= "bool"
 |.int _=>t= "int"
 |.str _=>t= "str"
 |.ref a=>(t= "list"/\∃xs,XG K H a xs)\/(t= "tuple"/\∃xs,XA K H a xs)
 |_=>False
def HZ(K:cL):ck V->Hp->VK->Prop:=λxs H Q=>∃x n t b,xs=[x,.ty n]/\RH K H x t/\Uv K (.type t) (.type n)=ax b/\Q (.bl b) H
theorem Ae{X:Cx}:Wn X (.builtin "isinstance") (HZ X.K):=by
 intro g s p H xs B Q I r h;obtain⟨x,n,t,b,rfl,ty,e,q⟩:=h;obtain⟨u,v,rfl,f,w⟩:=pL r;obtain rfl:v=Tw.type n:=w;have d:∀j,EP X g p Q (.bool b) {s with toks:=j}:=λj=>⟨.bl b,H,I.tok j,rfl,q⟩;cases x with
 |VX=>cases(show t= "NoneType" from ty);cases(show u=Tw.none from f);exact WK PySem.W.kitx_none I.Zm True.intro e (λz=>nomatch z) d
 |bl y=>cases(show t= "bool" from ty);cases(show u=Tw.bool y from f);exact WK PySem.W.kitx_bool I.Zm True.intro e (λz=>nomatch z) d
 |int i=>cases(show t= "int" from ty);obtain⟨t,q⟩:=(show∃t,u=Tw.int i t from f);cases q;exact WK PySem.W.kitx_int I.Zm True.intro e (λz=>nomatch z) d
 |str y=>cases(show t= "str" from ty);obtain⟨t,q⟩:=(show∃t,u=Tw.str y t from f);cases q;exact WK PySem.W.kitx_str I.Zm True.intro e (λz=>nomatch z) d
 |ref a=>
  cases(show u=Tw.ref a from f);rcases ty with⟨rfl,xs,h⟩|⟨rfl,xs,h⟩
  .obtain⟨A,r,⟨o,k,m,l,_⟩,_⟩:=I.list h;exact WK PySem.W.kitx_list I.Zm ⟨_,m,l⟩ e (λz=>nomatch z) d
  .obtain⟨A,r,⟨o,m,l,_⟩,_⟩:=I.tuple h;exact WK PySem.W.kitx_tuple I.Zm ⟨o,m,l⟩ e (λz=>nomatch z) d
 |_=>exact(show False from ty).elim
section
variable{K:cL}{E:XK}{B O O':bU}{H0 H H':Hp}{σ:L2.St}{ρ ρ':aD}{v:V}
def CJ:D->cv String
 |.none=>ax "NoneType"
 |.bool _=>ax "bool"
 |.int _=>ax "int"
 |.str _=>ax "str"
 |.list _=>ax "list"
 |.tuple _=>ax "tuple"
 |.dict _=>CL
def Gs(n t:String):Bool:=n==t||(n== "int"&&t== "bool")
theorem EG{n t:String}(hn:n= "int"\/n= "bool"\/n= "str"\/n= "list"\/n= "tuple"){d:D}(a:CJ d=ax t):Uv K (.type t) (.type n)=ax (Gs n t):=by cases d<;>(cases a;try (rcases hn with rfl|rfl|rfl|rfl|rfl<;>rfl))
theorem Nc{x:V}{d:D}{t:String}(h:DX O K H x d)(e:CJ d=ax t):RH K H x t:=by
 cases d with
 |none=>cases e;cases h;rfl
 |bool b=>cases e;cases h;rfl
 |int b=>cases e;cases h;rfl
 |str b=>cases e;cases h;rfl
 |dict b=>cases e
 |list ds=>cases e;obtain⟨a,xs,rfl,f,_⟩:=An h;exact .inl ⟨rfl,xs,f.sq⟩
 |tuple ds=>cases e;obtain⟨a,xs,rfl,f,_⟩:=AB h;exact .inr ⟨rfl,xs,f.1⟩
def oY(n:String)(fa:FE):FE:=λρ=>(fa ρ).bind λa=>(Res.U1 (jb a.2 a.1)).bind λd=>(Res.U1 (CJ d)).bind λt=>.ok (.fz (.bool (Gs n t)),a.2)
theorem JN{n:String}{ta:TE}{fa:FE}(hn:n= "int"\/n= "bool"\/n= "str"\/n= "list"\/n= "tuple")(ha:EO K E ta fa):EO K E (G2 (HZ K) (i6 ta (i6 (tC (.ty n)) ou))) (oY n fa):=by intro B H0 O σ H ρ Q R w;refine ha B H0 O σ H ρ _ R (w.bind.imp λa b i x j h f g=>?_);obtain⟨d,q,b⟩:=b.U1;obtain⟨t,e,b⟩:=b.U1;exact⟨x,n,t,Gs n t,rfl,Nc (gP f g q) e,EG hn e,b i _ j h f (.bl _)⟩
end
section
variable{K:cL}
def xt:ck D->cv RV
 |[.int i]=>ax (.fz (.int i))
 |[.bool k]=>ax (.fz (.int (if k then 1 else 0)))
 |_=>CL
theorem JO:yg K (λxs H Q=>(∃i,xs=[.int i]/\Q (.int i) H)\/∃k,xs=[.bl k]/\Q (.int (if k then 1 else 0)) H) xt:=by
 intro O H xs ds rv Q n d e q;unfold xt at e;split at e
 .cases e
  cases d with
  |cons b a=>cases a;cases b;exact .inl ⟨_,rfl,q.at (.int _)⟩
 .cases e
  cases d with
  |cons b a=>cases a;cases b;exact .inr ⟨_,rfl,q.at (.int _)⟩
 .cases e
end
theorem zN{P:Ug}{w:Ux}{K:cL}{mg j:Str->cv Tw}{k:Nat}{fa a:TM}{m:U3}{x:Str}{F:FN}{b:TK}{vs:ck Tw}{ns:ck Int}
  (p:K.In b.heap) (d:b.heap.Ns T5 mg) (B:b.heap.Ns builtinsNs j) (f:∀x:Str,x≠ "__name__"->j x=UK x) (g:b.heap.NoLimit) (A:b.gens= #[])
  (ha:b.heap.get? a=ax {cls:=.type "list",data:=.seq vs.toArray}) (hi:IntsAre vs ns) (l:ns.length<=T8) (y:Wj k callerA)
  (J:∀base:Heap,K.In base->base.Ns T5 mg->FnOk P w K mg base kS k fa m [x] (sI K 1 F)) (i:∀(s:TK) (u:Tw),Zp s m ⟨[u],[]⟩ [(x,u)])
  (G:F [.list (ns.map .int)]=.ok (.fz (.bool Ld))):
  codeAny (model P w) callerA (.call (.ref fa) ⟨[.ref a],[]⟩) (λr s'=>r=.ok (.ret (.bool Ld))/\OldK b.heap s'.heap/\s'.os=b.os/\AllBare s'.gens) b:=by
 refine BV (sp:=λvs H Q E=>sI K 1 F vs H Q E\/(vs.length=1/\False)) p d B f g A ha hi l y (λbase t q=>(J base t q).imp λvs H Q E h=>?_) i (λH L C=>?_) λ_ _ _ h=>h
 .rcases h with h|h
  .exact h
  .exact h.2.elim
 .refine .inl ⟨rfl,Sf,[.list (ns.map .int)],λa z=>z.elim,.cons (.lst ⟨?_,λz=>z.elim⟩ (pE ns)) .nil,?_⟩
  .rcases C with h|⟨o,UD,n,h1,h2,h3,h4,h5,h6⟩
   .exact .inl h
   .have e:=p a o h1;rw[ha]at e;cases e;cases h4;exact .inr ⟨vs,0,h1,by rw[Tv];exact l,by simpa using h6⟩
  .rw[G];exact λv M s I=>by cases I;rfl
theorem OB{l:acT}{n k:Nat}{q:Ug}{i:ck Str}{N:(Str->cv Tw)->Heap->Prop}{A:Ux->Heap->Prop}{d:DefRec}{K:Params->cL}{F:FN}{x:Str}
  (hn:l.most=ax n) (m:n<=T8) (r:d.params.defaults=[]) (C:Wj k callerA)
  (J:∀(w:Ux) (h:Heap),A w h->(K w.params).In h)
  (O:∀(w:Ux) (mg:Str->cv Tw) (fa:TM) (h:Heap),(K w.params).In h->h.Ns T5 mg->mg d.name=ax (.ref fa)->
   ∃fd:U3,(∀(s:TK) (u:Tw),Zp s fd ⟨[u],[]⟩ [(x,u)])/\∀base:Heap,(K w.params).In base->base.Ns T5 mg->FnOk l.prog w (K w.params) mg base kS k fa fd [x] (sI (K w.params) 1 F))
  (L:∀ns:ck Int,ns.length<=n->F [.list (ns.map .int)]=.ok (.fz (.bool Ld))):
  PySem.W.WalkO q i N A l.row.toRowW d [] (λf vs=>af5 f vs):=by
 refine Att.attach_call hn r λw z y mg Q fa o P cd M a vs ns G Y R S H p v j e E=>?_;have B:=J w _ Y;obtain⟨fd,I,t⟩:=O w mg fa _ B G.T.g p;exact zN B G.T.g G.T.b G.T.builtins G.T.nolimit E v j (UH e m) C t I (L ns e)
theorem Rq{P:Ug}{w:Ux}{K:cL}{mg:Str->cv Tw}{base:Heap}{x a:Str}{st:Wo}{f:TM}{b:U3}{N ps:ck Str}{k n m:Nat}{g:FS}{e:FN}(F:ZE K x a st f b)(S:V1 N ps (az st))(hn:ps.length=n)(hm:N.length=m)(h:e=bN m g)
  (i:∀(d:Tw) (A:Ut) (outer:ck Env) (s:TK) (H:Hp) (E:XK),Wj k (A.deeper (UA a (az st) s.heap.objs.size f d))->
   ∃t,PSs (gx kS P w K mg base N a (az st) f d A outer s H E).nox (dr st) t/\SO K E t g):FnOk P w K mg base kS (k+1) f b ps (sI K n e):=by
 subst h hm;exact SI F S hn i
abbrev QV(P:Ug)(w:Ux)(K:cL)(mg:Str->cv Tw)(base:Heap)(k:Nat)(x:Str)(ps:ck Str)(n:Nat)(F:FN):Prop:=lx P w K mg base k x ps (sI K n F)
end L3
namespace L3
open PySem L2
abbrev nd(n:Nat):D:=.int (n:Int)
def cG(ns:ck Nat):ck D:=ns.map nd
theorem bS(ns:ck Nat):(cG ns).length=ns.length:=by unfold cG;rw[Tv]
theorem fk{i:Nat}(h:(cG ns)[i]?=ax d):∃n,ns[i]?=ax n/\d=nd n:=by
 unfold cG at h;rw[TU]at h;cases e:ns[i]? with
 |none=>rw[e]at h;cases h
 |some n=>rw[e]at h;exact⟨n,rfl,(Us h).symm⟩
theorem aq(a:α):Res.U1 (ax a)=.ok a:=rfl
theorem uH(a:α):g9 (Res.ok a)=.ok a:=rfl
theorem xA(i:Nat)(ρ:aD):ac i ρ=yL ρ i ρ[i]? :=rfl
theorem Db(ρ:aD)(i:Nat)(d:D):yL ρ i (ax (ax (.fz d)))=.ok (.fz d,ρ):=rfl
theorem Bb(ρ:aD)(i:Nat)(ds:ck D):yL ρ i (ax (ax (.ow ds)))=.ok (.pl i,ρ):=rfl
theorem jy(ds:ck D):qN (ax (ax (.ow ds)))=ax ds:=rfl
theorem mf(i:Int):IW (.int i)=ax i:=rfl
theorem vH(b:Bool):QF (.bool b)=ax b:=rfl
theorem mM(ds:ck D):bF [.tuple ds]=ax (.fz (nd ds.length)):=rfl
theorem iO(i j:Int):nc (.int i) (.int j)=ax (.fz (.bool (decide (i<j)))):=rfl
theorem li(i j:Int):qJ (.int i) (.int j)=ax (.fz (.bool (decide (i<=j)))):=rfl
theorem uA(i j:Int):oO (.int i) (.int j)=ax (.fz (.bool (decide (j<i)))):=rfl
theorem Dt(i j:Int):Eh (.int i) (.int j)=ax (.fz (.bool (decide (j<=i)))):=rfl
theorem wm(i j:Int):bq (.int i) (.int j)=ax (.fz (.int (i+j))):=rfl
theorem Dv(i j:Int):sP (.int i) (.int j)=ax (.fz (.int (i - j))):=rfl
theorem cC(h:0<j):br (.int i) (.int j)=ax (.fz (.int (i % j))):=by show(if IZ i j=Ld then _ else _)=_;rw[ak (show IZ i j=Ld from a4 h)]
theorem cI(h:0<j/\j<2^128):bT (.int i) (.int j)=ax (.fz (.int (i/j))):=by show(if Jt i j=Ld then _ else _)=_;rw[ak (show Jt i j=Ld from a4 h)]
theorem yy(h: -(2^64)<i/\i<2^64):zK (.int i) (.int j)=ax (.fz (.int (i*j))):=by show(if(iw i||iw j)=Ld then _ else _)=_;rw[ak (by rw[show iw i=Ld from a4 h,We])]
theorem He(h: -(2^64)<j/\j<2^64):zK (.int i) (.int j)=ax (.fz (.int (i*j))):=by show(if(iw i||iw j)=Ld then _ else _)=_;rw[ak (by rw[show iw j=Ld from a4 h,V4])]
theorem xJ(h:jB j):d8 [.int j]=ax (gR 0 j.toNat):=by show(if jB j then _ else _)=_;rw[ak h]
theorem u9(n:Nat):gR 0 n=cG (Uo n):=by unfold gR cG;apply Xs;intro k _;rw[Int.zero_add]
theorem kH(h:n<=1000000):d8 [nd n]=ax (cG (Uo n)):=by rw[xJ (by unfold jB;ext),u9,UI]
theorem cJ(h:f ρ=.ok (.nx ρ1)):aj f g ρ=g ρ1:=by unfold aj;rw[h];rfl
theorem Li(h:f ρ=.ok (.rt rv)):aj f g ρ=.ok (.rt rv):=by unfold aj;rw[h];rfl
theorem qW(h:c ρ=.ok (Ld,ρ1)):ce c f g ρ=f ρ1:=by unfold ce;rw[h];rfl
theorem tE(h:c ρ=.ok (Tx,ρ1)):ce c f g ρ=g ρ1:=by unfold ce;rw[h];rfl
theorem j7(h:fi ρ=.ok (ds,ρ1)):hG fi gt b ρ=ot gt b ds ρ1:=by unfold hG;rw[h];rfl
theorem wI(h:j<=1000000/\i.natAbs<2^64):nt (.int i) (nd j)=ax (.fz (.int (i^j))):=by show(if Du i (j:Int)=Ld then ax (RV.fz (.int (i^((j:Nat):Int).toNat)))else CL)=_;rw[ak (by unfold Du;exact a4 ⟨by ext,by ext,h.2⟩),UI]
theorem C2:nt (.int 10) (.int 18)=ax (.fz (.int (10^18))):=wI ⟨by decide,by decide⟩
theorem yD(I:Nat->aD->Prop):∀(ds:ck D) (k:Nat) (ρ:aD),I k ρ->(∀i d ρ,ds[i]?=ax d->I (k+i) ρ->∃ρ1 ρ2,gt (.fz d) ρ=.ok ρ1/\(b ρ1=.ok (.nx ρ2)\/b ρ1=.ok (.ct ρ2))/\I (k+i+1) ρ2)->
  ∃ρ',ot gt b ds ρ=.ok (.nx ρ')/\I (k+ds.length) ρ'
 |[],k,ρ,h0,_=>⟨ρ,rfl,h0⟩
 |d::r,k,ρ,h0,hs=>by
  obtain⟨ρ1,ρ2,l,a,j⟩:=hs 0 d ρ rfl h0;obtain⟨ρ',h,g⟩:=yD I r (k+1) ρ2 j λi m ρ' hi f=>by
   have e:k+1+i=k+(i+1):=by ext
   rw[e]at f⊢;exact hs (i+1) m ρ' (by simpa using hi) f
  have e:k+(r.length+1)=k+1+r.length:=by ext
  refine⟨ρ',?_,by rw[TJ,e];exact g⟩;show(gt (.fz d) ρ).bind _=_;rw[l,fo];rcases a with a|a<;>(rw[a,fo];exact h)
theorem Cv(I:Nat->aD->Prop)(e:I 0 ρ)(a:∀i d ρ,ds[i]?=ax d->I i ρ->∃ρ1 ρ2,gt (.fz d) ρ=.ok ρ1/\(b ρ1=.ok (.nx ρ2)\/b ρ1=.ok (.ct ρ2))/\I (i+1) ρ2):
  ∃ρ',ot gt b ds ρ=.ok (.nx ρ')/\I ds.length ρ':=by
 have:=yD I ds 0 ρ e (by simpa using a)
 simpa using this
def ju(gt:FG)(ft:FT)(fe:FE)(d:D)(ρ:aD):Res (cv D×aD):=(gt (.fz d) ρ).bind λe=>(ft e).bind λb=>if b.1=Ld then(fe b.2).bind λa=>(Res.U1 (se a.2 a.1)).bind λx=>.ok (ax x.1,bX x.2)else .ok (CL,bX b.2)
theorem pR(h:ju gt ft fe d ρ=.ok (o,ρ'))(g:acc.length<1000000):cf gt ft fe (d::r) ρ acc=cf gt ft fe r ρ' (acc++o.toList):=by
 unfold ju at h;show(gt (.fz d) ρ).bind _=_;cases q1:gt (.fz d) ρ with
 |er x=>rw[q1]at h;cases h
 |bad=>rw[q1]at h;cases h
 |ok f=>
  rw[q1,fo]at h;rw[fo];cases q2:ft f with
  |er x=>rw[q2]at h;cases h
  |bad=>rw[q2]at h;cases h
  |ok b=>
   obtain⟨b,e⟩:=b;rw[q2,fo]at h;rw[fo];cases b with
   |false=>rw[ar Tz]at h⊢;cases h;rw[ab6,UQ]
   |true=>
    rw[ak rfl]at h⊢;cases q3:fe e with
    |er x=>rw[q3]at h;cases h
    |bad=>rw[q3]at h;cases h
    |ok a=>
     rw[q3,fo]at h;rw[fo];cases q4:se a.2 a.1 with
     |none=>rw[q4]at h;cases h
     |some x=>rw[q4]at h;cases h;show(if acc.length<1000000 then _ else _)=_;rw[ak g];rfl
theorem uT(I:aD->Prop)(f:D->cv D):∀(ds:ck D) (ρ:aD) (acc:ck D),I ρ->acc.length+ds.length<=1000000->(∀d∈ds,∀ρ,I ρ->∃ρ',ju gt ft fe d ρ=.ok (f d,ρ')/\I ρ')->cf gt ft fe ds ρ acc=.ok (acc++ds.filterMap f)
 |[],ρ,acc,_,_,_=>by show Res.ok acc=_;simp
 |d::r,ρ,acc,h0,hl,hs=>by
  obtain⟨ρ',b,a⟩:=hs d TC ρ h0;rw[TJ]at hl;rw[pR b (by ext),uT I f r ρ' _ a (by
   have:(f d).toList.length<=1:=by cases f d<;>simp
   rw[T4];ext) λe g=>hs e (TH _ g)]
  cases q:f d with
  |none=>rw[aaL q,ab6,UQ]
  |some y=>rw[aaM q,YM,VI];rfl
theorem F6(I:aD->Prop)(f:D->cv D)(e:I ρ)(b:ds.length<=1000000)(a:∀d∈ds,∀ρ,I ρ->∃ρ',ju gt ft fe d ρ=.ok (f d,ρ')/\I ρ'):g9 (cf gt ft fe ds ρ [])=.ok (ds.filterMap f):=by rw[uT I f ds ρ [] e (by simpa using b) a];rfl
theorem wv(a b:Nat):decide ((a:Int)=(b:Int))=decide (a=b):=by
 by_cases h:a=b
 .rw[a4 h,a4 (by rw[h])]
 .rw[a5 h,a5 (by ext)]
theorem IA(a b:Nat):lD.eqv (nd a) (nd b)=decide (a=b):=wv a b
theorem gC(a b:Int):bV (.int a) (.int b)=ax (.fz (.bool (decide (a=b)))):=by rfl
theorem kP(a b:Int):iG (.int a) (.int b)=ax (.fz (.bool (!decide (a=b)))):=by rfl
theorem wN(a b:Nat):bV (nd a) (nd b)=ax (.fz (.bool (decide (a=b)))):=by rw[gC,wv]
theorem A4(a b:Nat):iG (nd a) (nd b)=ax (.fz (.bool (!decide (a=b)))):=by rw[kP,wv]
theorem sg:∀ns:ck Nat,lD.canLayAll0 (cG ns)=Ld
 |[]=>rfl
 |n::r=>by show(lD.canLay0 (nd n)&&lD.canLayAll0 (cG r))=Ld;rw[sg r];rfl
theorem yl:∀ns:ck Nat,lD.depthAll (cG ns)=0
 |[]=>rfl
 |n::r=>by show max (lD.depth (nd n)) (lD.depthAll (cG r))=0;rw[yl r];rfl
theorem y4:∀xs ys:ck Nat,lD.eqvAll (cG xs) (cG ys)=decide (xs=ys)
 |[],[]=>rfl
 |[],_::_=>rfl
 |_::_,[]=>rfl
 |n::r,m::t=>by show(lD.eqv (nd n) (nd m)&&lD.eqvAll (cG r) (cG t))=_;rw[y4 r t,IA];rw[VN];simp
theorem Bu(ns:ck Nat):jP (.tuple (cG ns))=Ld:=by show(lD.canLayAll0 (cG ns)&&decide (lD.depthAll (cG ns)+1<=64))=Ld;rw[sg,yl];rfl
theorem Cq{i:Nat}(h:xs[i]?=ax v):mL xs (i:Int)=ax v:=xZ h
theorem Aj(h:ds[i]?=ax d):aG (.tuple ds) (nd i)=ax (.fz d):=by show(mL ds (i:Int)).map RV.fz=_;rw[Cq h];rfl
theorem PM(h:ds[i]?=ax d):aG (.list ds) (nd i)=ax (.fz d):=by show(mL ds (i:Int)).map RV.fz=_;rw[Cq h];rfl
section
variable{ρ ρ1 ρ2 ρ3:aD}{fa Z fc fe:FE}{pa pb pv:PV}{dx dy d:D}{rv:RV}{ps:ck PV}{ds:ck D}
theorem af(h:ρ[i]?=ax (ax (.fz d))):ac i ρ=.ok (.fz d,ρ):=by rw[xA,h,Db]
theorem bQ(h:ρ[i]?=ax (ax (.ow ds))):ac i ρ=.ok (.pl i,ρ):=by rw[xA,h,Bb]
theorem av:pC d ρ=.ok (.fz d,ρ):=rfl
theorem aO(ha:fa ρ=.ok (pa,ρ1))(g:Z ρ1=.ok (pb,ρ2))(b:jb ρ2 (dZ pa)=ax dx)(a:jb ρ2 pb=ax dy)(e:f dx dy=ax rv):ah f fa Z ρ=.ok (rv.pv,ρ2):=by unfold ah;rw[ha,fo,g,fo,b,aq,fo,a,aq,fo,e,aq,fo]
theorem Ed(ha:fa ρ=.ok (pa,ρ1))(a:jb ρ1 pa=ax dx)(b:f dx=ax rv):B9 f fa ρ=.ok (rv.pv,ρ1):=by unfold B9;rw[ha,fo,a,aq,fo,b,aq,fo]
theorem aw(ha:fa ρ=.ok (pa,ρ1))(a:jb ρ1 pa=ax (.bool b)):ag fa ρ=.ok (b,ρ1):=by unfold ag;rw[ha,fo,a,aq,fo,vH,aq,fo]
theorem bR(ha:f ρ=.ok (a,ρ1))(e:a=Ld->g ρ1=.ok (b,ρ1)):di f g ρ=.ok (a&&b,ρ1):=by
 unfold di;rw[ha,fo];cases a with
 |true=>rw[ak rfl,e rfl,Xa]
 |false=>rw[ar Tz,Yz]
theorem bu(ha:f ρ=.ok (a,ρ1))(e:a=Tx->g ρ1=.ok (b,ρ1)):iR f g ρ=.ok (a||b,ρ1):=by
 unfold iR;rw[ha,fo];cases a with
 |true=>rw[ak rfl,We]
 |false=>rw[ar Tz,e rfl,UJ]
theorem b6(ha:f ρ=.ok (a,ρ1)):d9 f ρ=.ok (!a,ρ1):=by unfold d9;rw[ha,fo]
theorem mz(ha:ag fa ρ=.ok (a,ρ1))(e:a=Ld->Z ρ1=.ok (.fz (.bool b),ρ1)):j8 fa Z ρ=.ok (.fz (.bool (a&&b)),ρ1):=by
 unfold j8;rw[ha,fo];cases a with
 |true=>rw[ak rfl,e rfl,Xa]
 |false=>rw[ar Tz,Yz]
theorem xh(ha:ag fa ρ=.ok (a,ρ1))(e:a=Tx->Z ρ1=.ok (.fz (.bool b),ρ1)):Mr fa Z ρ=.ok (.fz (.bool (a||b)),ρ1):=by
 unfold Mr;rw[ha,fo];cases a with
 |true=>rw[ak rfl,We]
 |false=>rw[ar Tz,e rfl,UJ]
theorem ED(ha:ag fa ρ=.ok (a,ρ1)):zy fa ρ=.ok (.fz (.bool (!a)),ρ1):=by unfold zy;rw[ha,fo]
theorem ai:ae ρ=.ok ([],ρ):=rfl
theorem ad(ha:fa ρ=.ok (pa,ρ1))(a:fr ρ1=.ok (ps,ρ2)):aa fa fr ρ=.ok (dZ pa::ps,ρ2):=by unfold aa;rw[ha,fo,a,fo]
theorem bC(ha:fr ρ=.ok (ps,ρ1))(hd:jX ρ1 ps=ax ds)(a:f ds=ax rv):b8 f fr ρ=.ok (rv.pv,ρ1):=by unfold b8;rw[ha,fo,hd,aq,fo,a,aq,fo]
theorem eH(ha:fr ρ=.ok (ps,ρ1))(hd:jk ρ1 ps=ax (ds,ρ2))(hn:ds.length=n)(a:F ds=.ok rv):aK F n fr ρ=.ok (rv.pv,ρ2):=by unfold aK;rw[ha,fo,hd,aq,fo];dsimp only;rw[ak hn,a,uH,fo]
theorem gy(ha:fr ρ=.ok (ps,ρ1))(hd:jk ρ1 ps=ax (ds,ρ2))(hn:ds.length<=1000):bM fr ρ=.ok (.fz (.tuple ds),ρ2):=by unfold bM;rw[ha,fo,hd,aq,fo];dsimp only;rw[ak hn]
theorem lM(ha:fr ρ=.ok (ps,ρ1))(hd:jk ρ1 ps=ax (ds,ρ2))(hn:ds.length<=1000):b7 fr ρ=.ok (.ow ds,ρ2):=by unfold b7;rw[ha,fo,hd,aq,fo];dsimp only;rw[ak hn]
theorem K8(ha:fa ρ=.ok (pa,ρ1))(a:jb ρ1 pa=ax dx)(b:CJ dx=ax t):oY n fa ρ=.ok (.fz (.bool (Gs n t)),ρ1):=by unfold oY;rw[ha,fo,a,aq,fo,b,aq,fo]
theorem lZ:cH ρ=.ok (CL,ρ):=rfl
theorem lQ(ha:fa ρ=.ok (pa,ρ1))(a:jb ρ1 pa=ax (.int i)):bK fa ρ=.ok (ax i,ρ1):=by unfold bK;rw[ha,fo,a,aq,fo,mf,aq,fo]
theorem yj(ha:fa ρ=.ok (pa,ρ1))(b:fl ρ1=.ok (lo,ρ2))(e:fh ρ2=.ok (hi,ρ3))(a:jb ρ3 (dZ pa)=ax dx)(g:f dx lo hi=ax rv):ke f fa fl fh ρ=.ok (rv.pv,ρ3):=by unfold ke;rw[ha,fo,b,fo,e,fo,a,aq,fo,g,aq,fo]
theorem iP(g:ρ[i]?=ax (ax (.ow es)))(ha:fe ρ=.ok (pa,ρ1))(b:se ρ1 pa=ax (d,ρ2))(f:ρ2[i]?=ax (ax (.ow ds)))(e:ds.length<1000000)(a:ρ2.set i (ax (.ow (ds++[d])))=x):iU i fe ρ=.ok (.fz .none,x):=by unfold iU;rw[g,jy,aq,fo,ha,fo,b,aq,fo];dsimp only;rw[f,jy,aq,fo,ak e,a]
theorem Dq(h:ρ[i]?=ax (ax (.ow es)))(ha:fe ρ=.ok (pa,ρ1))(e:jb ρ1 pa=ax (.int n))(g:ρ1[i]?=ax (ax (.ow ds)))(hn: -(2^63)<=n/\n<2^63)(f:seqIndex? n ds.length=ax k)(a:ds[k]?=ax y)
  (b:ρ1.set i (ax (.ow (ds.eraseIdx k)))=x):Ai i fe ρ=.ok (.fz y,x):=by
 unfold Ai;rw[h,jy,aq,fo,ha,fo,e,aq,fo,mf,aq,fo,g,jy,aq,fo,ak hn,f,aq,fo,a,aq,fo,b]
theorem bg(hi:fi ρ=.ok (ds,ρ1))(b:rQ ρ1 fv=ax (cs,ρ2))(a:g9 (cf gt ft fe ds (T1 n CL++cs.map λd=>ax (.fz d)) [])=.ok xs):bE n fv fi gt ft fe ρ=.ok (.ow xs,ρ2):=by unfold bE;rw[hi,fo];dsimp only;rw[b,aq,fo];dsimp only;rw[a,fo]
theorem iV:aG (.tuple (a::r)) (.int 0)=ax (.fz a):=Aj rfl
theorem qU:aG (.tuple (a::b::r)) (.int 1)=ax (.fz b):=Aj rfl
theorem Fg:aG (.tuple (a::b::c::r)) (.int 2)=ax (.fz c):=Aj rfl
theorem nr:aG (.list (a::r)) (.int 0)=ax (.fz a):=PM rfl
theorem wf:aG (.list (a::b::r)) (.int 1)=ax (.fz b):=PM rfl
theorem JX(xs:ck Nat)(h:∀x∈xs,f (nd x)=if p x=Ld then ax (nd x)else CL):(cG xs).filterMap f=cG (xs.filter p):=by
 induction xs with
 |nil=>rfl
 |cons x r e=>
  have a:=h x TC;have b:=e λy g=>h y (TH _ g);show((nd x)::cG r).filterMap f=_;cases q:p x with
  |true=>rw[q,ak rfl]at a;rw[aaM a,b,List.filter_cons_of_pos q];rfl
  |false=>rw[q,ar Tz]at a;rw[aaL a,b,List.filter_cons_of_neg (by rw[q];exact Tz)]
theorem dc(ha:fe ρ=.ok (pa,ρ1))(a:se ρ1 pa=ax (d,ρ2))(b:ef d=ax es):hW fe ρ=.ok (es,ρ2):=by unfold hW;rw[ha,fo,a,aq,fo];dsimp only;rw[b,aq,fo]
theorem iv(ha:fr ρ=.ok (ps,ρ1))(hd:jX ρ1 ps=ax ds)(a:f ds=ax es):hV f fr ρ=.ok (es,ρ1):=by unfold hV;rw[ha,fo,hd,aq,fo,a,aq,fo]
theorem uw(ha:fr ρ=.ok (ps,ρ1))(hd:jk ρ1 ps=ax ([d],ρ2))(a:ef d=ax es):L3.ph fr ρ=.ok (aZ 0 es,ρ2):=by unfold L3.ph;rw[ha,fo,hd,aq,fo];dsimp only;rw[a,aq,fo]
theorem fy(b:fe ρ=.ok (pv,ρ1))(a:g pv ρ1=.ok ρ2)(hn:ρ2=ρ3):aN fe g ρ=.ok (.nx ρ3):=by unfold aN;rw[b,fo];dsimp only;rw[a,fo,hn]
theorem gF(a:fe ρ=.ok (pv,ρ1)):cj fe ρ=.ok (.nx ρ1):=by unfold cj;rw[a,fo]
theorem xD(b:fe ρ=.ok (pv,ρ1))(a:zB ρ1 pv=ax rv):aL fe ρ=.ok (.rt rv):=by unfold aL;rw[b,fo];dsimp only;rw[a,aq,fo]
theorem lY(e:gt (.fz d) ρ=.ok ρ1)(b:ft ρ1=.ok (Ld,ρ2))(g:fe ρ2=.ok (pv,ρ3))(a:se ρ3 pv=ax (x,ρ4))(f:bX ρ4=ρ5):ju gt ft fe d ρ=.ok (ax x,ρ5):=by unfold ju;rw[e,fo,b,fo,ak rfl,g,fo,a,aq,fo,f]
theorem Rf(b:gt (.fz d) ρ=.ok ρ1)(a:ft ρ1=.ok (Tx,ρ2))(e:bX ρ2=ρ5):ju gt ft fe d ρ=.ok (CL,ρ5):=by unfold ju;rw[b,fo,a,fo,ar Tz,e]
end
end L3
namespace PySem
open Sem (wp)
open Builtin
open AutoSeq1 (wpAny_loadPart')
theorem nB:fillsNumberSlot (.type "tuple") "mul"=pure Tx:=
 fillsNumberSlot_seq F.slot_tuple_mul.lookup (by left) F.slot_tuple_rmul.lookup (by left)
theorem um:seqRepeat? (.type "tuple")=pure (ax (.builtin "tuple.__mul__")):=by unfold seqRepeat?;rw[seqSlot_of (name:= "__mul__") F.slot_tuple_mul.lookup (by left),seqSlot_of (name:= "__rmul__") F.slot_tuple_rmul.lookup (by left)];rfl
theorem pP(a:Int)(t:Tok)(l:TM)(b:Array Tw)(n:Nat)(dct:cv TM)(f:Array (cv Tw)):
  Meets (Um.«int.__rmul__» ⟨[.int a t,.ref l],[]⟩) (λ_ R s=>s.heap.get? l=ax {cls:=.type "tuple",dict:=dct,data:=.seq b n,slots:=f}/\R (.ok (.ret Tw.notImplemented)) s):=
 .of_wp λe w A R s h=>by obtain⟨k,g,d,i,j⟩:=s;obtain⟨m,h⟩:=h;wp_walk;exact⟨_,rfl,h⟩
theorem u0(l:TM)(a:Array Tw)(n:Nat)(dct:cv TM)(e:Array (cv Tw))(u:Tok):
  Meets (Um.«tuple.__mul__» ⟨[.ref l,.int 1 u],[]⟩) (λ_ R s=>s.heap.get? l=ax {cls:=.type "tuple",dict:=dct,data:=.seq a n,slots:=e}/\R (.ok (.ret (Tw.ref l))) s):=
 .of_wp λb w A R s h=>by
  obtain⟨j,g,d,f,i⟩:=s;obtain⟨k,h⟩:=h
  wp_walk
  exact⟨_,rfl,h⟩
theorem uS(l:TM)(a:Array Tw)(n:Nat)(dct:cv TM)(j:Array (cv Tw))(x:Int)(u:Tok)(I:2<=x)(r:x<=1000)(i:a.isEmpty=Tx)(p:a.size<=1000):
  Meets (Um.«tuple.__mul__» ⟨[.ref l,.int x u],[]⟩) (λ_ R s=>s.heap.get? l=ax {cls:=.type "tuple",dict:=dct,data:=.seq a n,slots:=j}/\R (.ok (.ret (Tw.ref s.heap.objs.size))) {s with heap:=s.heap.push {cls:=Tw.type "tuple",data:=Z2.seq (Yj (λx1 x2=>x1++x2) #[] (T1 x.toNat a))},toks:=s.toks}):=
 .of_wp λe w A R s h=>by
  obtain⟨G,g,d,E,F⟩:=s;obtain⟨q,h⟩:=h;have C:¬(decide (x< -(2^63))||decide (x≥2^63))=Ld:=by simp;ext
  have B:(x==1)=Tx:=by simp;ext
  have z:decide (x<=0)=Tx:=by simp;ext
  have c0:(a.isEmpty||x==1)=Tx:=by rw[i,B];rfl
  have J:(decide (x<=0)||a.isEmpty)=Tx:=by rw[i,z];rfl
  have f:(a.size:Int)*x<=1000000:=by have:(a.size:Int)*x<=1000*1000:=Int.mul_le_mul (by ext) r (by ext) (by ext);ext
  have y:¬(a.size:Int)*x>(2^63 - 1)/8:=by ext
  have v:¬Tuple.tupleTooMany ((a.size:Int)*x)=Ld:=by
   unfold Tuple.tupleTooMany;simp;have:(T8:Nat)=16777216:=by decide
   ext
  wp_walk
  rw[ar C]
  wp_walk using XM q
  rw[ar y];dsimp only;rw[ar v];have o:(Yj (λx1 x2=>x1++x2) #[] (T1 x.toNat a)).size<=T8:=by
   have t:∀(m:Nat) (b:Array Tw),(Yj (λx1 x2=>x1++x2) b (T1 m a)).size=b.size+m*a.size:=by
    intro m
    induction m with
    |zero=>intro b;simp
    |succ m k=>intro b;rw[UU,WO,k,Array.size_append,abu];ext
   rw[t];have H:x.toNat*a.size<=1000*1000:=aeF (by ext) p;have:(T8:Nat)=16777216:=by decide
   simp;ext
  wp_walk
  exact⟨_,rfl,h⟩
end PySem
namespace L3
open PySem PySem.Spec PyProof.Rows L2
def HY(K:cL):R2:=λx y H Q=>∃(a:TM) (k:Nat) (xs:ck V),x=.ref a/\y=.int (k:Int)/\XA K H a xs/\xs≠[]/\1<=k/\k<=1000/\xs.length<=1000/\
 (k=1->Q (.ref a) H)/\(2<=k->∀p,H p=CL->Q (.ref p) (bz H p (.tup (T1 k xs).flatten)))
theorem EJ:OpR X (V2 .Mult) (HY X.K):=by
 intro g s R H x y v u Q I A z h;obtain⟨a,k,xs,rfl,rfl,E,P,Y,M,J,C,B⟩:=h;cases A;obtain⟨t,rfl⟩:=z;obtain⟨e,r,G,U⟩:=I.tuple E;obtain⟨⟨O,dd,m,f⟩,d,l,n,j⟩:=id G;simp only at l j;subst l j;have i:=r.length;refine ab5 (by decide) ⟨_,d,rfl⟩ (λw=>ZH w k t) nB F.fills_int_mul F.slot_int_rmul um F.slot_int_index.lookup
  (VU F.slot_int_rmul (ZH s k t) F.entry_int_rmul (F.args_int_rmul_2 _ _) (pP k t a e.toArray n dd f) ⟨d,rfl,⟨_,d,rfl⟩,?_⟩)
 by_cases L:k=1
 .subst L;exact VU F.slot_tuple_mul ⟨_,d,rfl⟩ F.entry_tuple_mul (F.args_tuple_mul_2 _ _) (u0 a e.toArray n dd f t) ⟨d,⟨.ref a,H,I,rfl,C rfl⟩⟩
 .refine VU F.slot_tuple_mul ⟨_,d,rfl⟩ F.entry_tuple_mul (F.args_tuple_mul_2 _ _) (uS a e.toArray n dd f k t (by ext) (by ext) ?_ (by rw[T3];ext)) ⟨d,?_⟩
  .cases e with
   |nil=>cases r;exact a7 rfl P
   |cons y S=>rfl
  .have N:Yj (λp o=>p++o) #[] (T1 ((k:Nat):Int).toNat e.toArray)=(T1 k e).flatten.toArray:=by
    have:=na e k [];rw[Xn]at this;rw[UI];exact this
   rw[N];refine⟨.ref s.heap.objs.size,_,I.laid (λb T q=>cM _ q) (TQ _) ?_,rfl,B (by ext) _ (I.Vp.fresh (TQ _))⟩;refine⟨?_,_,r.rep k,ZV.new _ _⟩;rw[xP];exact UH (aeF M J) (by decide)
def HV(K:cL):R2:=λx y H Q=>B6 K x y H Q\/HY K x y H Q
theorem EW:OpR X (V2 .Mult) (HV X.K):=OpR.or Gg EJ
def fE:D->D->cv RV
 |.tuple xs,.int k=>if xs≠[]/\1<=k/\k<=1000/\xs.length<=1000 then ax (.fz (.tuple (T1 k.toNat xs).flatten))else CL
 |d,e=>zK d e
theorem BR{K:cL}:jY K (HV K) fE:=by
 intro O H x y dx j rv Q n f d e q;unfold fE at e;split at e
 .rename_i ds k
  split at e
  .rename_i g
   cases e;cases d;obtain⟨a,xs,rfl,h,b⟩:=AB f;obtain⟨m,rfl⟩:∃m:Nat,k=(m:Int):=⟨k.toNat,by ext⟩;rw[UI]at q;refine .inr ⟨a,m,xs,rfl,rfl,h.1,λz=>g.1 (b.ne.mp z),by ext,by ext,by rw[b.length];exact g.2.2.2,λe=>?_,λ_=>Fin.adD (b.flat m) n q⟩;subst e;have i:(T1 1 ds).flatten=ds:=by simp
   rw[i]at q;exact q.at (.tup h b)
  .cases e
 .exact .inl (Fc O H x y dx j rv Q n f d e q)
theorem qm(i j:Int):fE (.int i) (.int j)=zK (.int i) (.int j):=rfl
theorem gY(h: -(2^64)<i/\i<2^64):fE (.int i) (.int j)=ax (.fz (.int (i*j))):=(qm i j).trans (yy h)
theorem BN(h: -(2^64)<j/\j<2^64):fE (.int i) (.int j)=ax (.fz (.int (i*j))):=(qm i j).trans (He h)
end L3
namespace PySem
open Sem (wp)
open Builtin Builtin.Str
def itAt:Bool->Heap->TM->TM->Nat->Prop
 |true,h,it,a,i=>h.IsTupleIter it a i
 |false,h,it,a,i=>h.IsListIter it a i
def sqAt:Bool->Heap->TM->Array Tw->Prop
 |true,h,a,xs=>h.IsTuple a xs
 |false,h,a,xs=>h.IsList a xs
def lw:Bool->String
 |true=> "tuple_iterator"
 |false=> "list_iterator"
theorem itAt.ext(x:itAt b h it a i)(e:Heap.ExtBut c h h')(n:it≠c):itAt b h' it a i:=by
 cases b with
 |true=>exact Heap.IsTupleIter.extBut x e n
 |false=>exact Heap.IsListIter.extBut x e n
theorem itAt.to(x:itAt b h it a i)(e:∀o,h.get? it=ax o->h'.get? it=ax o):itAt b h' it a i:=by
 cases b with
 |true=>exact Heap.IsTupleIter.at x e
 |false=>exact Heap.IsListIter.at x e
theorem itAt.live(x:itAt b h it a i):∃o,h.get? it=ax o/\∀v,o.data≠.cell v:=by
 cases b with
 |true=>obtain⟨o,e,_,d⟩:=(show h.IsTupleIter it a i from x);exact⟨o,e,λv z=>by rw[d]at z;cases z⟩
 |false=>obtain⟨o,e,_,d⟩:=(show h.IsListIter it a i from x);exact⟨o,e,λv z=>by rw[d]at z;cases z⟩
theorem sqAt.ext(x:sqAt b h a xs)(e:Heap.ExtBut c h h')(n:a≠c):sqAt b h' a xs:=by
 cases b with
 |true=>exact Heap.IsTuple.extBut x e n
 |false=>exact Heap.IsList.extBut x e n
theorem sqAt.psh(x:sqAt b h a xs)(o:Obj):sqAt b (h.push o) a xs:=by
 cases b with
 |true=>exact Heap.IsTuple.push x o
 |false=>exact Heap.IsList.push x o
theorem sqAt.lt(x:sqAt b h a xs):a<h.objs.size:=by
 cases b with
 |true=>obtain⟨o,e,_⟩:=(show h.IsTuple a xs from x);exact c5 e
 |false=>obtain⟨o,e,_⟩:=(show h.IsList a xs from x);exact c5 e
section
variable{prog:Ug}{w:Ux}{A:Ut}{E:Tw->TK->Prop}{s:TK}
theorem oz(hi:itAt b s.heap it l i)(d:sqAt b s.heap l xs)(a:xs[i]?=ax x)
  (q:∀h',itAt b h' it l (i+1)->Heap.SameBut it s.heap h'->Q x {s with heap:=h'}):wpAny (model prog w) A (SmallTypes.nextOf (.ref it)) Q E s:=by
 cases b with
 |true=>exact i8 hi d a q
 |false=>exact wpAny_nextOf_list_item hi d a q
theorem tT(f:A.handled=CL)(hi:itAt b s.heap it l i)(d:sqAt b s.heap l xs)(a:xs[i]?=CL)
  (q:∀h' e,Heap.ExtBut it s.heap h'->(∃o,h'.get? e=ax o/\o.cls=.type "StopIteration")->E (.ref e) {s with heap:=h'}):wpAny (model prog w) A (SmallTypes.nextOf (.ref it)) Q E s:=by
 cases b with
 |true=>exact gz f hi d a q
 |false=>exact wpAny_nextOf_list_end f hi d a q
theorem kx(a:sqAt b s.heap l xs)
  (q:Q (.ref s.heap.objs.size) {s with heap:=s.heap.push {cls:=.type (lw b),data:=.fields #[.ref l,.int 0 0]}}):wpAny (model prog w) A (pyIter (.ref l)) Q E s:=by
 cases b with
 |true=>exact Wd a q
 |false=>exact Y8 a q
theorem zX{Q:Tw->TK->Prop}(D:Z3 z TI TO i1 i2 l1 l2)(S:abz s.heap z TI TO .none)
  (hTI:IsPair s.heap TI (.ref i1) (.ref i2)) (hTO:IsPair s.heap TO a b) (h1:itAt b1 s.heap i1 l1 n) (h2:itAt b2 s.heap i2 l2 n) (hl1:sqAt b1 s.heap l1 xs) (hl2:sqAt b2 s.heap l2 ys) (hx:xs[n]?=ax x) (hy:ys[n]?=ax y)
  (q:∀h',abz h' z TI TO (rawInt s.heap.objs.size)->IsPair h' TO x y->itAt b1 h' i1 l1 (n+1)->itAt b2 h' i2 l2 (n+1)->IsPair h' s.heap.objs.size x y->h'.objs.size=s.heap.objs.size+1->
   (∀c o,c≠z->c≠TO->c≠i1->c≠i2->s.heap.get? c=ax o->h'.get? c=ax o)->Q (.ref s.heap.objs.size) {s with heap:=h'}):
  wpAny (model prog w) A (Um.«zip.__next__» ⟨[.ref z],[]⟩) (λfin s'=>∃v,fin=.done (.ret v)/\Q v s') E s:=by
 show wpAny _ _ (field (.ref z) 2>>=_) _ _ _;refine OK (UL S rfl rfl ?_);show wpAny _ _ (field (.ref z) 3>>=_) _ _ _;refine OK (UL S rfl rfl ?_);refine OK (V3 hTI rfl ?_);show wpAny _ _ (SmallTypes.ownedTupleIsFree (.ref z)>>=_) _ _ _;refine OK ?_;unfold SmallTypes.ownedTupleIsFree;refine OK (UL S rfl rfl (TR ?_));simp only[if_true];refine OK (aby ?_);refine OK (UL S rfl rfl ?_);refine OK (Wt S (by simp) λk₁ p f=>?_);have aee:=p;clear p;refine OK ?_;simp only[adE,adP,Ym,aaj];refine OK (OK (Zz ?_));show wpAny _ _ (SmallTypes.nextOf (.ref i1)>>=_) _ _ _;refine OK (oz (h1.ext f.extBut D.i1z) (hl1.ext f.extBut D.l1z) hx λk₂ X h=>TR ?_);have H:=h.extBut _ _ D.TOi1 (f.extBut _ _ D.TOz hTO);refine OK (V3 H rfl ?_);refine OK (Y9 H λk₃ G g=>?_);have K:=G;clear G;refine OK (aaN (TR ?_));refine OK (OK (Zz ?_));show wpAny _ _ (SmallTypes.nextOf (.ref i2)>>=_) _ _ _;refine OK (oz (((h2.ext f.extBut D.i2z).ext h.extBut D.i12.symm).ext g.extBut D.TOi2.symm) (((hl2.ext f.extBut D.l2z).ext h.extBut D.l2i1).ext g.extBut D.l2TO) hy λk₄ U j=>TR ?_);have F:=j.extBut _ _ D.TOi2 K;refine OK (V3 F rfl ?_);refine OK (Y9 F λd C i=>?_);have l:IsPair d TO x y:=C;clear C;refine OK (aaN (TR (TR ?_)));refine OK (V3 l rfl ?_);refine OK (wpAny_newTuple ?_);have T:d.objs.size=s.heap.objs.size:=by rw[i.1,j.1,g.1,h.1,f.1]
 have u:=i.extBut _ _ D.TOz.symm (j.extBut _ _ D.i2z.symm (g.extBut _ _ D.TOz.symm (h.extBut _ _ D.i1z.symm aee)));have kp:∀c o,c≠z->c≠TO->c≠i1->c≠i2->s.heap.get? c=ax o->d.get? c=ax o:=λc o L Z c3 c4 e=>
  i.extBut _ _ Z (j.extBut _ _ c4 (g.extBut _ _ Z (h.extBut _ _ c3 (f.extBut _ _ L e))))
 have R:=((X.ext g.extBut D.TOi1.symm).ext j.extBut D.i12).ext i.extBut D.TOi1.symm;have P:=U.ext i.extBut D.TOi2.symm;have Zw:=c5 u;show wpAny _ _ (SmallTypes.ownedTupleHandOut (.ref z) (.ref d.objs.size)>>=_) _ _ _;refine OK ?_;unfold SmallTypes.ownedTupleHandOut;have O:abz (d.push {cls:=.type "tuple",data:=.seq #[x,y]}) z TI TO .ellipsis:=cM _ u;refine OK (Wt O (by simp) λk₇ N t=>?_);have J:=N;refine Wt J (by simp) λm M r=>?_;have k:=M;have Y:∀c o,c≠z->d.get? c=ax o->m.get? c=ax o:=λc o L e=>r.extBut _ _ L (t.extBut _ _ L (cM _ e));have B:=r.extBut _ _ (Vb Zw) (t.extBut _ _ (Vb Zw) (c6 _ rfl));have I:m.objs.size=d.objs.size+1:=by rw[r.1,t.1,d4]
 rw[T]at k B I;refine TR ⟨_,rfl,?_⟩;rw[T];exact q m k (Y _ _ D.TOz l) (R.to λo e=>Y _ o D.i1z e) (P.to λo e=>Y _ o D.i2z e) B I λc o L Z c3 c4 e=>Y c o L (kp c o L Z c3 c4 e)
theorem Dr(S:A.handled=CL)(D:Z3 z TI TO i1 i2 l1 l2)(B:abz s.heap z TI TO .none)
  (L:IsPair s.heap TI (.ref i1) (.ref i2)) (K:IsPair s.heap TO a b) (T:itAt b1 s.heap i1 l1 n) (Y:itAt b2 s.heap i2 l2 n) (C:sqAt b1 s.heap l1 xs) (I:sqAt b2 s.heap l2 ys) (N:xs[n]?=CL\/ys[n]?=CL)
  (q:∀h' e,(∀c o,c≠z->c≠TO->c≠i1->c≠i2->s.heap.get? c=ax o->h'.get? c=ax o)->(∃o,h'.get? e=ax o/\o.cls=.type "StopIteration")->E (.ref e) {s with heap:=h'}):
  wpAny (model prog w) A (Um.«zip.__next__» ⟨[.ref z],[]⟩) Q E s:=by
 show wpAny _ _ (field (.ref z) 2>>=_) _ _ _;refine OK (UL B rfl rfl ?_);show wpAny _ _ (field (.ref z) 3>>=_) _ _ _;refine OK (UL B rfl rfl ?_);refine OK (V3 L rfl ?_);show wpAny _ _ (SmallTypes.ownedTupleIsFree (.ref z)>>=_) _ _ _;refine OK ?_;unfold SmallTypes.ownedTupleIsFree;refine OK (UL B rfl rfl (TR ?_));simp only[if_true];refine OK (aby ?_);refine OK (UL B rfl rfl ?_);refine OK (Wt B (by simp) λR u d=>?_);have G:=u;refine OK ?_;simp only[adE,adP,Ym,aaj];refine OK (OK (Zz ?_));show wpAny _ _ (SmallTypes.nextOf (.ref i1)>>=_) _ _ _;cases hx:xs[n]? with
 |none=>
  refine OK (tT S (T.ext d.extBut D.i1z) (C.ext d.extBut D.l1z) hx λy e f J=>?_);obtain⟨H,h,i⟩:=J;have k:=f _ _ D.i1z.symm G;have ne:e≠z:=λt=>by subst t;rw[k]at h;cases h;simp at i
  exact Wt k (by simp) λm _ g=>q m e (λc o F _ M _ t=>g.extBut _ _ F (f _ _ M (d.extBut _ _ F t))) ⟨H,g.extBut _ _ ne h,i⟩
 |some x=>
  have X:ys[n]?=CL:=by
   rcases N with t|t
   .rw[hx]at t;cases t
   .exact t
  refine OK (oz (T.ext d.extBut D.i1z) (C.ext d.extBut D.l1z) hx λy U f=>TR ?_);have l:=f.extBut _ _ D.TOi1 (d.extBut _ _ D.TOz K);refine OK (V3 l rfl ?_);refine OK (Y9 l λm O g=>?_);refine OK (aaN (TR ?_));refine OK (OK (Zz ?_));show wpAny _ _ (SmallTypes.nextOf (.ref i2)>>=_) _ _ _;refine OK (tT S (((Y.ext d.extBut D.i2z).ext f.extBut D.i12.symm).ext g.extBut D.TOi2.symm) (((I.ext d.extBut D.l2z).ext f.extBut D.l2i1).ext g.extBut D.l2TO) X λP e r J=>?_);obtain⟨H,h,i⟩:=J;have j:=r _ _ D.i2z.symm (g.extBut _ _ D.TOz.symm (f.extBut _ _ D.i1z.symm G));have ne:e≠z:=λt=>by subst t;rw[j]at h;cases h;simp at i
  exact Wt j (by simp) λv _ p=>q v e (λc o F c2 M Z t=>p.extBut _ _ F (r _ _ Z (g.extBut _ _ c2 (f.extBut _ _ M (d.extBut _ _ F t))))) ⟨H,p.extBut _ _ ne h,i⟩
end
section
variable{prog:Ug}{w:Ux}{A:Ut}{E:Tw->TK->Prop}{s:TK}
theorem vt(D:Z3 z TI TO i1 i2 l1 l2)(h:abz s.heap z TI TO .none)
  (g:IsPair s.heap TI (.ref i1) (.ref i2)) (f:IsPair s.heap TO a b) (m:itAt b1 s.heap i1 l1 n) (l:itAt b2 s.heap i2 l2 n) (e:sqAt b1 s.heap l1 xs) (d:sqAt b2 s.heap l2 ys) (k:xs[n]?=ax x) (j:ys[n]?=ax y)
  (q:∀h',abz h' z TI TO (rawInt s.heap.objs.size)->IsPair h' TO x y->itAt b1 h' i1 l1 (n+1)->itAt b2 h' i2 l2 (n+1)->IsPair h' s.heap.objs.size x y->h'.objs.size=s.heap.objs.size+1->
   (∀c o,c≠z->c≠TO->c≠i1->c≠i2->s.heap.get? c=ax o->h'.get? c=ax o)->Q (ax (.ref s.heap.objs.size)) {s with heap:=h'}):
  wpAny (model prog w) A (pyNext (.ref z)) Q E s:=by
 have i:s.TypeIs (.ref z) "zip":=⟨_,h,rfl⟩;unfold pyNext;refine OK (akY (VQ i F.slot_zip_next ?_));exact Wh F.slot_zip_next i F.entry_zip_next (zX D h g f m l e d k j λh' C B v u t r p=>TR (q h' C B v u t r p)) (F.args_zip_next_1 _)
theorem vP(p:A.handled=CL)(D:Z3 z TI TO i1 i2 l1 l2)(j:abz s.heap z TI TO .none)
  (h:IsPair s.heap TI (.ref i1) (.ref i2)) (g:IsPair s.heap TO a b) (v:itAt b1 s.heap i1 l1 n) (u:itAt b2 s.heap i2 l2 n) (f:sqAt b1 s.heap l1 xs) (d:sqAt b2 s.heap l2 ys) (i:xs[n]?=CL\/ys[n]?=CL)
  (q:∀h',(∀c o,c≠z->c≠TO->c≠i1->c≠i2->s.heap.get? c=ax o->h'.get? c=ax o)->Q CL {s with heap:=h'}):wpAny (model prog w) A (pyNext (.ref z)) Q E s:=by
 have k:s.TypeIs (.ref z) "zip":=⟨_,j,rfl⟩;unfold pyNext;refine OK (akY (VQ k F.slot_zip_next ?_));refine Wh F.slot_zip_next k F.entry_zip_next (Dr p D j h g v u f d i λh' e m r=>?_) (F.args_zip_next_1 _);obtain⟨o,l,t⟩:=r;exact OK (af6 ⟨o,l,t⟩ isSubtype_stop (TR (q _ m)))
end
abbrev Oy(h:Heap)(b:Bool)(a:TM):Heap:=h.push {cls:=.type (lw b),data:=.fields #[.ref a,.int 0 0]}
abbrev N8(h:Heap)(d b2:Bool)(b a:TM):Heap:=(Oy h d b).push {cls:=.type (lw b2),data:=.fields #[.ref a,.int 0 0]}
abbrev ON(h:Heap)(b b2:Bool)(a d:TM):Heap:=(N8 h b b2 a d).push {cls:=.type "tuple",data:=.seq #[.ref h.objs.size,.ref (Oy h b a).objs.size]}
abbrev Mx(h:Heap)(d b2:Bool)(b a:TM):Heap:=(ON h d b2 b a).push {cls:=.type "tuple",data:=.seq #[.none,.none]}
abbrev Q9(h:Heap)(d b2:Bool)(b a:TM):Heap:=(Mx h d b2 b a).push {cls:=.type "zip",data:=.fields #[.none,.bool Tx,.bool Tx,.ref (N8 h d b2 b a).objs.size,.ref (ON h d b2 b a).objs.size]}
theorem qH(e b2:Bool)(a b:TM)(xs l:Array Tw):
  Meets (Um.«zip.__new__» ⟨[.type "zip",.ref a,.ref b],[]⟩) (λ_ R s=>sqAt e s.heap a xs/\sqAt b2 s.heap b l/\R (.ok (.ret (.ref (Mx s.heap e b2 a b).objs.size))) {s with heap:=Q9 s.heap e b2 a b}):=
 .of_wp λn w A R s h=>by
  obtain⟨p,g,d,m,o⟩:=s;obtain⟨i,f,h⟩:=h;have q:=sub_zip;have k:sqAt e (TK.heap ⟨p,g,d,m,o⟩) a xs:=i;have j:sqAt b2 (TK.heap ⟨p.push {cls:=.type (lw e),data:=.fields #[.ref a,.int 0 0]},g,d,m,o⟩) b l:=sqAt.psh f _
  wp_walk using kx k,kx j
  exact⟨_,rfl,h⟩
section
variable{prog:Ug}{w:Ux}{A:Ut}{E:Tw->TK->Prop}{s:TK}
theorem wZ(e:h.get? it=ax {cls:=.type (lw b),data:=.fields #[.ref l,.int 0 0]}):itAt b h it l 0:=by
 cases b with
 |true=>exact⟨_,e,rfl,rfl⟩
 |false=>exact⟨_,e,rfl,rfl⟩
theorem zr(j:sqAt b1 s.heap l1 xs)(i:sqAt b2 s.heap l2 ys)
  (q:∀h',abz h' (s.heap.objs.size+4) (s.heap.objs.size+2) (s.heap.objs.size+3) .none->IsPair h' (s.heap.objs.size+2) (.ref s.heap.objs.size) (.ref (s.heap.objs.size+1))->
   IsPair h' (s.heap.objs.size+3) .none .none->itAt b1 h' s.heap.objs.size l1 0->itAt b2 h' (s.heap.objs.size+1) l2 0->(∀c o,s.heap.get? c=ax o->h'.get? c=ax o)->Q (.ref (s.heap.objs.size+4)) {s with heap:=h'}):
  wpAny (model prog w) A (call (.type "zip") [.ref l1,.ref l2]) Q E s:=by
 refine callType_new F.called_zip (by decide) (F.typeCall_zip_2 _ _) (F.newCall_zip_2 _ _) (λobj=>F.args_object_init_3 obj _ _) F.entry_zip_new (qH b1 b2 l1 l2 xs ys) ⟨j,i,?_⟩;have h:(Oy s.heap b1 l1).objs.size=s.heap.objs.size+1:=d4 ..;have g:(N8 s.heap b1 b2 l1 l2).objs.size=s.heap.objs.size+2:=by rw[d4,h]
 have f:(ON s.heap b1 b2 l1 l2).objs.size=s.heap.objs.size+3:=by rw[d4,g]
 have m:(Mx s.heap b1 b2 l1 l2).objs.size=s.heap.objs.size+4:=by rw[d4,f]
 have t:∀c o,s.heap.get? c=ax o->(Oy s.heap b1 l1).get? c=ax o:=λc o e=>cM _ e;have l:∀c o,(Oy s.heap b1 l1).get? c=ax o->(N8 s.heap b1 b2 l1 l2).get? c=ax o:=λc o e=>cM _ e;have d:∀c o,(N8 s.heap b1 b2 l1 l2).get? c=ax o->(ON s.heap b1 b2 l1 l2).get? c=ax o:=λc o e=>cM _ e;have b:∀c o,(ON s.heap b1 b2 l1 l2).get? c=ax o->(Mx s.heap b1 b2 l1 l2).get? c=ax o:=λc o e=>cM _ e;have a:∀c o,(Mx s.heap b1 b2 l1 l2).get? c=ax o->(Q9 s.heap b1 b2 l1 l2).get? c=ax o:=λc o e=>cM _ e;have k:(Q9 s.heap b1 b2 l1 l2).get? (Mx s.heap b1 b2 l1 l2).objs.size=ax _:=c6 _ rfl;have n:=a _ _ (c6 _ rfl);have p:=a _ _ (b _ _ (c6 _ rfl));have r:=a _ _ (b _ _ (d _ _ (c6 _ rfl)));have u:=a _ _ (b _ _ (d _ _ (l _ _ (c6 _ rfl))));rw[g,f,m]at k;rw[h,g]at p;rw[f]at n;rw[h]at r;rw[m];exact⟨⟨_,k,rfl⟩,q _ k p n (wZ u) (wZ r) λc o e=>a _ _ (b _ _ (d _ _ (l _ _ (t _ _ e))))⟩
end
end PySem
namespace L3
open PySem PySem.Spec PyProof.Rows L2
def vZ(b:Bool)(K:cL)(H:Hp)(a:TM)(xs:ck V):Prop:=match b with
 |true=>XA K H a xs
 |false=>XG K H a xs
def Rh(K:cL)(b b2:Bool)(a c:TM):It:=
 ⟨λi H=>∃xs ys x y,vZ b K H a xs/\vZ b2 K H c ys/\xs[i]?=ax x/\ys[i]?=ax y,
  λi H v d=>∃p x y,H p=CL/\v=.ref p/\(∀xs,vZ b K H a xs->xs[i]?=ax x)/\(∀ys,vZ b2 K H c ys->ys[i]?=ax y)/\d=bz H p (.tup [x,y]),
  λi H=>∃xs ys,vZ b K H a xs/\vZ b2 K H c ys/\(xs.length<=i\/ys.length<=i)⟩
theorem Eu(I:Inv X pins σ H s)(i:XG X.K H a xs)(h:XG X.K H a ys):xs=ys:=by
 obtain⟨e,g,⟨o,k,j,_,n,m⟩,_⟩:=I.list i;obtain⟨b,f,⟨p,t,d,_,r,l⟩,_⟩:=I.list h;rw[j]at d;cases d;have:e=b:=by
  have q:e.toArray=b.toArray:=by injection m.symm.trans l
  simpa using q
 subst this;exact g.inj f
theorem jJ(I:Inv X pins σ H s)(h:vZ b X.K H a xs):∃UD,Vals xs UD/\sqAt b s.heap a UD.toArray:=by
 cases b with
 |true=>obtain⟨UD,rv,p,d⟩:=I.tuple h;exact⟨UD,rv,p⟩
 |false=>obtain⟨UD,rv,p,d⟩:=I.list h;exact⟨UD,rv,p.isList⟩
theorem ua(I:Inv X pins σ H s)(e:vZ b X.K H a xs)(d:vZ b X.K H a ys):xs=ys:=by
 cases b with
 |true=>exact yR I e d
 |false=>exact Eu I e d
theorem zw{ch:ck TM}(I:Inv X pins σ H s)(f:∀b∈ch,kY X pins H b)
  (k:∀b u,b∉ch->s.heap.get? b=ax u->h'.get? b=ax u):Inv X pins σ H {s with heap:=h',toks:=t'}:=by
 have d:∀b u,H b=ax u->b∉ch:=λb u e z=>by rw[(f b z).1]at e;cases e
 refine I.step (λb i=>?_) (λb u _ _ a e _=>k b u a e) (λb u _ _ a e _=>⟨u.slots,k b u a e⟩) (λ_ _ _ _ n=>n)
  (λb u a e=>⟨u,k b u a e⟩) (λ_ _ e=>e) (λ_ _ _ e=>e) (λb ps e=>⟨#[],by rw[e];simp⟩) (λm hm=>?_) (λb u e=>?_) I.bare
 .obtain⟨_,p,_,o,l,j⟩:=f b i;exact⟨o,p,l,j⟩
 .obtain⟨g,t,w,h,r⟩:=hm;exact⟨g,t,w,k _ g (λz=>(f _ z).2.1 rfl) h,r⟩
 .refine(I.Vp b u e).Ya (λc v a q=>k c v ?_ q) (λ_ q=>q) λ_ _ q=>q
  rcases a with z|z
  .rw[z];exact d b u e
  .exact d c _ z
theorem Dh{K:cL}{kk}(b1 b2:Bool)(z TI TO A r T S:TM)(D:Z3 z TI TO A r T S):
  Turn P w K (.Tuple elts kk tp) (Rh K b1 b2 T S) [z,TI,TO,A,r] z (λi h=>abz h z TI TO .none/\IsPair h TI (.ref A) (.ref r)/\(∃a b,IsPair h TO a b)/\itAt b1 h A T i/\itAt b2 h r S i) where
 mem:=by simp
 obj:=λi h e b d=>by
  obtain⟨j,f,⟨a,c,l⟩,p,m⟩:=e;simp only[TL,TY,or_false]at d;rcases d with rfl|rfl|rfl|rfl|rfl
  .exact⟨_,j,λv q=>by cases(show Z2.fields _=Z2.cell v from q)⟩
  .exact⟨_,f,λv q=>by cases(show Z2.seq _ _=Z2.cell v from q)⟩
  .exact⟨_,l,λv q=>by cases(show Z2.seq _ _=Z2.cell v from q)⟩
  .exact p.live
  .exact m.live
 keep:=λi h h' e k=>by obtain⟨j,f,⟨a,c,l⟩,p,m⟩:=e;exact⟨k z (by simp) _ j,k TI (by simp) _ f,⟨a,c,k TO (by simp) _ l⟩,p.to λo q=>k A (by simp) o q,m.to λo q=>k r (by simp) o q⟩
 item:=by
  intro X hP Z hK hc i g s σ H E I L e hg;subst hP Z hK;obtain⟨j,f,⟨a,c,l⟩,p,m⟩:=e;obtain⟨xs,ys,x,y,G,F,hx,hy⟩:=hg;obtain⟨UD,O,R⟩:=jJ I G;obtain⟨C,N,Q⟩:=jJ I F;obtain⟨u,hu,ru⟩:=O.get hx;obtain⟨t,ht,rt⟩:=N.get hy;refine vt D j f l p m R Q (by simpa using hu) (by simpa using ht) λk z1 o1 g1 g2 pr sz J=>⟨_,rfl,?_⟩;refine wpAny_letOwnedTupleGo_zip z1 λB z2 e2=>?_;have U:=c5 j;have hIl:=c5 f;have hOl:=c5 l;have h1l:A<s.heap.objs.size:=by obtain⟨_,q,_⟩:=p.live;exact c5 q
  have h2l:r<s.heap.objs.size:=by obtain⟨_,q,_⟩:=m.live;exact c5 q
  have hn:=I.Vp.fresh (TQ _);have kk:∀b o,b∉[z,TI,TO,A,r]->s.heap.get? b=ax o->B.get? b=ax o:=λb o d q=>by simp only[TL,TY,or_false,not_or]at d;exact(e2.2 b d.1).trans (J b o d.1 d.2.2.1 d.2.2.2.1 d.2.2.2.2 q)
  have hT2:=(e2.2 _ (Vb U)).trans pr
  have I2:Inv X g σ (bz H s.heap.objs.size (.tup [x,y])) {s with heap:=B}:=
   I.X7 L kk (TQ _) ⟨by show 2<=T8;decide,[u,t],.cons ru (.cons rt .nil),⟨_,hT2,⟨rfl,_,rfl⟩,rfl⟩⟩
  have M:∀b o,b≠z->k.get? b=ax o->B.get? b=ax o:=λb o n q=>(e2.2 b n).trans q;refine⟨.ref s.heap.objs.size,_,I2,rfl,⟨_,x,y,hn,rfl,λzs hs=>by rw[ua I hs G];exact hx,λzs hs=>by rw[ua I hs F];exact hy,rfl⟩,
   ⟨z2,M _ _ D.TIz (J _ _ D.TIz D.TITO D.TIi1 D.TIi2 f),⟨_,_,M _ _ D.TOz o1⟩,g1.to λo q=>M _ _ D.i1z q,g2.to λo q=>M _ _ D.i2z q⟩,λb d=>?_⟩
  have hb2:b<s.heap.objs.size:=by simp only[TL,TY,or_false]at d;rcases d with rfl|rfl|rfl|rfl|rfl<;>assumption
  rw[am (Ui hb2)];exact(L b d).1
 done:=by
  intro X hP Z hK hc i g s σ H E I L e hg;subst hP Z hK;obtain⟨j,f,⟨a,c,l⟩,p,m⟩:=e;obtain⟨xs,ys,G,F,Y⟩:=hg;obtain⟨UD,O,R⟩:=jJ I G;obtain⟨C,N,Q⟩:=jJ I F;have hl1:=O.length;have hl2:=N.length;have hd:UD.toArray[i]?=CL\/C.toArray[i]?=CL:=by
   rcases Y with q|q
   .exact .inl (by simp;ext)
   .exact .inr (by simp;ext)
  refine vP (I.ok.hd hc) D j f l p m R Q hd λk J=>⟨rfl,?_⟩;exact zw I L λb o d q=>by simp only[TL,TY,or_false,not_or]at d;exact J b o d.1 d.2.2.1 d.2.2.2.1 d.2.2.2.2 q
 self:=λ_ _ _ _ _ e h=>af7 e.1 h
theorem z7(n b a:Nat)(e:b<n)(d:a<n):Z3 (n+4) (n+2) (n+3) n (n+1) b a:=by constructor<;>(show(_:Nat)≠_;ext)
def Iv(K:cL)(ta:TA):TI:=λd H R=>ta d H λvs b=>∃a c b1 b2,vs=[.ref a,.ref c]/\(∃xs,vZ b1 K b a xs)/\(∃ys,vZ b2 K b c ys)/\R (Rh K b1 b2 a c) b
theorem A8:UK "zip"=ax (.type "zip"):=by left
theorem IE{kk}(O:Gl X "zip")(hm:X.mg "zip"=CL)(ha:PA X [l,m] ta)(L:Uh [l,m] X.env=(Tx,eval l X.env)::Uh [m] X.env:=by rfl)(M:(backTo pos (Uh [m] X.env)).any (·.1)=Tx:=by rfl):
  PI X (.Tuple elts kk tp) (.Call (.Name "zip" p) [l,m] [] pos) (Iv X.K ta):=by
 intro d s v H R I h;refine Call_ (lN I O hm A8 (Wa (c9 (ha pos d s v H _ I h) λU f ⟨vs,r,i,C,E⟩=>?_) L M));obtain⟨a,c,S,b2,e,⟨xs,A⟩,⟨T,z⟩,q⟩:=E;subst e;obtain⟨u,t,rfl,B,rt⟩:=pL C;cases B;cases rt;obtain⟨UD,Z,n⟩:=jJ i A;obtain⟨J,Y,k⟩:=jJ i z;have Q:∀b∈[f.heap.objs.size+4,f.heap.objs.size+2,f.heap.objs.size+3,f.heap.objs.size,f.heap.objs.size+1],kY X d r b:=λb o=>by
  have g:f.heap.objs.size<=b:=by simp only[TL,TY,or_false]at o;have P:=o;ext
  exact i.aaB g (i.Vp.fresh g)
 refine zr n k λh1 j G F y w N=>?_;refine af7 j ?_;exact⟨f.heap.objs.size+4,_,_,_,r,rfl,i.kept N,Dh S b2 _ _ _ _ _ a c (z7 _ _ _ n.lt k.lt),⟨j,G,⟨_,_,F⟩,y,w⟩,Q,q⟩
def Ke:Ue->Bool
 |.Starred _ _=>Ld
 |_=>Tx
theorem AC(e:Ue)(es:ck Ue)(env:Env)(h:Ke e=Tx):Uh (e::es) env=(Tx,eval e env)::Uh es env:=by cases e<;>first|rfl|cases h
def jW:ck D->ck D->ck D
 |x::r,y::q=>.tuple [x,y]::jW r q
 |_,_=>[]
theorem mj:∀(xs a:ck D),(jW xs a).length=min xs.length a.length
 |[],_=>by simp[jW]
 |_::_,[]=>by simp[jW]
 |_::r,_::q=>by simp only[jW,TJ,mj r q];ext
theorem lX:∀(xs a:ck D) (i:Nat),(jW xs a)[i]?=(xs[i]?).bind λx=>(a[i]?).map λy=>.tuple [x,y]
 |[],_,_=>by simp[jW]
 |x::r,[],i=>by cases i<;>simp[jW]
 |x::r,y::q,0=>by simp[jW]
 |x::r,y::q,i+1=>by simp only[jW,Ye];exact lX r q i
section
variable{K:cL}{E:XK}{B O Y:bU}{H0 H H':Hp}{Z:L2.St}{ρ ρ':aD}{v:V}
def aaD(b:Bool)(O:bU)(K:cL)(H:Hp)(a:TM)(xs:ck V):Prop:=match b with
 |true=>Yw O K H a xs
 |false=>Zg O K H a xs
theorem aaD.ev(h:aaD b O K H a xs)(e:Ev O H Y H'):aaD b Y K H' a xs:=by
 cases b with
 |true=>exact Yw.ev h e
 |false=>exact Zg.ev h e
theorem aaD.at(h:aaD b O K H a xs):vZ b K H a xs:=by
 cases b with
 |true=>exact(show Yw O K H a xs from h).1
 |false=>exact(show Zg O K H a xs from h).1.sq
theorem JW(h:aaD b1 O K H a xs)(hd:VH O K H xs ds)(g:aaD b2 O K H c ys)(w:VH O K H ys es):sJ K (Rh K b1 b2 a c) O H (jW ds es):=by
 intro Y H' e n;have d:=h.ev e;have A:=hd.ev e;have j:=g.ev e;have f:=w.ev e;rw[mj];refine⟨λi hi=>?_,⟨xs,ys,d.at,j.at,?_⟩⟩
 .have o:i<ds.length:=by ext
  have m:i<es.length:=by ext
  obtain⟨x,u,dx⟩:=A.get (TF o);obtain⟨y,r,z⟩:=f.get (TF m);refine⟨⟨xs,ys,x,y,d.at,j.at,u,r⟩,?_⟩;rintro t C ⟨p,G,F,b,rfl,hx',hy',rfl⟩;have l:=hx' xs d.at;have k:=hy' ys j.at;rw[u]at l;rw[r]at k;cases l;cases k;refine⟨aV b _,.tuple [ds[i],es[i]],?_,.tup ⟨XA.of aF,λq=>a7 q (n p b)⟩ (.cons (dx.ev (Ev.grow (aV b _))) (.cons (z.ev (Ev.grow (aV b _))) .nil))⟩;rw[lX,TF o,TF m];rfl
 .rw[hd.length,w.length];ext
theorem Bq(h:DV O K H v d)(q:ef d=ax ds):∃b a xs,v=.ref a/\aaD b O K H a xs/\VH O K H xs ds:=by
 cases h with
 |tup h e=>cases q;exact⟨Ld,_,_,rfl,h,e⟩
 |lst h e=>cases q;exact⟨Tx,_,_,rfl,h,e⟩
 |_=>cases q
def zP(fa:FA):FI:=λρ=>(fa ρ).bind λa=>(Res.U1 (jk a.2 a.1)).bind λb=>match b.1 with
 |[d,e]=>(Res.U1 (ef d)).bind λds=>(Res.U1 (ef e)).bind λf=>.ok (jW ds f,b.2)
 |_=>.bad
theorem Ln(h:AO K E ta fa):IO K E (Iv K ta) (zP fa):=by
 intro B H0 O Z H ρ J R w;refine h B H0 O Z H ρ _ R (w.bind.imp λa b L vs F o A k=>?_);obtain⟨⟨ds,g⟩,q,b⟩:=b.U1;obtain⟨C,n,R2,p⟩:=kg A k q;dsimp only at b;cases p with
 |nil=>exact b.elim
 |cons m d=>
  cases d with
  |nil=>exact b.elim
  |cons d l=>
   cases l with
   |cons _ _=>exact b.elim
   |nil=>obtain⟨I,j,b⟩:=WR.U1 b;obtain⟨fs,i,b⟩:=WR.U1 b;obtain⟨u,z,xs,rfl,f,t⟩:=Bq m j;obtain⟨b2,y,G,rfl,e,r⟩:=Bq d i;exact⟨z,y,u,b2,rfl,⟨_,f.at⟩,⟨_,e.at⟩,b C _ F (o.trans n) R2 (JW f t e r)⟩
def AJ(d e:D):cv RV:=match d,e with
 |.str z,.int i=>if z.length<=1000000 then(mL z.cps.toList i).map λc=>.fz (.str ⟨#[c]⟩)else CL
 |_,_=>CL
theorem Ex:jY K (PB K) AJ:=by
 intro O H x y dx f rv Q n b a e q;unfold AJ at e;split at e
 .split at e
  .rename_i z i d
   cases qa:mL z.cps.toList i with
   |none=>rw[qa]at e;cases e
   |some c=>rw[qa]at e;cases e;cases b;cases a;exact .inr (.inr ⟨z,i,c,rfl,rfl,mw d,qa,q.at (.str _)⟩)
  .cases e
 .cases e
def nI:ck D->cv RV
 |[.str z]=>if z.length<=1000000 then ax (.fz (.int z.length))else CL
 |_=>CL
theorem Fj:yg K (λxs H Q=>∃x n,xs=[x]/\KS K x H n/\Q (.int n) H) nI:=by
 intro O H xs ds rv Q n a e q;unfold nI at e;split at e
 .split at e
  .rename_i z b
   cases e;cases a with
   |cons f d=>cases d;cases f;exact⟨_,z.length,rfl,⟨mw b,rfl⟩,q.at (.int _)⟩
  .cases e
 .cases e
def Dk(g:Str->Str->Bool):R2:=λx y H Q=>∃i j,x=.str i/\y=.str j/\Q (.bl (g i j)) H
def fS(g:Str->Str->Bool):D->D->cv RV
 |.str i,.str j=>ax (.fz (.bool (g i j)))
 |_,_=>CL
theorem HJ:jY K (Dk g) (fS g):=by
 intro O H x y dx d rv Q n b a e q;unfold fS at e;split at e
 .cases e;cases b;cases a;exact⟨_,_,rfl,rfl,q.at (.bl _)⟩
 .cases e
def Cj(i j:Str):Bool:= !decide (j.cps.toList<i.cps.toList)
theorem Lj:OpR X (U8 .LtE) (Dk Cj):=by intro a s Z H x y v u Q I d b h;obtain⟨i,j,rfl,rfl,q⟩:=h;obtain⟨t,rfl⟩:=d;obtain⟨e,rfl⟩:=b;exact PySem.P.le_str (bt I q rfl)
def rg:=fS Cj
theorem E9:jY K (Dk Cj) rg:=HJ
def Mb:FN:=λ_=>.bad
theorem J7(hn:ps.length=n):FnOk P w K mg base kS k f fd ps (sI K n Mb):=
 ⟨λvs H Q E h=>h.1.trans hn.symm,λA a s H b d vs Q E _ _ _ _ h=>by obtain⟨_,B,ds,_,_,w⟩:=h;exact w.elim⟩
end
end L3
namespace L3
open PySem L2
def RT(N C:aD->Prop)(T:RV->Prop):Res Fl->Prop
 |.ok (.nx ρ)=>N ρ
 |.ok (.ct ρ)=>C ρ
 |.ok (.rt v)=>T v
 |_=>False
structure Go(r:Res Fl)(N C:aD->Prop)(T:RV->Prop):Prop where
 out:RT N C T r
section
variable{ρ ρ1 ρ2 ρ3:aD}{f g:FS}{fe:FE}{pv:PV}{d:D}{rv:RV}{ds:ck D}{N C:aD->Prop}{T:RV->Prop}
theorem Go.eq(e:r=r')(h:Go r' N C T):Go r N C T:=by rw[e];exact h
theorem Go.imp(h:Go r N C T)(b:∀ρ,N ρ->N' ρ)(e:∀ρ,C ρ->C' ρ)(a:∀v,T v->T' v):Go r N' C' T':=by
 refine⟨?_⟩;have h:=h.out;cases r with
 |bad=>exact h
 |er x=>exact h
 |ok i=>
  cases i with
  |nx r=>exact b _ h
  |ct r=>exact e _ h
  |rt v=>exact a _ h
  |bk r=>exact h
theorem dG(h:Go (f ρ) (λr=>Go (g r) N C T) C T):Go (aj f g ρ) N C T:=by
 refine⟨?_⟩;have h:=h.out;unfold aj;cases q:f ρ with
 |bad=>rw[q]at h;exact h.elim
 |er x=>rw[q]at h;exact h.elim
 |ok a=>
  rw[q]at h;cases a with
  |nx r=>exact(show Go (g r) N C T from h).out
  |ct r=>exact h
  |rt v=>exact h
  |bk r=>exact h.elim
theorem eh(h:c ρ=.ok (b,ρ1))(a:b=Ld->Go (f ρ1) N C T)(e:b=Tx->Go (g ρ1) N C T):Go (ce c f g ρ) N C T:=by
 unfold ce;rw[h,fo];cases b with
 |true=>exact a rfl
 |false=>exact e rfl
theorem fC(b:fe ρ=.ok (pv,ρ1))(a:gt pv ρ1=.ok ρ2)(h:N ρ2):Go (aN fe gt ρ) N C T:=.eq (fy b a rfl) ⟨h⟩
theorem gJ(a:fe ρ=.ok (pv,ρ1))(h:N ρ1):Go (cj fe ρ) N C T:=.eq (gF a) ⟨h⟩
theorem aR(b:fe ρ=.ok (pv,ρ1))(a:zB ρ1 pv=ax rv)(h:T rv):Go (aL fe ρ) N C T:=.eq (xD b a) ⟨h⟩
theorem cV(h:N ρ):Go (aC ρ) N C T:=⟨h⟩
theorem xO(I:Nat->aD->Prop):∀(ds:ck D) (k:Nat) (ρ:aD),I k ρ->(∀i d ρ,ds[i]?=ax d->I (k+i) ρ->∃ρ1,gt (.fz d) ρ=.ok ρ1/\Go (b ρ1) (I (k+i+1)) (I (k+i+1)) T)->Go (ot gt b ds ρ) (I (k+ds.length)) C T
 |[],k,ρ,h0,_=>⟨h0⟩
 |d::r,k,ρ,h0,hs=>by
  obtain⟨ρ1,o,a⟩:=hs 0 d ρ rfl h0;have a:=a.out;have l:∀j,I (k+1) j->Go (ot gt b r j) (I (k+(r.length+1))) C T:=λj h=>by
   have e:k+(r.length+1)=k+1+r.length:=by ext
   rw[e];refine xO I r (k+1) j h λi t m hi n=>?_;have e:k+1+i=k+(i+1):=by ext
   rw[e]at n⊢;exact hs (i+1) t m (by simpa using hi) n
  refine⟨?_⟩;show RT _ _ _ ((gt (.fz d) ρ).bind _);rw[o,fo];cases q:b ρ1 with
  |bad=>rw[q]at a;exact a.elim
  |er x=>rw[q]at a;exact a.elim
  |ok p=>
   rw[q]at a;cases p with
   |nx r=>exact(l _ a).out
   |ct r=>exact(l _ a).out
   |rt v=>exact a
   |bk r=>exact a.elim
theorem wF(I:Nat->aD->Prop)(hi:fi ρ=.ok (ds,ρ1))(j:I 0 ρ1)(a:∀i d ρ,ds[i]?=ax d->I i ρ->∃ρ1,gt (.fz d) ρ=.ok ρ1/\Go (b ρ1) (I (i+1)) (I (i+1)) T)(e:∀ρ',I ds.length ρ'->N ρ'):Go (hG fi gt b ρ) N C T:=by have:=xO (C:=C) I ds 0 ρ1 j (by simpa using a);rw[XD]at this;exact .eq (j7 hi) (this.imp e (λ_ h=>h) λ_ h=>h)
theorem ko(a:ds.map (λd=>ax (.fz d))++T1 (n - ds.length) CL=ρ)(h:Go (g ρ) (λ_=>T (.fz .none)) (λ_=>False) T):∃rv,bN n g ds=.ok rv/\T rv:=by
 have h:=h.out;unfold bN;rw[a];cases q:g ρ with
 |bad=>rw[q]at h;exact h.elim
 |er x=>rw[q]at h;exact h.elim
 |ok b=>
  rw[q]at h;cases b with
  |nx r=>exact⟨_,rfl,h⟩
  |ct r=>exact h.elim
  |rt v=>exact⟨_,rfl,h⟩
  |bk r=>exact h.elim
theorem aY(a:ds.map (λd=>ax (.fz d))++T1 (n - ds.length) CL=ρ)(h:Go (g ρ) (λ_=>RV.fz .none=v) (λ_=>False) (λr=>r=v)):bN n g ds=.ok v:=by obtain⟨rv,e,b⟩:=ko (T:=λr=>r=v) a h;rw[e,b]
theorem aM(b:fe ρ=.ok (pv,ρ1))(a:gt pv ρ1=.ok ρ2)(hn:ρ2=ρ3)(h:Go (g ρ3) N C T):Go (aj (aN fe gt) g ρ) N C T:=.eq (cJ (fy b a hn)) h
theorem Bp(b:fe ρ=.ok (pv,ρ1))(a:gt pv ρ1=.ok ρ2)(hn:ρ2=ρ3)(h:N ρ3):Go (aN fe gt ρ) N C T:=.eq (fy b a hn) ⟨h⟩
theorem lV(a:fe ρ=.ok (pv,ρ1))(h:Go (g ρ1) N C T):Go (aj (cj fe) g ρ) N C T:=.eq (cJ (gF a)) h
theorem aW(b:fe ρ=.ok (pv,ρ1))(a:zB ρ1 pv=ax rv)(h:T rv):Go (aj (aL fe) g ρ) N C T:=.eq (Li (xD b a)) ⟨h⟩
theorem ay(h:Go (g ρ) N C T):Go (aj aC g ρ) N C T:=.eq rfl h
theorem zk:aj (aj f1 f2) g ρ=aj f1 (aj f2 g) ρ:=by
 unfold aj;cases f1 ρ with
 |bad=>rfl
 |er x=>rfl
 |ok a=>cases a<;>rfl
theorem eG(h:Go (aj f1 (aj f2 g) ρ) N C T):Go (aj (aj f1 f2) g ρ) N C T:=.eq zk h
theorem aP(i:c ρ=.ok (b,ρ1))(a:b=Ld->Go (aj f1 g ρ1) N C T)(h:b=Tx->Go (aj f2 g ρ1) N C T):Go (aj (ce c f1 f2) g ρ) N C T:=by
 have e:aj (ce c f1 f2) g ρ=if b=Ld then aj f1 g ρ1 else aj f2 g ρ1:=by unfold aj ce;rw[i,fo];cases b<;>rfl
 refine .eq e ?_;cases b with
 |true=>exact a rfl
 |false=>exact h rfl
theorem fW(I:Nat->aD->Prop)(hi:fi ρ=.ok (ds,ρ1))(h:I 0 ρ1)(a:∀i d ρ,ds[i]?=ax d->I i ρ->∃ρ1,gt (.fz d) ρ=.ok ρ1/\Go (b ρ1) (I (i+1)) (I (i+1)) T)(e:∀ρ',I ds.length ρ'->Go (g ρ') N C T):Go (aj (hG fi gt b) g ρ) N C T:=
 dG (wF I hi h a e)
theorem rY(I:aD->Prop)(P:Nat->D->Prop):∀(ds:ck D) (k:Nat) (ρ:aD) (acc:ck D),I ρ->acc.length+ds.length<=1000000->(∀i d,ds[i]?=ax d->∀ρ,I ρ->∃x ρ',ju gt ft fe d ρ=.ok (ax x,ρ')/\I ρ'/\P (k+i) x)->
  ∃xs,cf gt ft fe ds ρ acc=.ok (acc++xs)/\xs.length=ds.length/\∀i x,xs[i]?=ax x->P (k+i) x
 |[],k,ρ,acc,_,_,_=>⟨[],by show Res.ok acc=_;simp,rfl,λi x h=>by simp at h⟩
 |d::r,k,ρ,acc,h0,hl,hs=>by
  obtain⟨x,ρ',n,m,l⟩:=hs 0 d rfl ρ h0;rw[TJ]at hl;obtain⟨xs,q,p,o⟩:=rY I P r (k+1) ρ' (acc++[x]) m (by rw[T4];simp;ext) λi t hi a j=>by
   have e:k+1+i=k+(i+1):=by ext
   rw[e];exact hs (i+1) t (by simpa using hi) a j
  refine⟨x::xs,?_,by rw[TJ,p,TJ],λi y b=>?_⟩
  .rw[pR n (by ext)];show cf gt ft fe r ρ' (acc++[x])=_;rw[q,VI];rfl
  .cases i with
   |zero=>cases(show ax x=ax y from b);exact l
   |succ i=>
    have e:k+(i+1)=k+1+i:=by ext
    rw[e];exact o i y (by simpa using b)
theorem dR(I:aD->Prop)(P:Nat->D->Prop)(e:I ρ)(b:ds.length<=1000000)(a:∀i d,ds[i]?=ax d->∀ρ,I ρ->∃x ρ',ju gt ft fe d ρ=.ok (ax x,ρ')/\I ρ'/\P i x):
  ∃xs,g9 (cf gt ft fe ds ρ [])=.ok xs/\xs.length=ds.length/\∀i x,xs[i]?=ax x->P i x:=by
 obtain⟨xs,k,j,h⟩:=rY I P ds 0 ρ [] e (by simpa using b) (by simpa using a);exact⟨xs,by rw[k];rfl,j,by simpa using h⟩
theorem me{α:Type}{f:α->D}{Q:Nat->α->Prop}:∀(xs:ck D) (k:Nat),(∀i x,xs[i]?=ax x->∃a,x=f a/\Q (k+i) a)->∃as:ck α,xs=as.map f/\∀i a,as[i]?=ax a->Q (k+i) a
 |[],_,_=>⟨[],rfl,λi a h=>by simp at h⟩
 |x::r,k,h=>by
  obtain⟨a,e,q⟩:=h 0 x rfl;obtain⟨as,n,l⟩:=me (f:=f) (Q:=Q) r (k+1) λi y m=>by
   have e:k+1+i=k+(i+1):=by ext
   rw[e];exact h (i+1) y (by simpa using m)
  refine⟨a::as,by rw[e,n];rfl,λi b j=>?_⟩;cases i with
  |zero=>cases(show ax a=ax b from j);exact q
  |succ i=>
   have e:k+(i+1)=k+1+i:=by ext
   rw[e];exact l i b (by simpa using j)
theorem RZ(ha:lD.strOk a=Ld)(e:lD.strOk b=Ld):bV (.str a) (.str b)=ax (.fz (.bool (a==b))):=by unfold bV;rw[show jP (.str a)=Ld by unfold jP;rw[show lD.canLay0 (.str a)=Ld from ha];rfl,show lD.canLay0 (.str b)=Ld from e,U7,ak rfl];rfl
theorem pO(ha:lD.strOk a=Ld):bV (.str a) (.str a)=ax (.fz (.bool Ld)):=by rw[RZ ha ha,ez]
theorem eS(ha:lD.strOk a=Ld)(e:lD.strOk b=Ld)(h:(a==b)=Tx):bV (.str a) (.str b)=ax (.fz (.bool Tx)):=by rw[RZ ha e,h]
theorem Qf(ha:lD.strOk a=Ld)(h:lD.strOk b=Ld)(e:lD.strOk c=Ld):iY (.str a) (.tuple [.str b,.str c])=ax (.fz (.bool (b==a||c==a))):=by show(if(jP (.str a)&&(lD.strOk b&&(lD.strOk c&&Ld)))=Ld then ax (RV.fz (.bool (lD.eqv (.str b) (.str a)||(lD.eqv (.str c) (.str a)||false))))else CL)=_;rw[show jP (.str a)=Ld by unfold jP;rw[show lD.canLay0 (.str a)=Ld from ha];rfl,h,e,YU];rfl
theorem Qh(ha:lD.strOk a=Ld)(j:lD.strOk b=Ld)(i:lD.strOk c=Ld)(h:lD.strOk e=Ld):iY (.str a) (.tuple [.str b,.str c,.str e])=ax (.fz (.bool (b==a||(c==a||e==a)))):=by show(if(jP (.str a)&&(lD.strOk b&&(lD.strOk c&&(lD.strOk e&&Ld))))=Ld then ax (RV.fz (.bool (lD.eqv (.str b) (.str a)||(lD.eqv (.str c) (.str a)||(lD.eqv (.str e) (.str a)||false)))))else CL)=_;rw[show jP (.str a)=Ld by unfold jP;rw[show lD.canLay0 (.str a)=Ld from ha];rfl,j,i,h,YU];rfl
theorem oE{α:Type}{xs:ck α}{i:Int}{v:α}(a:0<=i)(h:xs[i.toNat]?=ax v):mL xs i=ax v:=K5 a h
theorem Ls(a:0<=i)(h:ds[i.toNat]?=ax d):aG (.tuple ds) (.int i)=ax (.fz d):=by show(mL ds i).map RV.fz=_;rw[oE a h];rfl
theorem jZ(a:0<=i)(h:ds[i.toNat]?=ax d):aG (.list ds) (.int i)=ax (.fz d):=by show(mL ds i).map RV.fz=_;rw[oE a h];rfl
theorem ka(a:0<=n)(h:n<=1000000):d8 [.int n]=ax (cG (Uo n.toNat)):=by rw[xJ (by unfold jB;ext),u9]
theorem Q6:nt (.int 10) (.int 8)=ax (.fz (.int (10^8))):=wI ⟨by decide,by decide⟩
theorem Pp:nt (.int 10) (.int 24)=ax (.fz (.int (10^24))):=wI ⟨by decide,by decide⟩
theorem aQ{f:D->D->cv RV}(ha:fa ρ=.ok (pa,ρ1))(i:fb ρ1=.ok (pb,ρ2))(e:jb ρ2 (dZ pa)=ax dx)(a:jb ρ2 pb=ax dy)(h:f dx dy=ax (.fz (.bool b))):ah f fa fb ρ=.ok (.fz (.bool b),ρ2):=aO ha i e a h
theorem tV{f:ck D->cv RV}(ha:fr ρ=.ok (ps,ρ1))(hd:jX ρ1 ps=ax ds)(a:f ds=ax (.fz (.bool b))):b8 f fr ρ=.ok (.fz (.bool b),ρ1):=bC ha hd a
theorem gn(ha:fr ρ=.ok (ps,ρ1))(hd:jk ρ1 ps=ax (ds,ρ2))(hn:ds.length=n)(a:F ds=.ok (.fz (.bool b))):aK F n fr ρ=.ok (.fz (.bool b),ρ2):=eH ha hd hn a
theorem sr{s:ck Nat}(e:s.Pairwise (·<·))(h:∀k∈s,k<n):s.length<=n:=by
 have:∀(s:ck Nat) (a:Nat),s.Pairwise (·<·)->(∀k∈s,a<=k/\k<n)->s.length<=n - a:=by
  intro s
  induction s with
  |nil=>intro a _ _;exact Vd _
  |cons x r i=>intro a e h;obtain⟨l,j⟩:=Vj.mp e;have m:=h x TC;have:=i (x+1) j λk b=>⟨l k b,(h k (TH _ b)).2⟩;rw[TJ];ext
 exact this s 0 e λk b=>⟨Vd _,h k b⟩
theorem yX(ha:fr ρ=.ok (ps,ρ1))(hd:jk ρ1 ps=ax ([d,e],ρ2))(b:ef d=ax es)(a:ef e=ax fs):zP fr ρ=.ok (jW es fs,ρ2):=by unfold zP;rw[ha,fo,hd,aq,fo];dsimp only;rw[b,aq,fo,a,aq,fo]
theorem gZ{f g:D->D->cv RV}(ha:fa ρ=.ok (pa,ρ))(k:fb ρ=.ok (pb,ρ))(j:fc ρ=.ok (pc,ρ))(e:jb ρ (dZ pa)=ax dx)(a:jb ρ (dZ pb)=ax dy)(b:jb ρ pc=ax dz)(i:f dx dy=ax (.fz (.bool b1)))(h:b1=Ld->g dy dz=ax (.fz (.bool b2))):cx f g fa fb fc ρ=.ok (.fz (.bool (b1&&b2)),ρ):=by
 unfold cx;rw[ha,fo,k,fo];dsimp only;rw[e,aq,fo,a,aq,fo,i,aq,fo];cases b1 with
 |false=>rfl
 |true=>dsimp only;rw[j,fo];dsimp only;rw[a,aq,fo,b,aq,fo,h rfl,aq,fo];rfl
end
end L3
namespace L3
open PySem PySem.Spec PyProof.Rows L2 PySem.Builtin PySem.Builtin.Str
section
variable{X:Cx}
theorem jS{z:Str}{u:Tw}(h:RelV (.str z) u):∃t,u=.str z t:=h
theorem zW:Gk X "str.startswith" (λx xs H Q=>∃a b,x=.str a/\xs=[.str b]/\Q (.bl (Txt.startswith a b)) H):=by rintro e s h H x xs v i Q I f d ⟨a,b,rfl,rfl,q⟩;obtain⟨t,rfl⟩:=jS f;obtain⟨u,rfl,g⟩:=d.one;obtain⟨j,rfl⟩:=jS g;exact PySem.SC.startswith ⟨.bl _,H,I,rfl,q⟩
theorem rP:∀l:ck (Str×Tok),Vals ((l.map (·.1)).map V.str) (strValues l)
 |[]=>.nil
 |p::r=>.cons ⟨p.2,rfl⟩ (rP r)
theorem r9:∀{a:ck Str} {b:ck Tw},Vals (a.map V.str) b->∃l,b=strValues l/\l.map (·.1)=a
 |[],_,.nil=>⟨[],rfl,rfl⟩
 |z::r,_,.cons h t=>by obtain⟨k,rfl⟩:=jS h;obtain⟨l,rfl,e⟩:=r9 t;exact⟨(z,k)::l,rfl,by rw[Ub,e]⟩
def BH:V->ck V->Hp->VK->Prop:=λx xs H Q=>∃a b,x=.str a/\xs=[.str b]/\(b.length==0)=Tx/\a.length<=T8/\(Txt.split a b).length<=T8/\∀p,H p=CL->Q (.ref p) (bz H p (.lst ((Txt.split a b).map V.str)))
theorem Bh:Gk X "str.split" BH:=by
 rintro f s j H x xs v n Q I k h ⟨a,b,rfl,rfl,hy,hx,hn,q⟩;obtain⟨t,rfl⟩:=jS k;obtain⟨u,rfl,m⟩:=h.one;obtain⟨t',rfl⟩:=jS m;have d:∀(l:ck (Str×Tok)) (g:Nat),l.map (·.1)=Txt.split a b->EP X f j Q (.ref s.heap.objs.size) {s with heap:=s.heap.push {cls:=.type "list",data:=.seq (strValues l).toArray},toks:=g}:=λl g e=>by have i:=rP l;rw[e]at i;exact⟨.ref _,_,I.ae8 (t':=g) i (by rw[Tv];exact hn),rfl,q _ I.fresh⟩
 cases h1:(decide (a.length<b.length)||decide (strKind a<strKind b))with
 |true=>exact VU F.slot_str_split (X5 _ _ _) F.entry_str_split (F.args_str_split_2 _ _) (meets_str_split_cannot_occur a b t t' h1) (d [(a,t)] s.toks (ak h1).symm)
 |false=>
  cases hf:(occurrences a b 0 a.length (a.length+1)).isEmpty with
  |true=>exact VU F.slot_str_split (X5 _ _ _) F.entry_str_split (F.args_str_split_2 _ _) (meets_str_split_not_found a b t t' h1 hy hf) (d [(a,t)] s.toks ((ar (ne_true_of_eq_false h1)).trans (ak hf)).symm)
  |false=>have e:Txt.split a b=partsBetween a (occurrences a b 0 a.length (a.length+1)) b.length:=(ar (ne_true_of_eq_false h1)).trans (ar (ne_true_of_eq_false hf));refine VU F.slot_str_split (X5 _ _ _) F.entry_str_split (F.args_str_split_2 _ _) (meets_str_split_sep a b t t' h1 hy hf hx (by rw[<-e];exact hn)) ?_;rw[strsFrom_eq];exact d (numbered s.toks _) _ ((numbered_texts _ _).trans e.symm)
def Ir(K:cL):V->ck V->Hp->VK->Prop:=λx xs H Q=>∃a l ts,x=.str a/\xs=[.ref l]/\XG K H l (ts.map V.str)/\ZL a ts=Ld/\Q (.str (Txt.join a ts)) H
theorem ES:Gk X "str.join" (Ir X.K):=by
 rintro e s i H x xs v j Q I g b ⟨a,l,m,rfl,rfl,hq,Vp,q⟩;obtain⟨t,rfl⟩:=jS g;obtain⟨u,rfl,h⟩:=b.one;cases h;obtain⟨p,rv,pl,o⟩:=I.list hq;obtain⟨d,rfl,rfl⟩:=r9 rv;have f:tooLong ((d.map (·.1)).toArray.foldl (·+·.length+a.length) 0)=Tx:=by unfold ZL at Vp;rwa [UX]at Vp
 exact VU F.slot_str_join (X5 _ _ _) F.entry_str_join (F.args_str_join_2 _ _) (meets_str_join_list a t l d f) ⟨pl.isList,post_join d ⟨joinFit_length f,λn k=>⟨.str _,H,I.tok k,⟨_,rfl⟩,q⟩⟩⟩
def Pf:V->cv Int->cv Int->Hp->VK->Prop:=λx lo hi H Q=>∃z,x=.str z/\z.length<=T8/\Q (.str (Txt.slice z lo hi)) H
theorem JG:Ia X Pf:=by
 rintro b s g H x v o n lo hi p Q I m d pl f ⟨z,rfl,hz,q⟩;obtain⟨t,rfl⟩:=jS m;refine⟨"str",_,F.slot_str_getitem.lookup,X5 _ _ _,?_⟩;have a:(Txt.slice z lo hi).length<=T8/\∀e k,EP X b g Q (.str (Txt.slice z lo hi) e) {s with toks:=k}:=⟨UH (Txt.slice_le z _ _) hz,λe k=>⟨.str _,H,I.tok k,⟨_,rfl⟩,q⟩⟩;cases pl with
 |none=>cases f with
  |none=>exact W2 (l:=CL) (u:=CL) (st:=CL) d rfl (YN a)
  |int j u=>exact W2 (l:=CL) (u:=ax (j,u)) (st:=CL) d rfl (YN a)
 |int i u=>cases f with
  |none=>exact W2 (l:=ax (i,u)) (u:=CL) (st:=CL) d rfl (YN a)
  |int j h=>exact W2 (l:=ax (i,u)) (u:=ax (j,h)) (st:=CL) d rfl (YN a)
theorem Au:Wn X (.type "int") (λxs H Q=>∃z n,xs=[.str z]/\V7 z=ax n/\z.length<=640/\Q (.int n) H):=by rintro a s d H xs e Q I r ⟨z,n,rfl,hn,hl,q⟩;obtain⟨u,rfl,b⟩:=iZ r;obtain⟨t,rfl⟩:=jS b;exact aiX hn hl ⟨.int n,H,I.tok _,⟨_,rfl⟩,q⟩
end
section
variable{X:Cx}
def f2(a b:Str)(i j:Int):Str:=X3++a++VP (toString i)++b++VP (toString j)
def QR(x:Str):It:=⟨λi _=>i<x.cps.size,λi H v a=>∃c,x.cps[i]?=ax c/\v=.str ⟨#[c]⟩/\a=H,λi _=>i=x.cps.size⟩
theorem rX{P:Ug}{w:Ux}{K:cL}{S:Ue}(x:Str)(t:Tok)(it:TM)(ty:String)
  (hn:["enumerate","zip","dict_itemiterator","dict_reverseitemiterator","odict_iterator","itertools.zip_longest","itertools.pairwise"].contains ty=Tx)
  (W:∀A:Ut,A.handled=CL->afl P w A it [it] [it] x.cps.size (SignAt x) (λi h=>h.IsStrIter it ty x t i)) (self:∀(A:Ut) (i:Nat) (s:TK) (Q:Tw->TK->Prop) (E:Tw->TK->Prop),s.heap.IsStrIter it ty x t i->Q (.ref it) s->wpAny (model P w) A (pyIter (.ref it)) Q E s):
  Turn P w K S (QR x) [it] it (λi h=>h.IsStrIter it ty x t i) where
 mem:=by simp
 obj:=λi h a b g=>by
  have e:b=it:=by simpa using g
  subst e;obtain⟨o,e,c,d⟩:=a;exact⟨o,e,λv z=>by rw[d]at z;cases z⟩
 keep:=λi h p a k=>by obtain⟨o,e,r⟩:=a;exact⟨o,k it (by simp) o e,r⟩
 item:=by intro X F y G C i f s R H E I n a m;subst F y G;obtain⟨O,N,f2,M,L,J⟩:=n it (by simp);refine(W X.A (I.ok.hd C)).item i s _ _ m a λv p j T l q=>?_;obtain⟨c,u,B,rfl⟩:=T;have U:L2.Inv X f R H {s with heap:=p,toks:=j}:=I.turned (t':=j) (λb o g e=>q b o (by simpa using g) e) O N M L J;obtain⟨o,e,cl,d⟩:=id l;exact⟨_,rfl,yt (s:={s with heap:=p,toks:=j}) e cl d hn ⟨.str ⟨#[c]⟩,H,U,⟨u,rfl⟩,⟨c,B,rfl,rfl⟩,l,λb g=>(n b g).1⟩⟩
 done:=by intro X F y G C i f s R H E I n a m;subst F y G;have m:i=x.cps.size:=m;subst m;obtain⟨O,N,f2,M,L,J⟩:=n it (by simp);exact(W X.A (I.ok.hd C)).done s _ _ a λp j q=>⟨rfl,I.turned (t':=j) (λb o g e=>q b o (by simpa using g) e) O N M L J⟩
 self:=λA i s Q E a h=>self A i s Q E a h
def AR(b:TE):TI:=λa H R=>b a H λx d=>∃z,x=.str z/\R (QR z) d
theorem Lx{p l:Ue}{k:TE}(u:PE X l k):PI X p l (AR k):=by
 intro d s n H R I h;refine c9 (u d s n H _ I h) λv a ⟨y,j,f,r,z,e,q⟩=>?_;subst e;obtain⟨t,rfl⟩:=jS r;have m:∀b∈[a.heap.objs.size],kY X d j b:=λb w=>by
  have e:b=a.heap.objs.size:=by simpa using w
  subst e;exact f.aaB (TQ _) (f.Vp.fresh (TQ _))
 cases ha:z.cps.all (·<128)with
 |false=>refine wpAny_pyIter_wide ha ?_;exact⟨a.heap.objs.size,[a.heap.objs.size],_,_,j,rfl,f.kept (t':=a.toks) λb o e=>cM _ e,rX z t _ "str_iterator" (by decide) (λA i=>afl.strWide i _ z t) (λ_ _ _ _ _ g h=>wpAny_pyIter_striter_wide g h),⟨_,c6 _ rfl,rfl,rfl⟩,m,q⟩
 |true=>refine wpAny_pyIter_ascii ha ?_;exact⟨a.heap.objs.size,[a.heap.objs.size],_,_,j,rfl,f.kept (t':=a.toks) λb o e=>cM _ e,rX z t _ "str_ascii_iterator" (by decide) (λA i=>afl.strAscii i _ z t) (λ_ _ _ _ _ g h=>wpAny_pyIter_striter_ascii g h),⟨_,c6 _ rfl,rfl,rfl⟩,m,q⟩
end
section
variable{X:Cx}
def RM(D:ck (lD×lD))(tb:TE):TE:=λa H Q=>tb a H λy b=>∃k z,y=.str k/\lookup (lD.str k) D=ax (.str z)/\Q (.str z) b
theorem EK{f:ck (cv Ue)}{g:ck Ue}{J C:Pos}{b:Ue}{tb:TE}{D:ck (lD×lD)}(Z:PE X b tb)(hD:litPairs f g=ax D)(S:strKeyed D=Ld)(hn:(strKeysOf D).Nodup)
  (K:f.all (·.isSome)=Ld) (Y:f.length=g.length) (h0:f≠[]) (m:f.length<=15) (l:tL b):PE X (.Subscript (.Dict f g J) b C) (RM D tb):=by
 intro i s A H Q I h;refine Subscript_ (Dict_lits_str hD S hn K Y h0 m λa o h1 j ha U T P=>?_);have M:=I.kept (t':=j) P;obtain⟨Yc,n,F⟩:=T;have I2:L2.Inv X (i++[(a,o)]) A H {s with heap:=h1,toks:=j}:=M.Y0 λp l=>by
  rcases Uy.mp l with z|z
  .exact M.pin p (Ud _ z)
  .rw[TX.mp z];exact⟨U,I.Vp.fresh ha,Vb (Uc I.lt ha),I.ahh ha,λv q=>by obtain⟨_,_,_,d,_⟩:=n;rw[d]at q;cases q⟩
 refine c9 (Z (i++[(a,o)]) _ A H _ I2 h) λu B ⟨y,H2,L,N,k,z,e,O,q⟩=>?_;subst e;obtain⟨t,rfl⟩:=jS N;have E:=(L.pin (a,o) (Ud _ (Ud _ (TX.mpr rfl)))).1;obtain⟨v,R,fl⟩:=F.of_lookup amH O;have r:B.heap.DictOf (PySem.strKind X.prog X.w) a Yc:=Heap.dictOf_iff.mpr ⟨o,E,n⟩;have G:∀j,EP X i A Q v {B with toks:=j}:=λj=>⟨.str z,H2,(L.Y0 λp l=>L.pin p (Ud _ (VF _ l))).tok j,(by cases fl B.heap;exact⟨_,rfl⟩),q⟩;exact subscriptTail_builtinR (x:=v) (T:= "dict") r.typeIs PySem.slot_dict_getitem.lookup (wpAny_getItem_of (PySem.strKind_is _ _ k t) r.mapOf R ⟨rfl,G _⟩) (l _ _)
end
section
variable{K:cL}{E:XK}{B O O':bU}{Y H H':Hp}{Z:L2.St}{ρ ρ':aD}{v:V}
def rj:PV->cv Str
 |.fz (.str z)=>ax z
 |_=>CL
theorem uN{pv:PV}{z:Str}(p:Yg K Y O Z H ρ v pv)(e:rj pv=ax z):v=.str z:=by
 unfold rj at e;split at e
 .cases e;cases(show DV O K H v (.str z)from p);rfl
 .cases e
def Mq(K:cL)(r:V->ck V->Hp->VK->Prop)(f:Str->ck D->cv RV):Prop:=∀(O:bU) (H:Hp) (z:Str) (xs:ck V) (ds:ck D) (rv:RV) (Q:VK),nZ O H->Paired (DX O K H) xs ds->f z ds=ax rv->Fin O K H Q rv->r (.str z) xs H Q
def nA(f:Str->ck D->cv RV)(d:FE)(fa:FA):FE:=λρ=>(d ρ).bind λa=>(Res.U1 (rj a.1)).bind λz=>(fa a.2).bind λb=>(Res.U1 (jX b.2 b.1)).bind λds=>(Res.U1 (f z ds)).bind λrv=>.ok (rv.pv,b.2)
theorem MK{r:V->ck V->Hp->VK->Prop}{f:Str->ck D->cv RV}{to:TE}{ta:TA}{g:FE}{fa:FA}(n:Mq K r f)(o:EO K E to g)(ha:AO K E ta fa):EO K E (Ib K "str" r to ta) (nA f g fa):=by intro B Y O Z H ρ Q R w;refine o B Y O Z H ρ _ R (w.bind.imp λa e C x I q u m=>?_);obtain⟨z,h,e⟩:=e.U1;obtain rfl:=uN m h;refine⟨rfl,?_⟩;refine ha B Y C Z I a.2 _ u (e.bind.imp λb d A xs G p R2 l=>?_);obtain⟨ds,j,d⟩:=d.U1;obtain⟨rv,i,d⟩:=d.U1;exact n A G z xs ds rv Q R2.od (mX R2 l j) i (jg R2 λy v F e3 t k=>d y v F (q.trans (p.trans e3)) t k)
def kG(z:Str):ck D->cv RV
 |[.str b]=>ax (.fz (.bool (Txt.startswith z b)))
 |_=>CL
theorem zV:Mq K (λx xs H Q=>∃a b,x=.str a/\xs=[.str b]/\Q (.bl (Txt.startswith a b)) H) kG:=by
 intro O H z xs ds rv Q n d e q;unfold kG at e;split at e
 .cases e
  cases d with
  |cons g f=>cases f;cases g;exact⟨_,_,rfl,rfl,q.at (.bl _)⟩
 .cases e
theorem vg{O:bU}{H:Hp}:∀ts:ck Str,VH O K H (ts.map V.str) (ts.map .str)
 |[]=>.nil
 |z::r=>.cons (.str z) (vg r)
def de(z:Str):ck D->cv RV
 |[.str b]=>if(b.length==0)=Tx/\z.length<=1000000/\(Txt.split z b).length<=1000000 then ax (.ow ((Txt.split z b).map .str))else CL
 |_=>CL
theorem Df:Mq K BH de:=by
 intro O H z xs ds rv Q n b e q;unfold de at e;split at e
 .split at e
  .rename_i a
   cases e;cases b with
   |cons f d=>cases d;cases f;exact⟨_,_,rfl,rfl,a.1,mw a.2.1,mw a.2.2,Fin.new (vg _) q⟩
  .cases e
 .cases e
def rb:ck D->cv (ck Str)
 |[]=>ax []
 |.str b::r=>(rb r).map (b::·)
 |_=>CL
theorem yO{O:bU}{H:Hp}:∀{xs:ck V} {ds:ck D} {bs:ck Str},VH O K H xs ds->rb ds=ax bs->xs=bs.map V.str
 |_,_,_,.nil,e=>by cases e;rfl
 |_,_,bs,.cons (vs:=vs) (ds:=r) h t,e=>by
  cases h with
  |str b=>
   have a:(rb r).map (b::·)=ax bs:=e;cases q:rb r with
   |none=>rw[q]at a;cases a
   |some d=>rw[q]at a;cases a;rw[yO t q];rfl
  |_=>cases e
theorem vQ(a:ck Str):rb (a.map .str)=ax a:=by
 induction a with
 |nil=>rfl
 |cons n r b=>show(rb (r.map .str)).map (n::·)=_;rw[b];rfl
def ie(z:Str):ck D->cv RV
 |[.list ds]=>(match rb ds with
  |some a=>if ZL z a=Ld then ax (.fz (.str (Txt.join z a)))else CL
  |none=>CL)
 |_=>CL
theorem En:Mq K (Ir K) ie:=by
 intro O H z xs ds rv Q n g e q;unfold ie at e;split at e
 .rename_i i
  cases qs:rb i with
  |none=>rw[qs]at e;cases e
  |some f=>
   rw[qs]at e;dsimp only at e;split at e
   .rename_i h
    cases e;cases g with
    |cons d b=>cases b;obtain⟨a,j,rfl,d,b⟩:=An d;have:=yO b qs;subst this;exact⟨z,a,f,rfl,rfl,d.sq,h,q.at (.str _)⟩
   .cases e
 .cases e
def aX:D->cv Int->cv Int->cv RV
 |.str z,lo,hi=>if z.length<=1000000 then ax (.fz (.str (Txt.slice z lo hi)))else CL
 |_,_,_=>CL
theorem G3:Pv K Pf aX:=by
 intro O H x lo hi dx rv Q n a e q;unfold aX at e;split at e
 .split at e
  .rename_i b;cases e;cases a;exact⟨_,rfl,mw b,q.at (.str _)⟩
  .cases e
 .cases e
def eB:D->D->cv RV
 |.str i,.str j=>if i.length+j.length<=1000000 then ax (.fz (.str (i++j)))else CL
 |_,_=>CL
theorem BM:jY K (λx y H Q=>∃i j,x=.str i/\y=.str j/\i.length+j.length<=T8/\Q (.str (i++j)) H) eB:=by
 intro O H x y dx f rv Q n b a e q;unfold eB at e;split at e
 .split at e
  .rename_i d;cases e;cases b;cases a;exact⟨_,_,rfl,rfl,mw d,q.at (.str _)⟩
  .cases e
 .cases e
def LI(i j:Str):Bool:= !(Um.Str.occurrences j i 0 j.length 1).isEmpty
def J9:=fS LI
theorem JV{X:Cx}:OpR X (U8 .In) (Dk LI):=AE
theorem Gc:jY K (Dk LI) J9:=HJ
def mY:ck D->cv RV
 |[.int i]=>if i.natAbs<10^30 then ax (.fz (.str (VP (toString i))))else CL
 |_=>CL
theorem Ao{n:Nat}(h:n<10^30):n.log2<1920:=by
 by_cases a:n=0
 .subst a;decide
 .have:=(ahE (k:=128) a).mpr (Uc h (by decide));ext
theorem KO:yg K (λxs H Q=>∃i,xs=[.int i]/\i.natAbs.log2<1920/\Q (.str (toString i)) H) mY:=by
 intro O H xs ds rv Q n a e q;unfold mY at e;split at e
 .split at e
  .rename_i b
   cases e;cases a with
   |cons f d=>cases d;cases f;exact⟨_,rfl,Ao b,q.at (.str _)⟩
  .cases e
 .cases e
def vG:ck D->cv RV
 |[.str z]=>(match V7 z with
  |some n=>if z.length<=640 then ax (.fz (.int n))else CL
  |none=>CL)
 |_=>CL
theorem FC:yg K (λxs H Q=>∃z n,xs=[.str z]/\V7 z=ax n/\z.length<=640/\Q (.int n) H) vG:=by
 intro O H xs ds rv Q n a e q;unfold vG at e;split at e
 .rename_i z
  cases qz:V7 z with
  |none=>rw[qz]at e;cases e
  |some m=>
   rw[qz]at e;dsimp only at e;split at e
   .rename_i b
    cases e;cases a with
    |cons f d=>cases d;cases f;exact⟨_,_,rfl,qz,b,q.at (.int _)⟩
   .cases e
 .cases e
def lK(z:Str):ck D:=z.cps.toList.map λc=>.str ⟨#[c]⟩
def km(fe:FE):FI:=λρ=>(fe ρ).bind λa=>(Res.U1 (rj a.1)).bind λz=>.ok (lK z,a.2)
theorem A0{z:Str}:sJ K (QR z) O H (lK z):=by
 intro O' H' e n;have a:(lK z).length=z.cps.size:=by unfold lK;rw[Tv,Xm]
 rw[a];refine⟨λi hi=>⟨hi,?_⟩,rfl⟩;rintro x d ⟨c,b,rfl,rfl⟩;refine⟨Vl.refl _,.str ⟨#[c]⟩,?_,.str _⟩;unfold lK;rw[TU,Yl,b];rfl
theorem AQ{d:TE}{fe:FE}(h:EO K E d fe):IO K E (AR d) (km fe):=by intro B Y O Z H ρ l R w;refine h B Y O Z H ρ _ R (w.bind.imp λa b j x k g i f=>?_);obtain⟨z,e,b⟩:=b.U1;obtain rfl:=uN f e;exact⟨z,rfl,b j _ k g i A0⟩
def PP(T:ck (lD×lD)):D->cv RV
 |.str k=>(match lookup (lD.str k) T with
  |some (.str z)=>ax (.fz (.str z))
  |_=>CL)
 |_=>CL
def MA(T:ck (lD×lD))(b:FE):FE:=λρ=>(b ρ).bind λa=>(Res.U1 (jb a.2 a.1)).bind λd=>(Res.U1 (PP T d)).bind λrv=>.ok (rv.pv,a.2)
theorem OC{T:ck (lD×lD)}{tb:TE}{f:FE}(l:EO K E tb f):EO K E (RM T tb) (MA T f):=by
 intro B Y O Z H ρ Q R w;refine l B Y O Z H ρ _ R (w.bind.imp λa e n x o m g i=>?_);obtain⟨d,h,e⟩:=e.U1;obtain⟨rv,b,e⟩:=e.U1;have dx:=gP g i h;unfold PP at b;split at b
 .rename_i k
  split at b
  .rename_i z j;cases b;cases dx;exact⟨k,z,rfl,j,e n _ o m g (.str _)⟩
  .cases b
 .cases b
end
end L3
namespace PySem
open Sem (wp)
open AutoSeq1 (wpAny_loadPart')
open Builtin Builtin.Str
section
variable{prog:Ug}{w:Ux}{A:Ut}{E:Tw->TK->Prop}{s:TK}
theorem uv{T newId o:String}{p q:Um}{args:ck Tw}{b:ck (Str×Tw)}{S:Spec}{Q Q₁:Tw->TK->Prop}(ft:TypeCalled T newId o)
  (u:checkTypeCall T ⟨args,b⟩=pure ()) (k:checkBuiltinCall newId ⟨.type T::args,b⟩=pure ()) (m:entryFor table newId=ax p) (n:entryFor table o=ax q) (g:Meets (p ⟨.type T::args,b⟩) S) (h:S A.in1 (wants Q₁ E) s)
  (l:∀obj s₁,Q₁ obj s₁->s₁.TypeIs obj T/\argsOk o ⟨obj::args,b⟩/\∃Si,Meets (q ⟨obj::args,b⟩) Si/\Si A.in1 (wants (λr s₂=>r=.none/\Q obj s₂) E) s₁):wpAny (model prog w) A (call (.type T) args b) Q E s:=by
 obtain⟨c,I,C⟩:=ft.mro;have G:=ft.made;have H:=ft.sub;refine YC (aaU ?_);show wpAny _ _ (callAny (.type T) _) _ _ _;refine TR ⟨aat.quiet_builtin _ (by left),ahG F.entry_type_call ?_⟩;rw[Ut.under_plain (adF T args b) (units_type_call_type T args b)];have K:=ft.notType;have J:=ft.canCreate
 repeat (any_goals (first|assumption|wp_step))
 refine WN (Vo ft.plain m (wpAny_of_eq k (g prog w A.in1 _ s h))) λr s₁ j=>?_;cases r with
 |error e=>exact j
 |ok B=>
  cases B with
  |ret obj=>
   obtain⟨y,Vp,Si,z,i⟩:=l _ _ j;have t:=ft.init.lookup;have v:=ft.init.bind obj
   repeat (any_goals (first|assumption|wp_step))
   refine WN (Vo ft.init.plain n (ft.init.check _ _ _ _ _ _ _ _ y Vp (z prog w A.in1 _ s₁ i))) λf s₂ a=>?_;cases f with
   |error e=>exact a
   |ok d=>
    cases d with
    |ret r=>obtain⟨rfl,L⟩:=a;repeat (any_goals (first|assumption|wp_step))
    |_=>exact a.elim
  |_=>exact j.elim
end
theorem ny(a b:Tw):checkTypeCall "enumerate" ⟨[a],[("start",b)]⟩=pure ():=by kernel_rfl
theorem om(a b:Tw):checkBuiltinCall "enumerate.__new__" ⟨[.type "enumerate",a],[("start",b)]⟩=pure ():=by kernel_rfl
theorem sw(a b c:Tw):argsOk "object.__init__" ⟨[a,b],[("start",c)]⟩:=by unfold argsOk;rw[signature?_of (id:= "object.__init__") (n:=['_','_','t','i','n','i','_','_']) (o:=['t','c','e','j','b','o']) (by kernel_rfl) F.owner_object];kernel_rfl
theorem p9{T newId:String}{self a b:Tw}(g:typeLookup (.type T) "__init__"=pure (ax (.builtin "object.__init__")))(hm:Bind.madeBy (.type T)=pure (ax newId))(i:(ax newId !=ax "object.__new__")=Ld):
  Meets (Um.«object.__init__» ⟨[self,a],[("start",b)]⟩) (λ_ R s=>s.TypeIs self T/\R (.ok (.ret .none)) s):=by
 refine Meets.of_wp λd w A R s e=>?_;obtain⟨h,f⟩:=e
 repeat (any_goals (first|assumption|wp_step))
 exact⟨_,rfl,f⟩
theorem qX(b:Bool)(l:TM)(a:Array Tw)(t:Tok):
  Meets (Um.«enumerate.__new__» ⟨[.type "enumerate",.ref l],[("start",.int 1 t)]⟩) (λ_ R s=>sqAt b s.heap l a/\R (.ok (.ret (.ref (s.heap.objs.size+1))))
   {s with heap:=(s.heap.push {cls:=.type (lw b),data:=.fields #[.ref l,.int 0 0]}).push {cls:=.type "enumerate",data:=.fields #[.none,.bool Tx,.ref s.heap.objs.size,rawInt 1,.none,.none]}}):=
 .of_wp λj w A R s h=>by
  obtain⟨i,g,d,k,m⟩:=s;obtain⟨n,h⟩:=h;have o:=akX;have e:sqAt b (TK.heap ⟨i,g,d,k,m⟩) l a:=n;have f:(i.push {cls:=.type (lw b),data:=.fields #[.ref l,.int 0 0]}).objs.size=i.objs.size+1:=d4 ..
  wp_walk using kx e
  refine ahF λp=>TR ?_;split
  .rename_i c _ _ _ _ _
   cases(c==Tw.type "enumerate")
   .wp_walk using kx e
    rw[f];exact⟨_,rfl,h⟩
   .wp_walk using kx e
    rw[f];exact⟨_,rfl,h⟩
  .wp_walk using kx e
   rw[f];exact⟨_,rfl,h⟩
section
variable{prog:Ug}{w:Ux}{A:Ut}{E:Tw->TK->Prop}{s:TK}
theorem sQ{b:Bool}{l:TM}{a:Array Tw}{t:Tok}{Q:Tw->TK->Prop}(i:sqAt b s.heap l a)
  (h:∀h',abv h' (s.heap.objs.size+1) s.heap.objs.size 1 .none->itAt b h' s.heap.objs.size l 0->(∀c o,s.heap.get? c=ax o->h'.get? c=ax o)->Q (.ref (s.heap.objs.size+1)) {s with heap:=h'}):
  wpAny (model prog w) A (call (.type "enumerate") [.ref l] [("start",.int 1 t)]) Q E s:=by
 refine uv (Q₁:=λobj d=>d.TypeIs obj "enumerate"/\Q obj d) F.called_enumerate (ny _ _) (om _ _) F.entry_enumerate_new F.entry_object_init (qX b l a t) ⟨i,?_⟩ λobj _ e=>
  ⟨e.1,sw _ _ _,_,p9 F.called_enumerate.init.lookup F.called_enumerate.made (by decide),e.1,rfl,e.2⟩
 have g:(s.heap.push {cls:=.type (lw b),data:=.fields #[.ref l,.int 0 0]}).objs.size=s.heap.objs.size+1:=d4 ..;have f:abv ((s.heap.push {cls:=.type (lw b),data:=.fields #[.ref l,.int 0 0]}).push {cls:=.type "enumerate",data:=.fields #[.none,.bool Tx,.ref s.heap.objs.size,rawInt 1,.none,.none]}) (s.heap.objs.size+1) s.heap.objs.size 1 .none:=by have:=c6 (s.heap.push {cls:=.type (lw b),data:=.fields #[.ref l,.int 0 0]}) (o:={cls:=.type "enumerate",data:=.fields #[.none,.bool Tx,.ref s.heap.objs.size,rawInt 1,.none,.none]}) rfl;rw[g]at this;exact this
 exact⟨⟨_,f,rfl⟩,h _ f (wZ (cM _ (c6 _ rfl))) λc o x=>cM _ (cM _ x)⟩
end
end PySem
namespace PySem
open Sem (wp)
open Builtin Builtin.Str
theorem sqAt.to{b:Bool}{h h':Heap}{a:TM}{xs:Array Tw}(x:sqAt b h a xs)(e:∀o,h.get? a=ax o->h'.get? a=ax o):sqAt b h' a xs:=by
 cases b with
 |true=>obtain⟨o,f,d⟩:=(show h.IsTuple a xs from x);exact⟨o,e o f,d⟩
 |false=>obtain⟨o,f,d⟩:=(show h.IsList a xs from x);exact⟨o,e o f,d⟩
theorem BI{prog:Ug}{w:Ux}{A:Ut}(b:Bool)(q:A.handled=CL)(it l:TM)(y:l≠it)(a:Array Tw):
  Draws prog w A it [it,l] (a.size+1) (λj v=>1<=j/\a[j - 1]?=ax v) (λj h=>1<=j/\itAt b h it l (j - 1)/\sqAt b h l a) where
 live:=λ_ _ d=>let⟨o,ho,_⟩:=d.2.1.live;⟨o,ho⟩
 frame:=λ_ _ _ d m=>⟨d.1,d.2.1.to λo e=>m it (by simp) o e,d.2.2.to λo e=>m l (by simp) o e⟩
 item:=λj s Q E z d r=>by
  obtain⟨n,k,i⟩:=d;have p:j - 1<a.size:=by ext
  refine oz k i (x:=a[j - 1]) (by simp[p]) λu g f=>?_;have e:j - 1+1=j+1 - 1:=by ext
  rw[e]at g;exact r _ u s.toks ⟨n,by simp[p]⟩ ⟨by ext,g,i.ext f.extBut y⟩ f
 done:=λs Q E d t=>by obtain⟨n,k,i⟩:=d;rw[XN]at k;exact tT q k i (by simp) t
section
variable{M:aaJ}{A:Ut}{E:Tw->TK->Prop}{s:TK}{env:Env}
theorem qu{b:Pos}{T:String}{e:Ue}{d:ck Yi}{Q:Tw->TK->Prop}
  (h:wpAny M A (spliced (backTo b (Uh [e] env))) (λvs s₁=>wpAny M A (evalAll ((backToKw b (keywordEach d env)).map (·.2))) (λYc s₂=>wpAny M A (call (.type T) vs (((backToKw b (keywordEach d env)).filterMap (·.1)).zip Yc)) Q E s₂) E s₁) E s)
  (k:backTo b (Uh [e] env)=[(Tx,eval e env)]) (i:(backToKw b (keywordEach d env)).all (·.1.isSome)=Ld) (g:(backToKw b (keywordEach d env)).any (·.1.isNone)=Tx):
  wpAny M A (callWith b (.type T) [] (backTo b (Uh [e] env)) (backToKw b (keywordEach d env))) Q E s:=by
 rw[k]at h⊢;unfold callWith;refine OK (Wz (wpAny_mono (ahH (Q:=λa s₁=>wpAny M A (call (.type T) a.pos a.kw) Q E s₁) i h) (λa s₁ f=>OK (VY ?_)) λ_ _ x=>x));simp only[g,Xb,List.any_nil,YU];refine OK (TR ?_);exact OK (wpAny_mono f (λr s₂ j=>OK (Wz (wpAny_point (TR j)))) λ_ _ x=>x)
end
end PySem
namespace L3
open PySem PySem.Spec PyProof.Rows L2 PySem.Builtin
def KP(K:cL)(b:Bool)(a:TM):It:=
 ⟨λi H=>∃xs x,vZ b K H a xs/\xs[i]?=ax x,
  λi H v d=>∃p x,H p=CL/\v=.ref p/\(∀xs,vZ b K H a xs->xs[i]?=ax x)/\d=bz H p (.tup [.int ((i+1:Nat):Int),x]),
  λi H=>∃xs,vZ b K H a xs/\xs.length=i⟩
theorem wD{P:Ug}{w:Ux}{K:cL}{F:ck Ue}{kk}{tp:Pos}(b:Bool)(a e it:TM)(X9:e≠it)(C:a≠it)(Z:a≠e):
  Turn P w K (.Tuple F kk tp) (KP K b a) [e,it] e (λi h=>(∃old,abv h e it ((i+1:Nat):Int) old)/\itAt b h it a i) where
 mem:=by simp
 obj:=λi h g c n=>by
  obtain⟨⟨old,f⟩,hi⟩:=g;rcases TL.mp n with z|n
  .subst z;exact⟨_,f,λv z=>by cases(show Z2.fields _=Z2.cell v from z)⟩
  .have z:c=it:=by simpa using n
   subst z;exact hi.live
 keep:=λi h h' g k=>by obtain⟨⟨old,f⟩,d⟩:=g;exact⟨⟨old,k e (by simp) _ f⟩,d.to λo q=>k it (by simp) o q⟩
 item:=by
  intro X hP R hK n i l s σ H E I M g T;subst hP R hK;obtain⟨⟨old,f⟩,d⟩:=g;obtain⟨xs,x,L,Q⟩:=T;obtain⟨r,rv,p⟩:=jJ I L;obtain⟨u,hu,ru⟩:=rv.get Q;have Zw:i<r.toArray.size:=by
   have:=(TN.mp hu).1
   simpa using this
  refine acS (BI (A:=X.A.in1) b (I.ok.hd n) it a C r.toArray) f ⟨by ext,by rw[XN];exact d,p⟩ (by ext) X9 (by simp[X9,Z.symm]) λy h1 J O ho ads hT hsz hk=>⟨_,rfl,?_⟩;have N:y=u:=by
   have q:r.toArray[i]?=ax u:=by simpa using hu
   have t:=O.2;rw[XN,q]at t;exact(Us t).symm
  subst N;refine X6 (s:={s with heap:=h1,toks:=J+1}) ho λh2 U m=>?_;have B:e<s.heap.objs.size:=c5 f;have S:it<s.heap.objs.size:=by obtain⟨_,z,_⟩:=d.live;exact c5 z
  have hn:H s.heap.objs.size=CL:=I.Vp.fresh (TQ _);have kk:∀c o,c∉[e,it]->s.heap.get? c=ax o->h2.get? c=ax o:=λc o j q=>by have h3:c≠e:=λz=>j (by simp[z]);have h4:c≠it:=λz=>j (by simp[z]);exact(m.2 c h3).trans (hk c o h3 h4 q)
  have hT2:h2.get? s.heap.objs.size=ax {cls:=.type "tuple",data:=.seq #[.int ((i+1:Nat):Int) J,y]}:=(m.2 _ (Vb B)).trans hT
  have I2:L2.Inv X l σ (bz H s.heap.objs.size (.tup [.int ((i+1:Nat):Int),x])) {s with heap:=h2,toks:=J+1}:=
   I.X7 (ch:=[e,it]) M kk (TQ _) ⟨by show 2<=T8;decide,[.int ((i+1:Nat):Int) J,y],.cons ⟨_,rfl⟩ (.cons ru .nil),⟨_,hT2,⟨rfl,_,rfl⟩,rfl⟩⟩
  have G:=ads.2.1;rw[show i+1+1 - 1=i+1 by ext]at G;refine⟨.ref s.heap.objs.size,_,I2,rfl,⟨_,x,hn,rfl,λys O=>by rw[ua I O L];exact Q,rfl⟩,⟨⟨y,U⟩,G.to λo q=>(m.2 it X9.symm).trans q⟩,λc j=>?_⟩;have Y:c≠s.heap.objs.size:=by
   rcases TL.mp j with z|j
   .rw[z];exact Ui B
   .rw[show c=it by simpa using j];exact Ui S
  rw[am Y];exact(M c j).1
 done:=by
  intro X hP R hK n i l s σ H E I M g T;subst hP R hK;obtain⟨⟨old,f⟩,d⟩:=g;obtain⟨xs,L,Q⟩:=T;obtain⟨r,rv,p⟩:=jJ I L;obtain⟨f0,f1,f2,f3,f4,f5⟩:=M it (by simp);have hl:=rv.length;have ei:i=r.toArray.size:=by rw[T3];ext
  subst ei;exact ac6 (BI (A:=X.A.in1) b (I.ok.hd n) it a C r.toArray) f ⟨by ext,by rw[XN];exact d,p⟩ λh1 eb=>⟨rfl,I.turned (t':=s.toks) (λc o j q=>eb c o j q) f0 f1 f3 f4 f5⟩
 self:=λ_ _ _ _ _ g h=>by obtain⟨⟨old,f⟩,_⟩:=g;exact WB f h
def yr(K:cL)(ta:TA):TI:=λe H R=>ta e H λvs d=>∃a b,vs=[.ref a]/\(∃xs,vZ b K d a xs)/\R (KP K b a) d
theorem DE{X:Cx}{l:Ue}{ta:TA}{p f tp t r:Pos}{n:ck Ue}{kk}{j:Nat}(M:Gl X "enumerate")(hm:X.mg "enumerate"=CL)(ha:PA X [l] ta)(G:Ke l=Tx:=by rfl):
  PI X (.Tuple n kk tp) (.Call (.Name "enumerate" p) [l] [⟨ax "start",.Constant (.int 1) j t,r⟩] f) (yr X.K ta):=by
 intro g s B H R I h;have N:eval (.Call (.Name "enumerate" p) [l] [⟨ax "start",.Constant (.int 1) j t,r⟩] f) X.env=(do callWith f (<-eval (.Name "enumerate" p) X.env) [] (backTo f (Uh [l] X.env)) (backToKw f (keywordEach [⟨ax "start",.Constant (.int 1) j t,r⟩] X.env))):=rfl;rw[N];refine OK (lN I M hm boot_enumerate (qu (c9 (ha f g s B H _ I h) λQ d ⟨vs,A,o,E,F⟩=>?_) (by rw[AC _ _ _ G];rfl) rfl rfl));obtain⟨a,b,e,⟨xs,J⟩,q⟩:=F;subst e;obtain⟨u,rfl,C⟩:=iZ E;cases C;obtain⟨S,rv,y⟩:=jJ o J;refine ahI (aeC (ahJ ?_));have T:=o.tok (d.toks+1);have m:a<d.heap.objs.size:=y.lt;have P:∀c∈[d.heap.objs.size+1,d.heap.objs.size],kY X g A c:=λc w=>by
  have k:d.heap.objs.size<=c:=by
   rcases TL.mp w with z|w
   .rw[z];exact Xl _
   .rw[show c=d.heap.objs.size by simpa using w];exact TQ _
  exact o.aaB k (o.Vp.fresh k)
 refine sQ (s:={d with toks:=d.toks+1}) y λO i v L=>?_;refine WB (s:={d with heap:=O,toks:=d.toks+1}) i ?_;exact⟨d.heap.objs.size+1,[d.heap.objs.size+1,d.heap.objs.size],_,_,A,rfl,o.kept (t':=d.toks+1) L,wD b a _ _ (ZK _) (Ui m) (Ui (Ww m)),⟨⟨_,i⟩,v⟩,P,q⟩
section
variable{K:cL}{E:XK}{B O O':bU}{H0 H H':Hp}{σ:L2.St}{ρ ρ':aD}{v:V}
theorem Bv{b:Bool}{a:TM}{xs:ck V}{ds:ck D}(h:aaD b O K H a xs)(hd:VH O K H xs ds):sJ K (KP K b a) O H (aZ 1 ds):=by intro O' H' e n;have g:=h.ev e;have k:=hd.ev e;rw[fZ];refine⟨λi hi=>?_,⟨xs,g.at,hd.length⟩⟩;obtain⟨x,j,dx⟩:=k.get (TF hi);refine⟨⟨xs,x,g.at,j⟩,?_⟩;rintro y l ⟨p,z,f,rfl,hz,rfl⟩;have d:=hz xs g.at;rw[j]at d;cases d;refine⟨aV f _,.tuple [.int ((i+1:Nat):Int),ds[i]],?_,.tup ⟨XA.of aF,λq=>a7 q (n p f)⟩ (.cons (.int _) (.cons (dx.ev (Ev.grow (aV f _))) .nil))⟩;rw[gc,TF hi,Zr 1 i];rfl
def nF(fa:FA):FI:=λρ=>(fa ρ).bind λa=>(Res.U1 (jk a.2 a.1)).bind λb=>match b.1 with
 |[d]=>(Res.U1 (ef d)).bind λds=>.ok (aZ 1 ds,b.2)
 |_=>.bad
theorem A7{ta:TA}{fa:FA}(h:AO K E ta fa):IO K E (yr K ta) (nF fa):=by
 intro B H0 O σ H ρ z R w;refine h B H0 O σ H ρ _ R (w.bind.imp λa d A vs u m r i=>?_);obtain⟨⟨ds,f⟩,q,d⟩:=d.U1;obtain⟨t,l,R2,n⟩:=kg r i q;dsimp only at d;cases n with
 |nil=>exact d.elim
 |cons k j=>
  cases j with
  |cons _ _=>exact d.elim
  |nil=>obtain⟨y,g,d⟩:=WR.U1 d;obtain⟨b,p,xs,rfl,e,o⟩:=Bq k g;exact⟨p,b,rfl,⟨_,e.at⟩,d t _ u (m.trans l) R2 (Bv e o)⟩
end
end L3
namespace L3
open PySem L2
def jn(c:Nat):ck (ck Nat)->ck Nat
 |[]=>[]
 |[x]=>x
 |x::y::r=>x++c::jn c (y::r)
theorem kL(c:Nat):∀ps:ck Str,(TV ⟨#[c]⟩ ps).cps.toList=jn c (ps.map λp=>p.cps.toList)
 |[]=>rfl
 |[x]=>rfl
 |x::y::r=>by show(x++⟨#[c]⟩++TV ⟨#[c]⟩ (y::r)).cps.toList=x.cps.toList++c::jn c ((y::r).map λp=>p.cps.toList);rw[aav,aav,ab7,ab7,kL c (y::r),VI];rfl
theorem xH{c:Nat}:∀{p w x y:ck Nat},c∉p->c∉w->p++c::x=w++c::y->p=w/\x=y
 |[],[],_,_,_,_,e=>⟨rfl,(WY e).2⟩
 |[],b::w,_,_,_,h,e=>a7 (WY e).1 λz=>h (by rw[z];exact TC)
 |a::p,[],_,_,h,_,e=>a7 (WY e).1 λz=>h (by rw[<-z];exact TC)
 |a::p,b::w,_,_,h,g,e=>by obtain⟨j,i⟩:=WY e;obtain⟨f,d⟩:=xH (λz=>h (TH _ z)) (λz=>g (TH _ z)) i;exact⟨by rw[j,f],d⟩
theorem A5{c:Nat}:∀{ps ws:ck (ck Nat)},ps≠[]->ws≠[]->(∀p∈ps,c∉p)->(∀w∈ws,c∉w)->jn c ps=jn c ws->ps=ws
 |[],_,h,_,_,_,_=>a7 rfl h
 |_,[],_,h,_,_,_=>a7 rfl h
 |[p],[w],_,_,_,_,e=>by rw[show p=w from e]
 |[p],w::a::r,_,_,h,_,e=>a7 (show p=w++c::jn c (a::r)from e) λz=>h p TC (by rw[z];exact Ud _ TC)
 |p::b::r,[w],_,_,_,h,e=>a7 (show p++c::jn c (b::r)=w from e) λz=>h w TC (by rw[<-z];exact Ud _ TC)
 |p::b::r,w::a::t,_,_,h,g,e=>by obtain⟨i,f⟩:=xH (h p TC) (g w TC) (show p++c::jn c (b::r)=w++c::jn c (a::t)from e);have:=A5 (ps:=b::r) (ws:=a::t) (by simp) (by simp) (λq d=>h q (TH _ d)) (λq d=>g q (TH _ d)) f;rw[i,this]
theorem Gu{a b:Str}(h:a.cps.toList=b.cps.toList):a=b:=amI (Zt.mp h)
def Fr(c:Nat)(s:Str):Prop:=c∉s.cps.toList
theorem wE{c:Nat}{ws:ck Str}(j:ws≠[])(h:∀w∈ws,Fr c w):Txt.split (TV ⟨#[c]⟩ ws) ⟨#[c]⟩=ws:=by
 have e:=af8 (TV ⟨#[c]⟩ ws) ⟨#[c]⟩;have f:=af9 (TV ⟨#[c]⟩ ws) c;have n:Txt.split (TV ⟨#[c]⟩ ws) ⟨#[c]⟩≠[]:=λz=>by have:=ahK (TV ⟨#[c]⟩ ws) ⟨#[c]⟩;rw[z]at this;cases this
 generalize Txt.split (TV ⟨#[c]⟩ ws) ⟨#[c]⟩=ps at e f n;have i:=ey (λs:Str=>s.cps.toList) e;rw[kL,kL]at i;have:=A5 (c:=c) (ps:=ps.map λp=>p.cps.toList) (ws:=ws.map λp=>p.cps.toList) (by simpa using n) (by simpa using j) (λp g=>by obtain⟨q,d,rfl⟩:=TZ.mp g;exact f q d) (λp g=>by obtain⟨q,d,rfl⟩:=TZ.mp g;exact h q d) i;exact(acU λa b h=>Gu h).mp this
theorem gM{c d:Nat}(f:c≠d):∀{ws:ck Str},(∀w∈ws,Fr c w)->Fr c (TV ⟨#[d]⟩ ws):=by
 intro ws h;unfold Fr;rw[kL];have:∀l:ck (ck Nat),(∀w∈l,c∉w)->c∉jn d l:=by
  intro l
  induction l with
  |nil=>intro _ z;cases z
  |cons x r b=>
   intro h;cases r with
   |nil=>exact h x TC
   |cons y r=>
    show c∉x++d::jn d (y::r);intro z;rcases Uy.mp z with z|z
    .exact h x TC z
    .rcases TL.mp z with z|z
     .exact f z
     .exact b (λw a=>h w (TH _ a)) z
 exact this _ λw a=>by obtain⟨q,e,rfl⟩:=TZ.mp a;exact h q e
theorem g6{d:Nat}{B:Nat}:∀{ws:ck Str},(∀w∈ws,w.length<=B)->(TV ⟨#[d]⟩ ws).length<=ws.length*(B+1)
 |[],_=>Vd _
 |[x],h=>by have:=h x TC;show x.length<=1*(B+1);ext
 |x::y::r,h=>by have g:=h x TC;have f:=g6 (ws:=y::r) (d:=d) λw a=>h w (TH _ a);show(x++⟨#[d]⟩++TV ⟨#[d]⟩ (y::r)).length<=(r.length+1+1)*(B+1);rw[U0,U0];have e:(⟨#[d]⟩:Str).length=1:=rfl;have b:(y::r).length=r.length+1:=rfl;rw[b]at f;rw[e,abu (r.length+1)];ext
theorem Br{d:Nat}{ws:ck Str}{B:Nat}(h:∀w∈ws,w.length<=B)(a:ws.length*B+ws.length<=1000000):ZL ⟨#[d]⟩ ws=Ld:=by unfold ZL;have:=Zu (sep:=⟨#[d]⟩) (texts:=ws) (B:=B) h (by have:(⟨#[d]⟩:Str).length=1:=rfl;rw[this];ext);rw[this];rfl
theorem mi{d:Nat}{ws:ck Str}{B:Nat}(h:∀w∈ws,w.length<=B)(b:ws.length*B+ws.length<=1000000):ie ⟨#[d]⟩ [.list (ws.map .str)]=ax (.fz (.str (TV ⟨#[d]⟩ ws))):=by
 show(match rb (ws.map .str)with
  |some a=>if ZL ⟨#[d]⟩ a=Ld then ax (RV.fz (.str (Txt.join ⟨#[d]⟩ a)))else CL
  |none=>CL)=_
 rw[vQ];dsimp only;rw[ak (Br h b),show Txt.join ⟨#[d]⟩ ws=TV ⟨#[d]⟩ ws from YO _ _]
theorem sd{c:Nat}{ws:ck Str}(d:ws≠[])(h:∀w∈ws,Fr c w)(b:(TV ⟨#[c]⟩ ws).length<=1000000)(a:ws.length<=1000000):de (TV ⟨#[c]⟩ ws) [.str ⟨#[c]⟩]=ax (.ow (ws.map .str)):=by show(if((⟨#[c]⟩:Str).length==0)=Tx/\(TV ⟨#[c]⟩ ws).length<=1000000/\(Txt.split (TV ⟨#[c]⟩ ws) ⟨#[c]⟩).length<=1000000 then _ else _)=_;rw[wE d h,ak ⟨rfl,b,a⟩]
end L3
namespace L2
open PySem PySem.Spec PyProof.Rows
section
variable{X:Cx}
def yV:V->ck V->Hp->VK->Prop:=λx vs H Q=>∃(l:TM) (xs:ck V) (i:Int) (y:V),x=.ref l/\vs=[.int i,y]/\H l=ax (.lst xs)/\0<=i/\i.toNat<=xs.length/\xs.length<1000000/\Q .VX (bz H l (.lst (xs.take i.toNat++y::xs.drop i.toNat)))
theorem zQ:Qj X "list.insert" yV:=by
 intro f s G H x vs v J Q I o rv h;obtain⟨l,xs,i,y,rfl,rfl,j,b,hi,g,q⟩:=h;cases o;obtain⟨K,d,rfl,u,p⟩:=pL rv;obtain⟨t,rfl⟩:=u;obtain⟨z,a,n,r,B,e⟩:=I.ad2 j;have lt:a.length<1000000:=by rw[<-B];exact g
 have m:a.length<T8:=L3.xL lt;have E: -(2^63)<=i:=aga (by decide) b;have f2:i<2^63:=Int.lt_of_lt_of_le (show i<1000000 by ext) (by decide);have C:¬(!Um.List.listFitsIndex i)=Ld:=by rw[abt E f2];simp
 have sz:a.toArray.size<=T8:=Eq.subst (motive:=λk=>k<=T8) (T3 (as:=a)).symm (WZ m);have M:=afo l a.toArray n i t d C sz;refine VU Z4 ⟨_,e,rfl⟩ PySem.F.entry_list_insert (PySem.F.args_list_insert_3 _ _ _) M ⟨e,?_⟩;refine⟨.VX,_,I.aeY (its':=a.take i.toNat++d::a.drop i.toNat) j e ?_ ((r.take i.toNat).append (.cons p (r.drop i.toNat))) ?_,rfl,q⟩
 .have A:¬(i<0):=by ext
  have w:min i.toNat a.toArray.size=i.toNat:=by rw[T3];ext
  simp only[A,if_false,w];apply Zt.mp;simp;exact Va (by rw[UB];exact TQ _)
 .have:=L3.xL g;rw[T4,TJ,Uq,UB];ext
end
end L2
namespace L3
open PySem PySem.Spec L2
section
variable{K:cL}{E:XK}
def zm(i:Nat)(e f2:FE):FE:=λρ=>(Res.U1 (qN ρ[i]?)).bind λ_=>(e ρ).bind λa=>(Res.U1 (jb a.2 a.1)).bind λd=>(Res.U1 (IW d)).bind λn=>(f2 a.2).bind λb=>(Res.U1 (se b.2 b.1)).bind λc=>(Res.U1 (qN c.2[i]?)).bind λds=>
 if 0<=n/\n.toNat<=ds.length/\ds.length<1000000 then .ok (.fz .none,c.2.set i (ax (.ow (ds.take n.toNat++c.1::ds.drop n.toNat))))else .bad
theorem Jk{i:Nat}{m l:TE}{q f2:FE}(T:EO K E m q)(S:EO K E l f2):EO K E (Ib K "list" yV (lB i) (i6 m (i6 l ou))) (zm i q f2):=by
 intro B u O k H ρ Q R w;obtain⟨ds0,I,w⟩:=w.U1;obtain⟨v,j,a,vs,rfl,g2,g3,U,g5⟩:=R.slot i _ (kM I);refine⟨_,j,.inl ⟨rfl,_,XG.of U⟩,?_⟩;refine T B u O k H ρ _ R (w.bind.imp λb f O1 y H1 Z t L=>?_);obtain⟨d,F,f⟩:=f.U1;obtain⟨n,C,f⟩:=f.U1;have X:=xa (gP t L F) C;subst X;refine S B u O1 k H1 b.2 _ t (f.bind.imp λc e O2 A H2 Y R2 J=>?_);obtain⟨⟨d2,z⟩,G,e⟩:=e.U1;obtain⟨O3,e3,r,dv⟩:=pG R2 J G;obtain⟨ds,g,e⟩:=e.U1;have g:=kM g;obtain⟨v',p,a',h,e',o,k3,k4,k5⟩:=r.slot i _ g;subst e';rw[j]at p;cases p;dsimp only at e;by_cases hn:0<=n/\n.toNat<=ds.length/\ds.length<1000000
 .rw[ak hn]at e;obtain⟨P,N,M⟩:=hn;refine⟨a,h,n,A,rfl,rfl,k4,P,by rw[k5.length];exact N,by rw[k5.length];exact M,?_⟩;exact e O3 .VX _ (Z.trans (Y.trans (e3.trans (Ev.mut o _)))) (r.mut g j o k3 ((k5.take n.toNat).append (.cons dv (k5.drop n.toNat)))) .VX
 .rw[ar hn]at e;exact e.elim
theorem C7{i:Nat}{a f2:FE}{ρ ρ1 ρ2 ρ3:aD}{pv1 pv2:PV}{n:Nat}{d2:D}{ds0 ds:ck D}(j:ρ[i]?=ax (ax (.ow ds0)))(h:a ρ=.ok (pv1,ρ1))(g:jb ρ1 pv1=ax (.int (n:Int)))(f:f2 ρ1=.ok (pv2,ρ2))(e:se ρ2 pv2=ax (d2,ρ3))(d:ρ3[i]?=ax (ax (.ow ds)))(hn:n<=ds.length)(b:ds.length<1000000):
  zm i a f2 ρ=.ok (.fz .none,ρ3.set i (ax (.ow (ds.take n++d2::ds.drop n)))):=by
 unfold zm;rw[j,h];show(Res.U1 (jb ρ1 pv1)).bind _=_;rw[g];show(f2 ρ1).bind _=_;rw[f];show(Res.U1 (se ρ2 pv2)).bind _=_;rw[e];show(Res.U1 (qN ρ3[i]?)).bind _=_;rw[d];show(if 0<=(n:Int)/\(n:Int).toNat<=ds.length/\ds.length<1000000 then _ else _)=_;rw[ak ⟨by ext,by rw[UI];exact hn,b⟩,UI]
end
end L3
namespace L2
open PySem PySem.Spec PyProof.Rows
structure M1(X:Cx)(o:Ue)(m:Str)(apos:Pos)(e:Ue)(Xw:Pos):Prop where
 base:attributeBase o m X.env (eval o X.env)=eval o X.env
 few:((backTo Xw (Uh [e] X.env)).all (λx=> !x.1)&&(backToKw Xw (keywordEach [] X.env)).all (λx=>x.1.isSome)
  &&decide (([e]:ck Ue).length+([]:ck Yi).length+(if([]:ck Yi).isEmpty then 0 else 1)<30))=Ld
 line:(apos.endLine==Xw.line)=Ld
 trees:backTo Xw (Uh [e] X.env)=[(Tx,eval e X.env)]
structure M2(X:Cx)(o:Ue)(m:Str)(apos:Pos)(e f:Ue)(Xw:Pos):Prop where
 base:attributeBase o m X.env (eval o X.env)=eval o X.env
 few:((backTo Xw (Uh [e,f] X.env)).all (λx=> !x.1)&&(backToKw Xw (keywordEach [] X.env)).all (λx=>x.1.isSome)
  &&decide (([e,f]:ck Ue).length+([]:ck Yi).length+(if([]:ck Yi).isEmpty then 0 else 1)<30))=Ld
 line:(apos.endLine==Xw.line)=Ld
 trees:backTo Xw (Uh [e,f] X.env)=[(Tx,eval e X.env),(Tx,eval f X.env)]
end L2
namespace L4
open PySem PySem.Spec PyProof.Rows L2 L3
def Ej(h:Heap)(e:TM)(c:Tw)(dx:cv TM)(a:Tw)(hd:cv TM):Prop:=
 ∃ob fs,h.get? e=ax ob/\ob.cls=c/\ob.dict=dx/\ob.data=.fields fs/\fs[0]?=ax a/\
  match hd with
  |none=>fs[1]?=ax .none
  |some T=>fs[1]?=ax (.ref T)/\T≠e/\∃oT ts,h.get? T=ax oT/\oT.data=.fields ts/\ts[3]?=ax .none
structure Lft(l:ck Env)(e:TM)(hd:cv TM)(h h':Heap):Prop where
 keep:∀b o,h.get? b=ax o->b≠e->hd≠ax b->b∉vL l->h'.get? b=ax o
 slot:∀b o,h.get? b=ax o->b≠e->hd≠ax b->∃sl,h'.get? b=ax {o with slots:=sl}
 here:∀b o,h.get? b=ax o->∃o',h'.get? b=ax o'
section
variable{M:aaJ}{A:Ut}{E:Tw->TK->Prop}{s:TK}
theorem jG
  (I:A.frames=ax (env::outer)) (B:s.heap.FunFrames base (env::outer)) (H:env.frame=ax L) (C:s.heap.get? e=ax ob) (p:ob.data=.fields fs) (m:1<fs.size) (J:fs[0]?=ax a0)
  (k:∀h' T,s.heap.objs.size<=T->Ej h' e ob.cls ob.dict a0 (ax T)->Lft (env::outer) e CL s.heap h'->Q () {s with heap:=h'}):
  wpAny M A (frameOf env>>=λfr=>entryPlaceOf L nx>>=λpl=>EntryCells.newEntry hv fr .none (rawInt L) .none pl>>=λb=>setField (.ref e) 1 b) (λ_ s'=>wpAny M A (setFlight (.ref e) CL) Q E s') E s:=by
 have j:e∉(env::outer).filterMap (·.frame):=λz=>by obtain⟨_,o,q,n⟩:=B.mem z;rw[C]at q;cases q;exact n fs p
 refine OK (wpAny_frameOf_fun I B H λa S=>?_);refine OK (wpAny_entryPlaceOf λpl P=>?_);unfold EntryCells.newEntry newFields;refine OK (Vw ?_ (P.sizeOk5 _ _ _ _ _));have y:=(S.2.1 e j).trans C;generalize hN:({cls:=.type "traceback",dict:=CL,data:=.fields ([hv,.ref L,.none,rawInt L,.none]++(if pl.isEmpty then T1 6 Tw.none else pl)).toArray}:Obj)=N;have g:N.data=.fields ([hv,.ref L,.none,rawInt L,.none]++(if pl.isEmpty then T1 6 Tw.none else pl)).toArray:=by rw[<-hN]
 have K:=ek g;have w:=cM N y;refine Wi w p m ?_;have l:=Vb (c5 y);have r:=ec p (·.setIfInBounds 1 (Tw.ref a.objs.size));have i:=dN (Obj.mapFields (·.setIfInBounds 1 (Tw.ref a.objs.size))) w (ek r)
 have u:=
  (dt (a.push N) (Obj.mapFields (·.setIfInBounds 1 (Tw.ref a.objs.size))) l.symm).trans (c6 a K)
 unfold setFlight;refine OK (UL i r (x:=.ref a.objs.size) (by simp[m]) ?_);rw[ak (show(Tw.ref a.objs.size !=Tw.none)=Ld from by simp)];have t:3<([hv,.ref L,.none,rawInt L,.none]++(if pl.isEmpty then T1 6 Tw.none else pl)).toArray.size:=by simp only[T3,T4,TJ,Vu];ext
 refine Wi u g t ?_;have v:=dt ((a.push N).update e (Obj.mapFields (·.setIfInBounds 1 (Tw.ref a.objs.size)))) (Obj.mapFields (·.setIfInBounds 3 ((CL:cv TM).elim Tw.none λf=>rawInt f))) l;have F:=dN (Obj.mapFields (·.setIfInBounds 3 ((CL:cv TM).elim Tw.none λf=>rawInt f))) u (ek (ec g _));have Ya:∀b o,b≠e->a.get? b=ax o->(((a.push N).update e (Obj.mapFields (·.setIfInBounds 1 (Tw.ref a.objs.size)))).update a.objs.size (Obj.mapFields (·.setIfInBounds 3 ((CL:cv TM).elim Tw.none λf=>rawInt f)))).get? b=ax o:=λb o ne q=>by rw[dt _ _ (Vb (c5 q)),dt _ _ ne.symm];exact cM N q
 refine k _ a.objs.size (by rw[S.1];exact TQ _) ⟨_,_,v.trans i,Obj.cls_mapFields _ _,?_,r,?_,?_,l,_,_,F,ec g _,?_⟩ ⟨λb o q ne _ G=>Ya b o ne ((S.2.1 b G).trans q),λb o q ne _=>?_,λb o q=>?_⟩
 .cases ob with
  |mk c d O h=>cases O<;>rfl
 .rw[Zq (by decide)];exact J
 .simp[m]
 .rw[Ys t];rfl
 .obtain⟨h,z⟩:=S.2.2 b o q;exact⟨h,Ya b _ ne z⟩
 .by_cases ne:b=e
  .subst ne;exact⟨_,v.trans i⟩
  .obtain⟨h,z⟩:=S.2.2 b o q;exact⟨_,Ya b _ ne z⟩
theorem zJ
  (v:A.frames=ax (env::outer)) (u:s.heap.FunFrames base (env::outer)) (h:env.frame=ax L) (F:Ej s.heap e c dx a0 hd)
  (k:∀h' T,s.heap.objs.size<=T->Ej h' e c dx a0 (ax T)->Lft (env::outer) e hd s.heap h'->Q () {s with heap:=h'}):wpAny M A (leaving env (.ref e)) Q E s:=by
 obtain⟨N,fs,q,I,H,d,w,r⟩:=F;subst I H;cases hd with
 |none=>have r:=r;unfold leaving noteFrame;simp only[h];refine OK (OK (UL q d r ?_));rw[ar (by decide)];exact jG v u h q d (UW.mp r).1 w k
 |some T=>
  obtain⟨r,C,O,B,g,dT,p⟩:=r;unfold leaving noteFrame;simp only[h];refine OK (OK (UL q d r ?_));rw[ak (show(Tw.ref T !=Tw.none)=Ld from by simp)];refine OK (UL g dT p ?_);rw[ar (show¬((Tw.none==rawInt L)=Ld)from by simp[rawInt])];refine OK (Wi g dT (UW.mp p).1 ?_);have f:∀b,b≠T->(s.heap.update T (Obj.mapFields (·.setIfInBounds 3 Tw.none))).get? b=s.heap.get? b:=λb ne=>dt _ _ ne.symm;have a:=dN (Obj.mapFields (·.setIfInBounds 3 Tw.none)) g (ek (ec dT _));have m:∀b o,s.heap.get? b=ax o->(∀vs,o.data≠.fields vs)->b≠T:=λb o z n y=>by rw[y,g]at z;cases z;exact n B dT
  refine jG v (u.of_keeps λb o z n=>⟨o,(f b (m b o z n)).trans z,rfl⟩) h ((f e C.symm).trans q) d (UW.mp r).1 w λh' J t K i=>k h' J (by rw[Heap.size_after_update]at t;exact t) K ⟨λb o z l j G=>?_,λb o z l j=>?_,λb o z=>?_⟩
  .exact i.keep b o ((f b λy=>j (by rw[y])).trans z) l (by simp) G
  .exact i.slot b o ((f b λy=>j (by rw[y])).trans z) l (by simp)
  .by_cases y:b=T
   .subst y;exact i.here b _ a
   .exact i.here b o ((f b y).trans z)
end
theorem Lft.Vp{P:Ug}{w:Ux}{l:ck Env}{e:TM}{hd:cv TM}{H:Hp}{h h':Heap}(L:Lft l e hd h h')(j:Zn P w H h)(ne:H e=CL)(g:∀T,hd=ax T->H T=CL)(i:∀b∈vL l,H b=CL):Zn P w H h':=λb u q=>by
 have free:∀c v,H c=ax v->c≠e/\hd≠ax c/\c∉vL l:=λc v z=>⟨(λy=>by rw[y,ne]at z;cases z),(λy=>by rw[g c y]at z;cases z),(λy=>by rw[i c y]at z;cases z)⟩;refine(j b u q).Ya (λc v k z=>?_) (λ_ z=>z) λ_ _ z=>z;rcases k with y|y
 .rw[y]at z⊢;obtain⟨f,d,a⟩:=free b u q;exact L.keep b v z f d a
 .obtain⟨f,d,a⟩:=free c _ y;exact L.keep c v z f d a
def nU(P:Ug)(w:Ux):uq:=λa H s E x b=>
 ∃e c dx a0 T H',x=.ref e/\s.heap.get? e=CL/\s.heap.get? T=CL/\Ej b.heap e c dx a0 (ax T)/\H' e=CL/\H' T=CL/\
  b.os=s.os/\AllBare b.gens/\Un (vL a) [] H H' s.heap b.heap/\Zn P w H' b.heap/\E c dx H'
theorem HD{P:Ug}{w:Ux}{K:cL}{mg:Str->cv Tw}{base:Heap}{N:ck Str}{h:Str}{a:V5}{f:TM}{cd:Tw}{A:Ut}{outer:ck Env}{d:TK}{u:Hp}{E:XK}
  {j:ck (TM×Obj)} {v:L2.St} {H:Hp} {s:TK} {e:TM} {c t:Tw} {dx hd:cv TM} (I:L2.Inv (gx (nU P w) P w K mg base N h a f cd A outer d u E) j v H s)
  (F:Ej s.heap e c dx t hd) (r:d.heap.get? e=CL) (O:∀T,hd=ax T->d.heap.get? T=CL) (ne:H e=CL) (J:∀T,hd=ax T->H T=CL) (q:E c dx H):
  (gx (nU P w) P w K mg base N h a f cd A outer d u E).xe (.ref e) s:=by
 have U:=I.ok.frames;have S:=I.stack;refine zJ (L:=d.heap.objs.size) U S rfl F λZ T p X L=>?_;have M:=L.Vp I.Vp ne J I.ZD;have R:H T=CL:=I.Vp.fresh p;have l:∀b o,d.heap.get? b=ax o->b<d.heap.objs.size:=λb o z=>c5 z;have g:∀b o,d.heap.get? b=ax o->b≠e/\hd≠ax b:=λb o z=>⟨(λy=>by rw[y,r]at z;cases z),(λy=>by rw[O b y]at z;cases z)⟩;have sz:=I.sz;refine⟨e,c,dx,t,T,H,rfl,r,ea (UH sz p),X,ne,R,I.os,I.bare,?_,M,q⟩;have B:=I.base;refine⟨λb o z n m _=>?_,λb o z n Q _=>?_,λb o z n _=>?_,λb o z _=>?_,B.Zx,B.Zd,B.Zv⟩
 .have i:=B.keep b o z n m (λy=>nomatch y)
  refine L.keep b o i (g b o z).1 (g b o z).2 λy=>?_;rcases TL.mp (I.Zi b y)with y|y
  .have y:b=d.heap.objs.size:=y;exact a7 (l b o z) (by rw[y];exact VD _)
  .exact m y
 .obtain⟨Y,i⟩:=B.slot b o z n Q (λy=>nomatch y);obtain⟨k,C⟩:=L.slot b _ i (g b o z).1 (g b o z).2;exact⟨k,C⟩
 .exact B.free b o z n (λy=>nomatch y)
 .obtain⟨G,i⟩:=B.there b o z (λy=>nomatch y);exact L.here b G i
theorem DG{P:Ug}{w:Ux}{K:cL}{mg:Str->cv Tw}{base:Heap}{N:ck Str}{d:Str}{a:V5}{f:TM}{cd:Tw}{A:Ut}{outer:ck Env}{h:TK}{m:Hp}{E:XK}:
  jH (nU P w) (gx (nU P w) P w K mg base N d a f cd A outer h m E) E:=by
 rintro j n H s x p I ⟨e,c,dx,t,T,u,rfl,le,lT,F,ne,nT,os,bare,un,Vp,q⟩;have l:=I.ac8 (ch:=[]) os un Vp bare (λb z=>nomatch z);have g:∀b,s.heap.get? b=CL->h.heap.get? b=CL:=λb z=>by
  cases y:h.heap.get? b with
  |none=>rfl
  |some o=>obtain⟨r,i⟩:=I.base.there b o y (λy=>nomatch y);rw[z]at i;cases i
 exact HD l F (g e le) (λk z=>by cases z;exact g T lT) ne (λk z=>by cases z;exact nT) q
theorem B8(x:V9 P w H h a o):∃ob,h.get? a=ax ob:=by
 cases o with
 |lst xs=>obtain⟨_,_,_,_,e⟩:=x;exact⟨_,e⟩
 |tup xs=>obtain⟨_,_,_,ob,e,_⟩:=x;exact⟨ob,e⟩
 |dK Yc=>obtain⟨_,_,_,_,o,_,_,e,_⟩:=x;exact⟨o,e⟩
 |dT Yc=>obtain⟨_,_,_,_,o,_,_,e,_⟩:=x;exact⟨o,e⟩
 |set S n=>obtain⟨o,_,_,_,e,_⟩:=x;exact⟨o,e⟩
 |ins C dx fs=>obtain⟨_,_,_,e,_⟩:=x;exact⟨_,e⟩
 |own y=>exact x
 |xd fs=>obtain⟨_,⟨o,_,_,e,_⟩,_⟩:=x;exact⟨o,e⟩
 |rng lo hi=>obtain⟨_,_,_,e⟩:=x;exact⟨_,e⟩
 |frz ob u=>exact⟨ob,x.1⟩
 |tbl ps=>exact⟨_,x⟩
 |met f y=>exact⟨_,x⟩
 |ext φ=>exact x.2.1
 |exw φ=>exact x.2.1
theorem vd(k:Zn P w H h)(n:h.get? a=CL):H a=CL:=by
 cases q:H a with
 |none=>rfl
 |some o=>obtain⟨b,z⟩:=B8 (k a o q);rw[n]at z;cases z
section
variable{M:aaJ}{A:Ut}{E:Tw->TK->Prop}{s:TK}
theorem FV{base:Heap}{env:Env}{outer:ck Env}{L e:TM}{c B:Tw}{dx hd:cv TM}{Q:Unit->TK->Prop}
  (v:A.frames=ax (env::outer)) (u:s.heap.FunFrames base (env::outer)) (h:env.frame=ax L) (F:Ej s.heap e c dx B hd)
  (k:∀h' T,s.heap.objs.size<=T->Ej h' e c dx B (ax T)->Lft (env::outer) e hd s.heap h'->Q () {s with heap:=h'}):
  wpAny M A (noteFrame (.ref e) env) (λ_ s2=>wpAny M A (setFlight (.ref e) CL) Q E s2) E s:=by
 obtain⟨O,fs,q,J,I,d,w,r⟩:=F;subst J I;cases hd with
 |none=>have r:fs[1]?=ax .none:=r;unfold noteFrame;simp only[h];refine OK (UL q d r ?_);rw[ar (by decide)];exact jG v u h q d (UW.mp r).1 w k
 |some T=>
  obtain⟨r,G,P,C,g,dT,p⟩:=r;unfold noteFrame;simp only[h];refine OK (UL q d r ?_);rw[ak (show(Tw.ref T !=Tw.none)=Ld from by simp)];refine OK (UL g dT p ?_);rw[ar (show¬((Tw.none==rawInt L)=Ld)from by simp[rawInt])];refine OK (Wi g dT (UW.mp p).1 ?_);have f:∀b,b≠T->(s.heap.update T (Obj.mapFields (·.setIfInBounds 3 Tw.none))).get? b=s.heap.get? b:=λb ne=>dt _ _ ne.symm;have a:=dN (Obj.mapFields (·.setIfInBounds 3 Tw.none)) g (ek (ec dT _));have m:∀b o,s.heap.get? b=ax o->(∀vs,o.data≠.fields vs)->b≠T:=λb o z n y=>by rw[y,g]at z;cases z;exact n C dT
  refine jG v (u.of_keeps λb o z n=>⟨o,(f b (m b o z n)).trans z,rfl⟩) h ((f e G.symm).trans q) d (UW.mp r).1 w λh' K t N i=>k h' K (by rw[Heap.size_after_update]at t;exact t) N ⟨λb o z l j H=>?_,λb o z l j=>?_,λb o z=>?_⟩
  .exact i.keep b o ((f b λy=>j (by rw[y])).trans z) l (by simp) H
  .exact i.slot b o ((f b λy=>j (by rw[y])).trans z) l (by simp)
  .by_cases y:b=T
   .subst y;exact i.here b _ a
   .exact i.here b o ((f b y).trans z)
theorem IK{e T:TM}{c j:Tw}{dx:cv TM}{Q:Unit->TK->Prop}(F:Ej s.heap e c dx j (ax T))
  (k:∀h',Ej h' e c dx j (ax T)->(∀b,b≠T->h'.get? b=s.heap.get? b)->(∃o,h'.get? T=ax o)->Q () {s with heap:=h'}):wpAny M A (setFlight (.ref e) CL) Q E s:=by
 obtain⟨n,fs,q,t,p,d,u,r,i,w,v,h,dT,m⟩:=F;unfold setFlight;refine OK (UL q d r ?_);rw[ak (show(Tw.ref T !=Tw.none)=Ld from by simp)];have g:=(UW.mp m).1;refine Wi h dT g ?_;have l:∀b,b≠T->(s.heap.update T (Obj.mapFields (·.setIfInBounds 3 ((CL:cv TM).elim Tw.none λf=>rawInt f)))).get? b=s.heap.get? b:=λb ne=>dt _ _ ne.symm;have a:=dN (Obj.mapFields (·.setIfInBounds 3 ((CL:cv TM).elim Tw.none λf=>rawInt f))) h (ek (ec dT _));refine k _ ⟨n,fs,(l e i.symm).trans q,t,p,d,u,r,i,_,_,a,ec dT _,?_⟩ l ⟨_,a⟩;rw[Ys g];rfl
end
section
variable{P:Ug}{w:Ux}{K:cL}{mg:Str->cv Tw}{base:Heap}{N:ck Str}{qual:Str}{scope:V5}{f:TM}{cd:Tw}{A:Ut}{outer:ck Env}{s0:TK}{H0:Hp}{E:XK}{CX:uq}
  {σ:L2.St} {H:Hp} {s:TK} {h':Heap} {X:Cx}
theorem uX(I:L2.Inv X [] σ H s)(S:TM->Prop)(F:X.ex=[])(k:∀p∈X.pn,¬S p.1)(keep:∀b o,s.heap.get? b=ax o->¬S b->b∉vL X.stack->h'.get? b=ax o)
  (slot:∀b o,s.heap.get? b=ax o->¬S b->∃sl,h'.get? b=ax {o with slots:=sl}) (h:∀b o,s.heap.get? b=ax o->∃o',h'.get? b=ax o')
  (O:∀b,S b->X.s₀.heap.get? b=CL) (nL:¬S X.env.locals) (M:∀x c,X.env.cells.lookup x=ax c->¬S c) (L:∀b,S b->H b=CL):L2.Inv X [] σ H {s with heap:=h'}:=by
 have nS:∀b o,X.s₀.heap.get? b=ax o->¬S b:=λb o z y=>by rw[O b y]at z;cases z
 have g:∀b,b∉X.ex:=λb z=>by rw[F]at z;cases z
 have B:=I.base;have a:∀x c,X.env.cells.lookup x=ax c->∀v,s.heap.IsCell c v->h'.IsCell c v:=λx c z v ⟨o,C,G⟩=>by obtain⟨sl,q⟩:=slot c o C (M x c z);exact⟨_,q,G⟩
 refine⟨I.ok,I.os,I.bare,⟨λb o z n e _=>?_,λb o z n R _=>?_,λb o z n x=>B.free b o z n x,λb o z x=>?_,B.Zx,B.Zd,B.Zv⟩,?_,λx c z=>?_,I.free,I.W8,λp t=>?_,λb u q=>?_,I.len⟩
 .have d:=B.keep b o z n e (g b)
  refine keep b o d (nS b o z) λy=>?_;rcases TL.mp (I.Zi b y)with y|y
  .rw[y]at z;exact a7 (c5 z) (Nat.not_lt_of_le I.ok.above)
  .exact e y
 .obtain⟨sl,d⟩:=B.slot b o z n R (g b);obtain⟨j,J⟩:=slot b _ d (nS b o z);exact⟨j,J⟩
 .obtain⟨o',d⟩:=B.there b o z x;exact h b o' d
 .obtain⟨m,hn,Q⟩:=I.loc
  obtain⟨o,U,Y,C,G,r⟩:=hn;obtain⟨sl,q⟩:=slot _ o C nL;refine⟨m,⟨_,U,Y,q,G,r⟩,λi x v a1 a2 Z=>?_⟩;obtain⟨u,rv,l⟩:=Q i x v a1 a2 Z;refine⟨u,rv,?_⟩;rcases l with l|⟨kd,c,z,y⟩
  .exact .inl l
  .exact .inr ⟨kd,c,z,a x c z _ y⟩
 .obtain⟨v,y⟩:=I.cell x c z;exact⟨v,a x c z v y⟩
 .obtain⟨z,n,ne,e,dd⟩:=I.pin p t
  rw[UQ]at t;refine⟨keep p.1 p.2 z (k p t) (λy=>?_),n,ne,e,dd⟩;rcases TL.mp (I.Zi _ y)with y|y
  .exact ne y
  .exact e y
 .have free:∀c v,H c=ax v->¬S c/\c∉vL X.stack:=λc v z=>⟨(λy=>by rw[L c y]at z;cases z),(λy=>by rw[I.ZD c y]at z;cases z)⟩
  refine(I.Vp b u q).Ya (λc v T z=>?_) (λ_ z=>z) λ_ _ z=>z;rcases T with y|y
  .rw[y]at z⊢;exact keep b v z (free b u q).1 (free b u q).2
  .exact keep c v z (free c _ y).1 (free c _ y).2
end
section
variable{M:aaJ}{A:Ut}{E:Tw->TK->Prop}{h:Heap}{g:Array Yv}{d:acO}{t:Nat}{os:abk}
theorem BD{C U e:TM}{j:Obj}{y v w u:Str}{N1 N2:TM}{b1 k b2 a:ck Tw}{X d2:Bool}{r q:ck Str}{p o:ck Tw}{a1 a2:Bool}{Z Y:cv Bool}{n m:cv TM}{N L K J I H G F B z:cv Tw}{f b:String}{Q:Bool->TK->Prop}
  (T:h.get? C=ax (excClassObj y v C N1 b1 k X r p a1 Z n N L K J I f)) (l:h.get? U=ax (excClassObj w u U N2 b2 a d2 q o a2 Y m H G F B z b)) (P:h.get? e=ax j) (R:j.cls=.ref C)
  (S:a.contains (.type "BaseException")=Ld) (hm:(Tw.ref C::k).contains (.ref U)=Ld) (O:Q Ld ⟨h,g,d,t,os⟩):wpAny M A (excMatches (.ref e) (.ref U)) Q E ⟨h,g,d,t,os⟩:=by
 have i:(Tw.ref U::a).contains (.type "BaseException")=Ld:=by rw[Vk,S,V4]
 have ft:=tc_notTuple;unfold excMatches
 repeat (first|(specialize VS P ?_;rw[R])|specialize VS l ?_|(specialize WW l ?_;rw[i])|(specialize WW T ?_;rw[hm])|wp_step)
 exact O
end
abbrev Cx.marked(X:Cx)(e:TM):Cx:={X with A:=X.A.mark (ax (.ref e)),calm:=Tx,xe:=λ_ _=>False}
section
variable{X:Cx}{Z:L2.St}{H:Hp}{s:TK}{h':Heap}{e:TM}
theorem qv(I:L2.Inv X [] Z H s)(e:TM):L2.Inv (Cx.marked X e) [] Z H s:=
 ⟨⟨I.ok.mod,I.ok.kind,I.ok.glob,I.ok.blt,I.ok.above,I.ok.inj,I.ok.has,I.ok.cab,(λz=>nomatch z),I.ok.frames,I.ok.stk,I.ok.exf,I.ok.bs,I.ok.bsz,I.ok.aaZ,I.ok.aa9,I.ok.YF,I.ok.frf⟩,I.os,I.bare,I.base,I.loc,I.cell,I.free,I.W8,I.pin,I.Vp,I.len⟩
theorem wo(ok:X.Ok)(I:L2.Inv (Cx.marked X e) [] Z H s):L2.Inv X [] Z H s:=
 ⟨ok,I.os,I.bare,I.base,I.loc,I.cell,I.free,I.W8,I.pin,I.Vp,I.len⟩
theorem zM(I:L2.Inv X [] Z H s){f:Obj}(g:∀p∈X.pn,p.1≠e)(q:s.heap.get? e=ax f)(ne:H e=CL)(j:X.s₀.heap.get? e=CL)(nL:e≠X.env.locals)(i:∀x c,X.env.cells.lookup x=ax c->c≠e):L2.Inv X [] Z (bz H e (.frz f (.own e))) s:=by
 have nS:∀b o,X.s₀.heap.get? b=ax o->b≠e:=λb o z y=>by rw[y,j]at z;cases z
 have a:∀b o,H b=ax o->b≠e:=λb o z y=>by rw[y,ne]at z;cases z
 have B:=I.base;refine⟨I.ok,I.os,I.bare,⟨B.keep,B.slot,λb o z n x=>?_,B.there,λb xs z=>?_,λb o u z=>?_,λb ps z=>?_⟩,I.loc,I.cell,?_,λx c z=>?_,λp h=>?_,λb u z=>?_,I.len⟩
 .rw[am (nS b o z)];exact B.free b o z n x
 .have:=B.Zx b xs z;rw[am (a b _ this)];exact this
 .have:=B.Zd b o u z;rw[am (a b _ this)];exact this
 .obtain⟨d,y⟩:=B.Zv b ps z;exact⟨d,by rw[am (a b _ y)];exact y⟩
 .rw[am nL.symm];exact I.free
 .rw[am (i x c z)];exact I.W8 x c z
 .obtain⟨z,n,r⟩:=I.pin p h;rw[UQ]at h;exact⟨z,by rw[am (g p h)];exact n,r⟩
 .by_cases y:b=e
  .subst y;rw[aF]at z;cases z;exact⟨q,f,q⟩
  .rw[am y]at z;exact(I.Vp b u z).Ya (λ_ _ _ y=>y) (λc y=>by rw[am (a c _ y)];exact y) λc xs y=>by rw[am (a c _ y)];exact y
theorem Ab{M:aaJ}{A:Ut}{E:Tw->TK->Prop}(I:L2.Inv X [] Z H s){n:Str}{i:Nat}{pos:Pos}{Q:Unit->TK->Prop}(hN:X.N.Nodup)(hi:X.N[i]?=ax n)(hlo:X.env.kindOf n=ax .local)
  (k:∀s',L2.Inv X [] (Z.set i CL) H s'->Q () s'):wpAny M A (do bindName X.env n .none;unbindBehindTheSuite X.env n pos) Q E s:=by
 obtain⟨m,hn,hl⟩:=id I.loc;have aeO:(X.env.scope.kind==.class||(X.env.scope.kind==.module&&X.env.locals !=X.env.globals))=Tx:=by rw[I.ok.kind];rfl
 refine wpAny_nameGoes_keeps hlo hn aeO λh2 v hm S=>k _ ?_;have B:=I.base;have cne:=I.cne;have old:∀b o,X.s₀.heap.get? b=ax o->h2.get? b=s.heap.get? b:=λb o z=>S.2 b (Ui (Uc (c5 z) I.ok.above));have iσ:i<Z.length:=by rw[I.len];exact(TN.mp hi).1
 refine⟨I.ok,I.os,I.bare,⟨λb o z n nf x=>(old b o z).trans (B.keep b o z n nf x),λb o z n hf x=>?_,B.free,λb o z x=>?_,B.Zx,B.Zd,B.Zv⟩,⟨_,hm,λj y v' a1 a2 a3=>?_⟩,λy c z=>?_,I.free,I.W8,λp hp=>?_,λb u z=>?_,by rw[Wl];exact I.len⟩
 .obtain⟨sl,y⟩:=B.slot b o z n hf x;exact⟨sl,(old b o z).trans y⟩
 .obtain⟨o',y⟩:=B.there b o z x;exact⟨o',(old b o z).trans y⟩
 .by_cases hj:j=i
  .subst hj;rw[Yh iσ]at a2;cases a2
  .rw[Yy (en hj)]at a2
   obtain⟨u',r',q⟩:=hl j y v' a1 a2 a3;refine⟨u',r',?_⟩;rcases q with⟨kd,z⟩|⟨kd,c,z,w⟩
   .refine .inl ⟨kd,?_⟩;have:y≠n:=λz=>hj (pf hN a1 (z▸hi));simp[this,z]
   .exact .inr ⟨kd,c,z,w.sameBut S (cne y c z)⟩
 .obtain⟨w,y'⟩:=I.cell y c z;exact⟨w,y'.sameBut S (cne y c z)⟩
 .obtain⟨z,n,ne,r⟩:=I.pin p hp;exact⟨(S.2 p.1 ne).trans z,n,ne,r⟩
 .have free:∀c u,H c=ax u->c≠X.env.locals:=λc u z y=>by rw[y,I.free]at z;cases z
  refine(I.Vp b u z).Ya (λc w hc y=>(S.2 c ?_).trans y) (λ_ y=>y) λ_ _ y=>y;rcases hc with y'|y'
  .rw[y'];exact free b u z
  .exact free c _ y'
end
def j9(K:cL)(C:TM)(m:ck Tw):Prop:=∃nm q N bs hd sn sub ab col dd k0 k1 k2 k3 k5 id,K.lookup C=ax (excClassObj nm q C N bs m hd sn sub ab col dd k0 k1 k2 k3 k5 id)
structure Apart(X:Cx)(a:TM):Prop where
 n0:X.s₀.heap.get? a=CL
 nL:a≠X.env.locals
 nC:∀y c,X.env.cells.lookup y=ax c->c≠a
 nP:∀p∈X.pn,p.1≠a
def Cu(X:Cx)(E2:XK):Tw->TK->Prop:=λx a=>∃σ' H1 e c dx a0 T,x=.ref e/\L2.Inv X [] σ' H1 a/\Ej a.heap e c dx a0 (ax T)/\Apart X e/\Apart X T/\H1 e=CL/\H1 T=CL/\E2 c dx H1
theorem o0(I:L2.Inv X pins σ H s)(d:X.ex=[])(n:s.heap.get? a=CL):Apart X a:=by
 have ne:∀b o,s.heap.get? b=ax o->b≠a:=λb o z y=>by rw[y,n]at z;cases z
 refine⟨?_,?_,λy c z=>?_,λp g=>?_⟩
 .cases z:X.s₀.heap.get? a with
  |none=>rfl
  |some o=>obtain⟨f,y⟩:=I.base.there a o z (by rw[d];simp);exact a7 rfl (ne a f y)
 .obtain⟨m,⟨o,_,_,z,_⟩,_⟩:=I.loc;exact(ne _ o z).symm
 .obtain⟨v,o,e,_⟩:=I.cell y c z;exact ne c o e
 .exact ne _ _ (I.pin p (VF _ g)).1
theorem jR{X:Cx}(a:X.ex=[]):jH (nU X.prog X.w) (X.Yp (Cu X E2)) E2:=by rintro f g H s x k I ⟨e,c,dx,h,T,j,rfl,le,lT,F,ne,nT,os,bare,un,Vp,q⟩;have d:=I.Xx;have i:=d.ac8 os un Vp bare (λb z=>nomatch z);exact⟨g,j,e,c,dx,h,T,rfl,i.Y0 (λp z=>nomatch z),F,o0 d a le,o0 d a lT,ne,nT,q⟩
def BO(E2:XK)(i:Nat)(tb g:TS):TS:=λD f H=>tb D f H/\∀c dx H1,E2 c dx H1->∀(a:L2.St) (e:TM) (b:Obj),a.length=f.length->H1 e=CL->b.cls=c->b.dict=dx->ZM b=Ld->
 g {nx:=λd h=>D.nx (d.set i CL) h,rt:=λ_ _=>False} (a.set i (ax (.ref e))) (bz H1 e (.frz b (.own e)))
abbrev Cx.pinned(X:Cx)(l:ck (TM×Obj)):Cx:={X with pn:=l}
theorem GM(I:L2.Inv X pins σ H s):L2.Inv (Cx.pinned X (X.pn++pins)) [] σ H s:=
 ⟨⟨I.ok.mod,I.ok.kind,I.ok.glob,I.ok.blt,I.ok.above,I.ok.inj,I.ok.has,I.ok.cab,I.ok.hd,I.ok.frames,I.ok.stk,I.ok.exf,I.ok.bs,I.ok.bsz,I.ok.aaZ,I.ok.aa9,I.ok.YF,I.ok.frf⟩,I.os,I.bare,I.base,I.loc,I.cell,I.free,I.W8,(λp a=>I.pin p (by rw[UQ]at a;exact a)),I.Vp,I.len⟩
theorem jt(ok:X.Ok)(I:L2.Inv (Cx.pinned X (X.pn++pins)) [] σ H s):L2.Inv X pins σ H s:=
 ⟨ok,I.os,I.bare,I.base,I.loc,I.cell,I.free,I.W8,(λp a=>I.pin p (by rw[UQ];exact a)),I.Vp,I.len⟩
theorem tY
  (hex:X.ex=[]) (hN:X.N.Nodup) (Zc:X.stack=X.env::X.outer) (hfr:X.env.frame=ax X.env.locals) (hg:Gl X x) (hm:X.mg x=ax (.ref U)) (hU:j9 X.K U mU) (hbU:mU.contains (.type "BaseException")=Ld)
  (hi:X.N[i]?=ax n) (hlo:X.env.kindOf n=ax .local) (hb:∀l,PSs ((Cx.pinned X l).Yp (Cu (Cx.pinned X l) E2)) body tb) (hs:∀l e,PSs (Cx.marked (Cx.pinned X l) e) (b0::ahl) ts)
  (hE:∀c dx H,E2 c dx H->∃C m,c=.ref C/\j9 X.K C m/\(Tw.ref C::m).contains (.ref U)=Ld) (hdb:(x==("__debug__":Str))=Tx:=by decide):
  PS X (.Try body [.ExceptHandler (ax (.Name x np)) (ax n) (b0::ahl) aqT] [] [] pos) (BO E2 i tb ts):=by
 intro pins s σ H D I ⟨h,hc⟩;have IY:=GM I;have ae0:=hex;refine wpAny_Try_except (wpAny_mono (hb (X.pn++pins) [] s σ H D (IY.Yp _) h) (λf s1 hf=>?_) (λv s1 hx=>?_))
 .have hf:=SP.Xx hf
  cases f with
  |next=>obtain⟨σ1,H1,I1,q1⟩:=hf;exact YL ⟨σ1,H1,jt I.ok I1,q1⟩
  |brk=>obtain⟨σ1,H1,I1,q1⟩:=hf;exact⟨σ1,H1,jt I.ok I1,q1⟩
  |cont=>obtain⟨σ1,H1,I1,q1⟩:=hf;exact⟨σ1,H1,jt I.ok I1,q1⟩
  |ret u=>obtain⟨v,σ1,H1,I1,r,q1⟩:=hf;exact⟨v,σ1,H1,jt I.ok I1,r,q1⟩
 .obtain⟨σ1,H1,e,c,dx,a0,T,rfl,I1,F,aE,aT,ne,nT,q⟩:=hx
  obtain⟨C,mC,hcC,⟨n1,q1,N1,b1,d1,t1,u1,a1,l1,x1,i0,i1,i2,i3,i5,id1,kC⟩,hup⟩:=hE c dx H1 q;obtain⟨n2,q2,N2,b2,d2,t2,u2,a2,l2,x2,j0,j1,j2,j3,j5,id2,kU⟩:=hU;have fr:X.A.frames=ax (X.env::X.outer):=by rw[<-Zc];exact I.ok.frames
  have ff:s1.heap.FunFrames X.base (X.env::X.outer):=by rw[<-Zc];exact I1.stack
  refine FV fr ff hfr F λh2 T2 z2 F2 L2'=>?_
  have I2:=uX I1 (λb=>b=e\/b=T) ae0 (λp hp y=>y.elim (aE.nP p hp) (aT.nP p hp))
   (λb o z nS nf=>L2'.keep b o z (λy=>nS (.inl y)) (λy=>nS (.inr (Us y).symm)) (by rw[<-Zc];exact nf))
   (λb o z nS=>L2'.slot b o z (λy=>nS (.inl y)) (λy=>nS (.inr (Us y).symm))) L2'.here
   (λb y=>y.elim (λy=>by rw[y];exact aE.n0) (λy=>by rw[y];exact aT.n0)) (λy=>y.elim (λy=>aE.nL y.symm) (λy=>aT.nL y.symm))
   (λy k z w=>w.elim (aE.nC y k z) (aT.nC y k z)) (λb y=>y.elim (λy=>by rw[y];exact ne) (λy=>by rw[y];exact nT))
  have aT2:=o0 I1 ae0 (ea z2);have nT2:=I1.Vp.fresh z2;refine wpAny_handleBy_cons (codeAny_handlers_test (mI (qv I2 e) hg hm ?_ hdb)) (by nofun);have F2':=F2;obtain⟨ob,fs,qe,cE,dE,dF,_⟩:=F2';refine BD (I2.Zm _ _ kC) (I2.Zm _ _ kU) qe (cE.trans hcC) hbU hup ?_;refine codeAny_handlers_suite_as (IK F2 λh3 F3 ZC hT3=>?_);have neT:e≠T2:=λy=>by obtain⟨_,_,_,_,_,_,_,_,w,_⟩:=F2;exact w y.symm
  have I3:=uX I2 (λb=>b=T2) ae0 (λp hp y=>aT2.nP p hp y)
   (λb o z nS _=>(ZC b nS).trans z) (λb o z nS=>⟨o.slots,(ZC b nS).trans z⟩)
   (λb o z=>(Classical.em (b=T2)).elim (λy=>by rw[y];exact hT3) (λy=>⟨o,(ZC b y).trans z⟩)) (λb y=>by rw[y];exact aT2.n0) (λy=>aT2.nL y.symm) (λy k z w=>aT2.nC y k z w) (λb y=>by rw[y];exact nT2)
  have I4:=zM I3 aE.nP ((ZC e neT).trans qe) ne aE.n0 aE.nL aE.nC;refine pz (X:=Cx.marked (Cx.pinned X (X.pn++pins)) e) (qv I4 e) hN hi (.inl hlo) (v:=.ref e) rfl (λs4 I5=>?_) (.inr hlo);have w:=hc c dx H1 q σ1 e ob (I1.len.trans I.len.symm) ne cE dE (by unfold ZM;rw[dF]);refine wpAny_mono (hs (X.pn++pins) e [] s4 _ _ _ I5 w) (λf s5 hf=>?_) (λy s5 z=>z.elim);cases f with
  |next=>obtain⟨σ2,H2,I6,q6⟩:=hf;exact Ab (wo IY.ok I6) hN hi hlo λs6 I7=>⟨_,_,jt I.ok I7,q6⟩
  |brk=>obtain⟨σ2,H2,I6,q6⟩:=hf;exact q6.elim
  |cont=>obtain⟨σ2,H2,I6,q6⟩:=hf;exact q6.elim
  |ret u=>obtain⟨v,σ2,H2,I6,r,q6⟩:=hf;exact q6.elim
end L4
namespace L4
open PySem PySem.Spec L2 L3
theorem So{P:Ug}{w:Ux}{K:cL}{mg:Str->cv Tw}{base:Heap}{x a:Str}{st:Wo}{f:TM}{j:U3}{N ps:ck Str}{k n m:Nat}{g:FS}{l:FN}(F:ZE K x a st f j)(S:V1 N ps (az st))(hn:ps.length=n)(hm:N.length=m)(C:l=bN m g)
  (L:∀(b:Tw) (A:Ut) (outer:ck Env) (s:TK) (H:Hp) (E:XK),Wj k (A.deeper (UA a (az st) s.heap.objs.size f b))->
   ∃t,PSs (gx (nU P w) P w K mg base N a (az st) f b A outer s H E) (dr st) t/\SO K E t g):FnOk P w K mg base (nU P w) (k+1) f j ps (sI K n l):=by
 subst C hm;obtain⟨U,T,kV,J,O,Y,b,ct,p,rfl,r,i⟩:=F.ex;refine HE r i S (λvs H Q E h=>h.1.trans hn.symm) λA outer s H vs Q E y d=>?_;obtain⟨t,u,v⟩:=L b A outer s H E y;obtain⟨X,B,ds,z,I,h⟩:=d;refine⟨t,u,v B H B _ H _ _ (vv z I) (WR.imp (WR.bind h) λG q=>?_)⟩;cases G with
 |rt rv=>exact q
 |nx ρ=>exact λZ o M e R=>q .VX M R.same .VX
 |bk ρ=>exact q.elim
 |ct ρ=>exact q.elim
def B2(P:Ug)(w:Ux)(K:cL)(mg:Str->cv Tw)(base:Heap)(k:Nat)(x:Str)(ps:ck Str)(n:Nat)(F:FN):Prop:=
 ∃f fd,FnOk P w K mg base (nU P w) k f fd ps (sI K n F)/\Binds K fd ps []/\VT K (.ref f)=Ld/\mg x=ax (.ref f)
theorem x5{X:Cx}{k j n:Nat}{x:Str}{ps:ck Str}{F:FN}{E:XK}{e:Ue}{es:ck Ue}{t:TA}{p a:Pos}(C:B2 X.prog X.w X.K X.mg X.base k x ps n F)(l:jH (nU X.prog X.w) X E)(o:Wj j X.A)(ha:PA X (e::es) t)(g:k<=j:=by decide)(q:Gl X x:=by rfl)
  (h:(x==("__debug__":Str))=Tx:=by decide) (r:Uh (e::es) X.env=(Tx,eval e X.env)::Uh es X.env:=by rfl) (d:(backTo a (Uh es X.env)).any (·.1)=Tx:=by rfl):
  PE X (.Call (.Name x p) (e::es) [] a) (pW (sI X.K n F) [] E t):=by
 obtain⟨f,u,F,b,i,m⟩:=C;exact yF F (o.mono g) q m i b .nil l ha h r d
end L4
namespace L4
open PySem PySem.Spec PySem.W PyProof.Rows L2 L3
section
variable{prog:Ug}{w:Ux}{A:Ut}{E:Tw->TK->Prop}{h:Heap}{g:Array Yv}{d:acO}{t:Nat}{os:abk}{a C:TM}{o:Obj}{K:cL}
  {n1 q1:Str} {N1:TM} {b1 Z:ck Tw} {d1:Bool} {s1:ck Str} {u1:ck Tw} {a1:Bool} {c1:cv Bool} {x1:cv TM} {i0 i1 i2 i3 i5:cv Tw} {Y:String}
theorem qr{M:aaJ}{b:Tw}{Q:Unit->TK->Prop}(j:h.get? C=ax (excClassObj n1 q1 C N1 b1 Z d1 s1 u1 a1 c1 x1 i0 i1 i2 i3 i5 Y))(i:Z.contains (.type "BaseException")=Ld)
  (e:h.get? a=ax o) (f:o.cls=.ref C) (k:Q () ⟨h,g,d,t,os⟩):wpAny M A (checkBuiltinCall "BaseException.__getattribute__" ⟨[.ref a,b],[]⟩) Q E ⟨h,g,d,t,os⟩:=by
 have m:builtinKind "BaseException.__getattribute__"=ax .slot:=by left
 have l:splitId "BaseException.__getattribute__"=ax ("BaseException","__getattribute__"):=by left
 have e3:(Tw.ref C::Z).contains (.type "BaseException")=Ld:=by rw[Vk,i,V4]
 have e4:=F.args_bexc_ga (.ref a) b;simp only[checkBuiltinCall,m,l];refine OK ?_;unfold isInstance
 repeat (first|(specialize VS e ?_;rw[f])|(specialize WW j ?_;rw[e3])|wp_step)
 exact k
theorem wa(X:K.In h)(I:WX h a o C od)(b:findIn K (.ref C) "__class__"=ax (ax (.builtin "object.__class__")))(hm:mroIn K C (.type "object")=ax Ld)
  (k:Q (.done (.ret (.ref C))) ⟨h,g,d,t,os⟩):wpAny (model prog w) A (Um.«object.__getattribute__» ⟨[.ref a,.str "__class__" tk],[]⟩) Q E ⟨h,g,d,t,os⟩:=by
 have e5:=F.typeOf_object_class;have l:=F.typeOf_object_class;have j:=F.slot_gs_get.lookup;have i:=F.slot_gs_set.lookup;have f:=I.type (M:=model prog w);have e:=looks_findIn (M:=model prog w) X b
 repeat (any_goals (first|assumption|specialize f.at ?_|specialize e.at ?_|wp_step))
 refine class_get X I hm ?_
 repeat (any_goals (first|assumption|wp_step))
theorem z0(X:K.In h)(I:WX h a o C od)(l:h.get? C=ax (excClassObj n1 q1 C N1 b1 Z d1 s1 u1 a1 c1 x1 i0 i1 i2 i3 i5 Y))(j:Z.contains (.type "BaseException")=Ld)
  (i:findIn K (.ref C) "__getattribute__"=ax (ax (.builtin "BaseException.__getattribute__"))) (f:findIn K (.ref C) "__getattr__"=ax CL) (e:findIn K (.ref C) "__class__"=ax (ax (.builtin "object.__class__"))) (hm:mroIn K C (.type "object")=ax Ld)
  (k:Q (ax (.ref C)) ⟨h,g,d,t+1,os⟩):wpAny (model prog w) A (getAttr? (.ref a) "__class__") Q E ⟨h,g,d,t,os⟩:=by
 have r:=Wm.ga.bind (.ref a);have b:(Tw.builtin "BaseException.__getattribute__"==Tw.builtin "object.__getattribute__")=Tx:=by left
 have q:(onTheHeap (Tw.ref C)&&Tw.builtin "BaseException.__getattribute__"==Tw.builtin "object.__getattribute__")=Tx:=by rw[b];rfl
 have p:=I.type (M:=model prog w);have n:=looks_findIn (M:=model prog w) X i;have m:=looks_findIn (M:=model prog w) X f;unfold getAttr? getAttrBy? getAttrBy
 repeat (any_goals (first|assumption|specialize p.at ?_|specialize n.at ?_|specialize m.at ?_|wp_step))
 refine Vo Wm.ga.plain F.entry_bexc_ga (qr l j I.at_ I.cls (wa X I e hm ?_))
 repeat (any_goals (first|assumption|wp_step))
structure Xh(K:cL)(C:TM)(m:ck Tw):Prop where
 cl:j9 K C m
 be:m.contains (.type "BaseException")=Ld
 ga:findIn K (.ref C) "__getattribute__"=ax (ax (.builtin "BaseException.__getattribute__"))
 gt:findIn K (.ref C) "__getattr__"=ax CL
 cs:findIn K (.ref C) "__class__"=ax (ax (.builtin "object.__class__"))
 ob:mroIn K C (.type "object")=ax Ld
theorem u8(L:Xh K C m):KitX K (.ref a) (.ref C) (λh=>WX h a o C od) where
 ty:=λ_ _ _ I=>I.type
 it:=λ_ _ X _=>by obtain⟨_,_,_,_,_,_,_,_,_,_,_,_,_,_,_,_,b⟩:=L.cl;intro y u v j k q;unfold isType loadHead;exact OK (abA (k _ _ (X _ _ b)) (TR q))
 ne:=λh tp dd r n i X e=>by obtain⟨_,_,_,_,_,_,_,_,_,_,_,_,_,_,_,_,b⟩:=L.cl;refine XQ.mpr λq=>?_;obtain rfl:=Tw.ref.inj (beq_iff_eq.mp q);have z:=ey Obj.cls (Us ((X _ _ b).symm.trans e));exact a7 (Tw.type.inj z) (by decide)
 ca:=λ{_ _ _ _ _ s} X I k=>by obtain⟨_,_,_,_,_,_,_,_,_,_,_,_,_,_,_,_,b⟩:=L.cl;obtain⟨l,p,dd,f,oo⟩:=s;exact z0 X I (X _ _ b) L.be L.ga L.gt L.cs L.ob k
end
def JF(K:cL)(c:Tw):V->Hp->VK->Prop:=λx H Q=>∃e ob C m b,x=.ref e/\H e=ax (.frz ob (.own e))/\ob.cls=.ref C/\(∀p,ob.dict=ax p->∃fs,H p=ax (.xd fs))/\notCls ob=Ld/\Xh K C m/\kitOne K (.ref C) c=ax b/\Q (.bl b) H
theorem Cw(I:L2.Inv X pins σ H s)(i:RelV x u)(h:JF X.K c x H Q):
  wpAny (model X.prog X.w) A (call (.builtin "isinstance") [u,c]) (EP X pins σ Q) E s:=by
 obtain⟨e,j,C,m,b,rfl,l,f,n,hn,L,d,q⟩:=h;obtain rfl:=i;have z:=(I.Vp e _ l).1;cases e1:j.dict with
 |none=>exact kia_one (u8 (od:=CL) L) I.Zm ⟨z,f,hn,by rw[e1];trivial⟩ d (λy=>nomatch y) λa=>⟨.bl b,H,I.tok a,rfl,q⟩
 |some p=>obtain⟨fs,k⟩:=n p e1;obtain⟨op,g⟩:=B8 (I.Vp p _ k);exact kia_one (u8 (od:=ax op) L) I.Zm ⟨z,f,hn,by rw[e1];exact g⟩ d (λy=>nomatch y) λa=>⟨.bl b,H,I.tok a,rfl,q⟩
end L4
namespace L4
open PySem PySem.SeqAt PySem.Spec PySem.W PyProof.Rows L2 L3
theorem lU:∀{bs:ck Bool} {a:ck Tw},Vals (bs.map V.bl) a->a=bs.map Tw.bool
 |[],_,.nil=>rfl
 |b::r,_,.cons h t=>by have h:=h;rw[h,lU t];rfl
theorem HG(k:Bool){bs:ck Bool}(h:y∈bs.map Tw.bool)(A:Ut)(s:TK):EqAt A s y (.bool k) (isBoolOf k y):=by obtain⟨b,_,rfl⟩:=TZ.mp h;exact EqAt.bool_bool b k
theorem Bo(k:Bool)(bs:ck Bool):(bs.map Tw.bool).countP (isBoolOf k)=bs.count k:=by rw[List.countP_map];rfl
section
variable{X:Cx}
def Ow:V->ck V->Hp->VK->Prop:=λx xs H Q=>∃(l:TM) (bs:ck Bool) (k:Bool),x=.ref l/\H l=ax (.lst (bs.map V.bl))/\xs=[.bl k]/\Q (.int (bs.count k:Nat)) H
theorem zz:Gk X "list.count" Ow:=by rintro b s h H x xs v e Q I f a ⟨l,bs,k,rfl,hl,rfl,q⟩;obtain rfl:=f;obtain rfl:e=[.bool k]:=lU (bs:=[k]) a;obtain⟨z,i,n,r,d⟩:=(show V9 X.prog X.w H s.heap l (.lst (bs.map V.bl))from I.Vp l _ hl);obtain rfl:=lU r;refine VU aak ⟨_,d,rfl⟩ PySem.F.entry_list_count (PySem.F.args_list_count_2 _ _) (list_countAt l (bs.map Tw.bool).toArray n CL #[] (.bool k) (isBoolOf k)) ⟨d,λy g=>HG k (by simpa using g) _ _,?_⟩;rw[show(bs.map Tw.bool).toArray.toList=bs.map Tw.bool from rfl,Bo];exact⟨.int (bs.count k:Nat),H,I.tok _,⟨_,rfl⟩,q⟩
def OW:V->ck V->Hp->VK->Prop:=λx xs H Q=>∃(l:TM) (bs:ck Bool) (k:Bool) (j:Nat),x=.ref l/\H l=ax (.lst (bs.map V.bl))/\xs=[.bl k]/\bs[j]?=ax k/\(∀m,m<j->bs[m]?≠ax k)/\j<1000/\Q (.int (j:Nat)) H
theorem AI:Gk X "list.index" OW:=by
 rintro d s p H x xs v f Q I g a ⟨l,bs,k,j,rfl,hl,rfl,hj,hno,hs,q⟩;obtain rfl:=g;obtain rfl:f=[.bool k]:=lU (bs:=[k]) a;obtain⟨z,t,n,r,e⟩:=(show V9 X.prog X.w H s.heap l (.lst (bs.map V.bl))from I.Vp l _ hl);obtain rfl:=lU r;obtain⟨h,i⟩:=TN.mp hj;refine VU aal ⟨_,e,rfl⟩ PySem.F.entry_list_index (PySem.F.args_list_index_2 _ _) (list_indexAt l (bs.map Tw.bool).toArray n CL #[] (.bool k) (isBoolOf k) j (by simpa using h) (by ext) ?_ λm hm lt=>?_) ⟨e,λy o=>HG k (by simpa using o) _ _,?_⟩
 .simp[isBoolOf,i]
 .have b:m<bs.length:=by simpa using hm
  have:=hno m lt;rw[TF b]at this;simp only[List.getElem_toArray,List.getElem_map,isBoolOf];exact beq_eq_false_iff_ne.mpr λz=>this (by rw[z])
 .exact⟨.int (j:Nat),H,I.tok _,⟨_,rfl⟩,q⟩
end
end L4
namespace L4
open PySem PySem.Spec PySem.W PyProof.Rows L2 L3
def DB(K:cL):ck V->Hp->VK->Prop:=λxs H Q=>∃x,(∃U:TM,xs=[x,.ref U]/\JF K (.ref U) x H Q)\/∃n,xs=[x,.ty n]/\JF K (.type n) x H Q
theorem dC:Wn X (.builtin "isinstance") (DB X.K):=by
 rintro d s f H xs g Q I r ⟨x,h⟩;rcases h with⟨U,rfl,h⟩|⟨n,rfl,h⟩
 .obtain⟨u,e,rfl,a,b⟩:=pL r;obtain rfl:=b;exact Cw I a h
 .obtain⟨u,e,rfl,a,b⟩:=pL r;obtain rfl:=b;exact Cw I a h
end L4
namespace HT
open PySem PySem.Spec PyProof.Rows
section
variable{prog:Ug}{w:Ux}{A:Ut}{E:Tw->TK->Prop}{s:TK}
theorem getItem_tuple_all{t d:TM}{a:Array Tw}{k j:Tw}{lo hi:cv Int}{Q:Tw->TK->Prop}(b:IsTup s.heap t a)(n:s.heap.IsSliceOf d k j .none)(pl:Y5 k lo)(o:Y5 j hi)
  (l:sIx a.size 0 lo=0/\sIx a.size a.size hi=a.size) (h:Q (.ref t) s):wpAny (model prog w) A (getItem (.ref t) (.ref d)) Q E s:=by
 obtain⟨p,e,f,q⟩:=id n;have g:s.TypeIs (.ref d) "slice":=⟨p,e,f⟩;unfold getItem
 try specialize Wz ?_
 first|refine OK (TR ?_)|skip
 refine OK (afm b.typeIs (by decide) ?_);refine OK (VQ (name:=Str.ofString "__getitem__") b.typeIs UZ
  (Wh UZ b.typeIs entry_tuple_getitem ?_ (args_tuple_getitem _ _)))
 show wpAny _ _ (Um.Tuple.tupleItemsOf (.ref t)>>=_) _ _ s;refine OK (tupleItemsOf_ b ?_);refine OK (Z1 g ?_);rw[ak (by decide)];refine OK (ji n pl o ?_);have i:((((sIx a.size 0 lo:Nat):Int)==0&&(1:Int)==1&&(sIx a.size a.size hi - sIx a.size 0 lo)==a.size)=Ld):=by rw[l.1,l.2];simp
 show wpAny _ _ (if(((sIx a.size 0 lo:Nat):Int)==0&&(1:Int)==1&&(sIx a.size a.size hi - sIx a.size 0 lo)==a.size)=Ld then _ else _) _ _ s;rw[ak i];refine OK (m:=Um.Tuple.tupleIsExact _) ?_;unfold Um.Tuple.tupleIsExact;refine OK (Z1 b.typeIs (TR ?_));rw[ak (by decide)];refine OK (aby ?_);exact TR ⟨_,rfl,TR h⟩
end
end HT
namespace L3
open PySem PySem.Spec PyProof.Rows L2
def OS(K:cL):V->cv Int->cv Int->Hp->VK->Prop:=λx lo hi H Q=>∃(a:TM) (xs:ck V),x=.ref a/\XA K H a xs/\(HT.sIx xs.length 0 lo=0/\HT.sIx xs.length xs.length hi=xs.length)/\Q (.ref a) H
theorem DH{X:Cx}:Ia X (OS X.K):=by
 intro d s m H x v o n lo hi p Q I f k pl g h;obtain⟨a,xs,rfl,i,j,q⟩:=h;cases f;obtain⟨l,r,e,t⟩:=I.tuple i;have b:l.toArray.size=xs.length:=by rw[T3];exact r.length.symm
 refine⟨"tuple",_,UZ.lookup,e.typeIs,?_⟩;exact HT.getItem_tuple_all e k pl g (by rw[b];exact j) ⟨.ref a,H,I,rfl,q⟩
def Oj(K:cL):V->cv Int->cv Int->Hp->VK->Prop:=λx lo hi H Q=>J4 K x lo hi H Q\/OS K x lo hi H Q
theorem Gh{X:Cx}:Ia X (Oj X.K):=by
 intro a s b H x v e d lo hi f Q I g i pl h q;rcases q with q|q
 .exact Bx a s b H x v e d lo hi f Q I g i pl h q
 .exact DH a s b H x v e d lo hi f Q I g i pl h q
def Fz:D->cv Int->cv Int->cv RV
 |.list ds,lo,hi=>ax (.ow (iX ds lo hi))
 |.tuple ds,lo,hi=>ax (.fz (.tuple (iX ds lo hi)))
 |_,_,_=>CL
theorem GA{ds:ck D}{lo hi:cv Int}(h:HT.sIx ds.length 0 lo=0/\HT.sIx ds.length ds.length hi=ds.length):iX ds lo hi=ds:=by unfold iX;rw[h.1,h.2,aam,agb,V8]
theorem ML{K:cL}:Pv K (Oj K) Fz:=by
 intro O H x lo hi dx rv Q n b e q;cases dx with
 |list ds=>exact .inl (sh O H x lo hi _ rv Q n b e q)
 |tuple ds=>
  cases e;by_cases d:HT.sIx ds.length 0 lo=0/\HT.sIx ds.length ds.length hi=ds.length
  .obtain⟨a,xs,rfl,g,f⟩:=AB b;rw[GA d]at q;refine .inr ⟨a,xs,rfl,g.1,by rw[f.length];exact d,q.at (.tup g f)⟩
  .refine .inl (sh O H x lo hi (.tuple ds) _ Q n b ?_ q)
   show(if dL ds.length lo hi=Ld then CL else ax (RV.fz (.tuple (iX ds lo hi))))=_;have z:dL ds.length lo hi=Tx:=by unfold dL;exact a5 d
   rw[z,ar Tz]
 |_=>cases e
section
variable{K:cL}{E:XK}
end
end L3
namespace L9
open PySem PySem.Spec PyProof.Rows
section
variable{M:aaJ}{A:Ut}{E:Tw->TK->Prop}{env:Env}
variable{nm q:Str}{C N:TM}{bs Z:ck Tw}{hdct:Bool}{sn:ck Str}{sub:ck Tw}{ab:Bool}{col:cv Bool}{dd:cv TM}{k0 k1 k2 k3 k5:cv Tw}{newId:String}
theorem jf(p:Z.contains (.type "BaseException")=Ld)(m:A.handled=CL)
  (h:wpAny M A x (λv s₁=>∃e ob,v=.ref e/\s₁.heap.get? C=ax (excClassObj nm q C N bs Z hdct sn sub ab col dd k0 k1 k2 k3 k5 newId)/\s₁.heap.get? e=ax ob/\ob.cls=.ref C/\(∃fs,ob.data=.fields fs/\fs[1]?=ax Tw.none)/\E (.ref e) s₁) E s):
  wpAny M A (raiseStmt env (ax x) CL) Q E s:=by
 have f:(Tw.ref C::Z).contains (.type "BaseException")=Ld:=by rw[Vk,p,V4]
 unfold raiseStmt;refine OK (wpAny_mono h (λv s₁ a=>?_) λ_ _ x=>x);obtain⟨e,ob,rfl,k,n,j,⟨fs,i,b⟩,o⟩:=a;obtain⟨w,u,l⟩:=ob;dsimp only at j i;subst j i;obtain⟨y,g,d,r,t⟩:=s₁
 repeat (first|specialize VS n ?_|specialize VS k ?_|(specialize WW k ?_;rw[f])|wp_step)
 rw[b]
 repeat wp_step
 exact wpAny_raiseNew_none m o
end
section
variable{prog:Ug}{w:Ux}{A:Ut}{E:Tw->TK->Prop}{h:Heap}{g:Array Yv}{d:acO}{t:Nat}{os:abk}
variable{nm q:Str}{C N:TM}{bs S Z:ck Tw}{hdct:Bool}{sn:ck Str}{sub:ck Tw}{ab:Bool}{col:cv Bool}{dd:cv TM}{k0 k1 k2 k3 k5:cv Tw}{B R newId Y Xy X:String}{U:ck Tw}
theorem ox(Fn:Xd R newId X U)(j:Z.contains (.type R)=Ld)(F:Xd B Y Xy Z)(T:afp h Z S)
  (i:h.get? C=ax (excClassObj nm q C N bs S hdct sn sub ab col dd k0 k1 k2 k3 k5 newId)) (hn:h.Ns N mN) (hi:mN "__init__"=ax (.ref fI)) (n:h.get? fI=ax oI) (m:oI.cls=.type "function")
  (y:∀h' e,Heap.MadeExcOf h h' e (.ref C) rest->wpAny (model prog w) A (call (.ref fI) (.ref e::rest)) (λr s'=>r=.none/\Q (.done (.ret (.ref e))) s') E ⟨h',g,d,t,os⟩) (hrest:rest.length<=T8):
  wpAny (model prog w) A (Um.«type.__call__» ⟨.ref C::rest,[]⟩) Q E ⟨h,g,d,t,os⟩:=by
 repeat (first|specialize VS i ?_|specialize wpAny_madeBy_exc i ?_|wp_step)
 refine codeAny_call_builtin_code (aat.quiet_builtin _ Fn.quiet) (wpAny_check_new_subU Fn j T i ?_);refine codeAny_exc_new_subU Fn j F T i ?_ hrest
 have a:=cM {cls:=.ref C,data:=.fields #[.ref h.objs.size,.none,.none,.none,.bool Tx,.none]}
  (cM {cls:=.type "tuple",data:=.seq rest.toArray} i)
 have u:=cM {cls:=.ref C,data:=.fields #[.ref h.objs.size,.none,.none,.none,.bool Tx,.none]}
  (cM {cls:=.type "tuple",data:=.seq rest.toArray} n)
 have f:((h.push {cls:=.type "tuple",data:=.seq rest.toArray}).push {cls:=.ref C,data:=.fields #[.ref h.objs.size,.none,.none,.none,.bool Tx,.none]}).Ns N mN:=
  let⟨o,es,ep,e,r⟩:=hn;⟨o,es,ep,cM _ (cM _ e),r⟩
 have k:((h.push {cls:=.type "tuple",data:=.seq rest.toArray}).push
   {cls:=.ref C,data:=.fields #[.ref h.objs.size,.none,.none,.none,.bool Tx,.none]}).get? (h.objs.size+1)=ax
   {cls:=.ref C,data:=.fields #[.ref h.objs.size,.none,.none,.none,.bool Tx,.none]}:=by heap_get
 have p:(Tw.ref C::S).contains (.ref C)=Ld:=by simp
 have l:=T.keeps (h':=(h.push {cls:=.type "tuple",data:=.seq rest.toArray}).push {cls:=.ref C,data:=.fields #[.ref h.objs.size,.none,.none,.none,.bool Tx,.none]})
  λb o e=>cM _ (cM _ e)
 unfold isInstance
 repeat (first|specialize VS k ?_|(specialize WW a ?_;rw[p])|wp_step)
 refine wpAny_typeLookup_tail a f l F.mroIs F.init.lookup ?_;rw[hi];refine Wz (OK ?_);unfold bindSpecial;refine OK (Z1 ⟨_,u,m⟩ ?_);rw[ak (by decide)];refine TR (OK (wpAny_mono (y _ (h.objs.size+1) ⟨λb o z=>cM _ (cM _ z),ea (Xl _),h.objs.size,k,ea (TQ _),?_⟩) (λr s' v=>?_) λ_ _ x=>x))
 .exact cM _ (Heap.get?_push_at rfl rfl)
 .obtain⟨rfl,G⟩:=v
  wp_walk
  exact G
theorem xm(Fn:Xd R newId X U)(i:Z.contains (.type R)=Ld)(F:Xd B Y Xy Z)(T:afp h Z S)
  (a:h.get? C=ax (excClassObj nm q C N bs S hdct sn sub ab col dd k0 k1 k2 k3 k5 newId)) (hn:h.Ns N mN) (hi:mN "__init__"=ax (.ref fI)) (f:h.get? fI=ax oI) (b:oI.cls=.type "function")
  (j:∀h' e,Heap.MadeExcOf h h' e (.ref C) rest->wpAny (model prog w) (A.under (.builtin "type.__call__" ⟨.ref C::rest,[]⟩)) (call (.ref fI) (.ref e::rest)) (λr s'=>r=.none/\Q (.ref e) s') E ⟨h',g,d,t,os⟩) (hrest:rest.length<=T8):
  wpAny (model prog w) A (call (.ref C) rest) Q E ⟨h,g,d,t,os⟩:=by
 have l:=tc_lookup;have f2:=tc_bind (.ref C);have k:(⟨h,g,d,t,os⟩:TK).TypeIs (.ref C) "type":=⟨_,a,rfl⟩;refine YC (aaU ?_)
 repeat (any_goals (first|assumption|specialize VS a ?_|wp_step))
 refine⟨rfl,?_⟩;refine codeAny_call_builtin_at (aat.quiet_builtin _ (by left)) entry_typeCall (wpAny_check_type_call_sub a (ox (hrest:=hrest) Fn i F T a hn hi f b λh' e hm=>?_));exact j h' e hm
end
section
variable{prog:Ug}{w:Ux}{A:Ut}{E:Tw->TK->Prop}{s:TK}{env:Env}
variable{nm q:Str}{C N:TM}{bs Y Z:ck Tw}{hdct:Bool}{sn:ck Str}{sub:ck Tw}{ab:Bool}{col:cv Bool}{dd:cv TM}{k0 k1 k2 k3 k5:cv Tw}{B Bn newId X Xy U:String}{S:ck Tw}
theorem uZ(Fn:Xd Bn newId U S)(p:Z.contains (.type Bn)=Ld)(F:Xd B X Xy Z)
  (u:Y.contains (.type "BaseException")=Ld) (n:A.handled=CL) (t:(backTo Xw (Uh args env)).any (·.1)=Tx) (hi:mN "__init__"=ax (.ref fI)) (o:oI.cls=.type "function")
  (h:wpAny (model prog w) A (eval (.Name x np) env) (λf s₁=>f=.ref C/\wpAny (model prog w) A (evalArgs (.ref C) Ld (backTo Xw (Uh args env)) [])
   (λa s₂=>a.kw=[]/\a.pos.length<=T8/\s₂.heap.get? C=ax (excClassObj nm q C N bs Y hdct sn sub ab col dd k0 k1 k2 k3 k5 newId)/\s₂.heap.Ns N mN/\s₂.heap.get? fI=ax oI/\afp s₂.heap Z Y/\
    ∀h' e,Heap.MadeExcOf s₂.heap h' e (.ref C) a.pos->wpAny (model prog w) (A.under (.builtin "type.__call__" ⟨.ref C::a.pos,[]⟩)) (call (.ref fI) (.ref e::a.pos)) (λr s'=>r=.none/\∃ob,s'.heap.get? C=ax (excClassObj nm q C N bs Y hdct sn sub ab col dd k0 k1 k2 k3 k5 newId)/\s'.heap.get? e=ax ob/\ob.cls=.ref C/\(∃fs,ob.data=.fields fs/\fs[1]?=ax Tw.none)/\E (.ref e) s') E {s₂ with heap:=h'}) E s₁) E s):
  wpAny (model prog w) A (exec (.Raise (ax (.Call (.Name x np) args [] Xw)) CL pos) env) Q E s:=by
 rw[arm_exec_Raise]
 first
  |refine OK (VY (jf u n (OK (wpAny_mono (Z5 (wpAny_mono h (λf s₁ i=>?_) λ_ _ x=>x)) (λv k b=>OK (VY (TR b))) λ_ _ x=>x))))
  |(simp only[evalOpt,Option.map];refine OK (VY (jf (C:=C) (nm:=nm) (q:=q) (N:=N) (bs:=bs) (hdct:=hdct) (sn:=sn) (sub:=sub) (ab:=ab) (col:=col) (dd:=dd) (k0:=k0) (k1:=k1) (k2:=k2) (k3:=k3) (k5:=k5) (newId:=newId) u n (OK (wpAny_mono (Z5 (wpAny_mono h (λf s₁ i=>?_) λ_ _ x=>x)) (λv k b=>OK (VY (TR b))) λ_ _ x=>x)))))
  |(refine OK (VY (jf u n ?_));refine OK (wpAny_mono (Z5 (wpAny_mono h (λf s₁ i=>?_) λ_ _ x=>x)) (λv k b=>OK (VY (TR b))) λ_ _ x=>x))
 obtain⟨rfl,i⟩:=i;unfold callWith;refine OK (Wz (wpAny_mono i (λa s₂ j=>OK (VY ?_)) λ_ _ x=>x));obtain⟨z,O⟩:=a;obtain⟨m,l,y,hn,H,T,j⟩:=j;obtain rfl:=m;obtain⟨hp,g,d,P,R⟩:=s₂;simp only[t];refine OK (wpAny_keeperOf_exc y ?_);refine OK (xm (hrest:=l) Fn p F T y hn hi H o λh' e hm=>wpAny_mono (j h' e hm) (λr s' ⟨G,ob,M,L,K,J,I⟩=>⟨G,OK (Wz (wpAny_point (TR ?_)))⟩) λ_ _ x=>x);exact⟨e,ob,rfl,M,L,K,J,I⟩
end
end L9
namespace L9
open PySem PySem.W PyProof.Rows Builtin Builtin.ObjectAttr
abbrev zF:ck Tw:=[.type "ValueError",.type "Exception",.type "BaseException",.type "object"]
section
variable{prog:Ug}{w:Ux}{A:Ut}{K:Frag}{B C x:TM}{s:TK}{R:aeE->TK->Prop}{cd:ClassData}{name:Str}{Z:Tok}{v:Tw}{fs:Array Tw}
theorem E3(X:K.In s.heap)(u:clsIn K C=ax cd)(hm:cd.mro=.ref C:: .ref B::zF)(hd:cd.hasDict=Ld)(hn:findIn K (.ref C) name=ax CL)(i:s.heap.get? x=ax ⟨.ref C,CL,.fields fs,#[]⟩)
  (F:∀h' tk',h'.get? x=ax ⟨.ref C,ax s.heap.objs.size,.fields fs,#[]⟩->h'.Ns1 s.heap.objs.size (λy=>if y=name then ax v else CL)->(∀b o,b≠x->s.heap.get? b=ax o->h'.get? b=ax o)->R (.ok (.ret .none)) {s with heap:=h',toks:=tk'}):
  codeAny (model prog w) A (.call (.builtin "object.__setattr__") ⟨[.ref x,.str name Z,v],[]⟩) R s:=by
 have I:InstAt s.heap x ⟨.ref C,CL,.fields fs,#[]⟩ C CL:=⟨i,rfl,rfl,True.intro⟩;have l:=aaV;have sub:Looks (model prog w) s.heap (isInstance (.ref x) (.type "object")) Ld:=I.type.andThen (looks_mroIn X (by unfold mroIn;rw[u,acV,hm,ar (by simp)];simp));refine Vo l.slot.plain l.entry (@check_slot (model prog w) _ _ s "object.__setattr__" "object" "__setattr__" (.ref x) [.str name Z,v] [] _ l.kind l.split sub (l.args (.ref x) (.str name Z) v) ?_);have k:Looks (model prog w) s.heap (mroOf (.ref C)) cd.mro:=(looks_clsIn X u).andThen .now;rw[osa_eq,refuse_eq];refine OK (OK (I.type.here (OK (k.here ?_))));rw[hm,Za,Za,Z6.passes];refine TR (OK (I.type.here (OK ((looks_findIn X hn).here (OK (TR ?_))))));unfold storeInOwnDict;refine OK (TR (OK ?_));unfold ownDictForStores instanceDict;refine OK (abA i (OK ((looks_clsIn X u).here ?_)));rw[hd,ar (by decide)];show wpAny _ _ (if(!Ld|| !typeHasDict (.ref C))=Ld then pure CL else(do
        let d<-alloc {cls:=Tw.type "dict",data:=Z2.dict #[]}
        update x λo=>{cls:=o.cls,dict:=ax d,data:=o.data,slots:=o.slots}
        dictMade (.ref C) x d)) _ _ _
 rw[ar (by simp[typeHasDict])];obtain⟨h,g,d,t,T⟩:=s;dsimp only at X i F I sub k⊢;have f:(h.push {cls:=.type "dict",data:=.dict #[]}).get? x=ax ⟨.ref C,CL,.fields fs,#[]⟩:=cM _ i;have a:=Ui (c5 i);refine OK (wpAny_alloc' ?_);refine OK (wpAny_update' f ?_);refine TR ?_
 have p:((h.push {cls:=.type "dict",data:=.dict #[]}).update x λo=>{cls:=o.cls,dict:=ax h.objs.size,data:=o.data,slots:=o.slots}).get? h.objs.size
   =ax {cls:=.type "dict",data:=.dict #[]}:=
  (Heap.get?_update_ne _ _ _ _ a.symm).trans (Heap.get?_push_at rfl rfl)
 have n:((h.push {cls:=.type "dict",data:=.dict #[]}).update x λo=>{cls:=o.cls,dict:=ax h.objs.size,data:=o.data,slots:=o.slots}).Ns h.objs.size (λ_=>CL):=
  ⟨_,#[],_,p,rfl,λe J=>a7 J (by simp),λ_=>rfl⟩
 unfold storeInDict newKeyGuard;refine OK (TR (OK (wpAny_nsSet1 (Heap.Ns1.of_empty n) λh' j E=>?_)));obtain⟨Y,M,O,m,q,r⟩:=j.count (Within.cons name v Within.nil);refine OK (agc m (by rw[q];exact agd (UH r (by rw[TJ,Vu,W0];ext))) ?_);refine TR (F h' _ ?_ ?_ λb U z G=>?_)
 .exact(E.2 x a).trans (dN _ f rfl)
 .obtain⟨H,N,P,S,Q,e3,L,e4⟩:=j;exact⟨H,N,P,S,Q,e3,L,λy=>by rw[e4 y]⟩
 .exact(E.2 b (Ui (c5 G))).trans ((Heap.get?_update_ne _ _ _ _ z).trans (cM _ G))
theorem Fo(X:K.In s.heap)(f:clsIn K C=ax cd)(hm:cd.mro=.ref C:: .ref B::zF)(hd:cd.hasDict=Ld)(a:findIn K (.ref C) "__setattr__"=ax (ax (.builtin "object.__setattr__")))(hn:findIn K (.ref C) name=ax CL)(d:s.heap.get? x=ax ⟨.ref C,CL,.fields fs,#[]⟩)
  (e:∀h' tk',h'.get? x=ax ⟨.ref C,ax s.heap.objs.size,.fields fs,#[]⟩->h'.Ns1 s.heap.objs.size (λy=>if y=name then ax v else CL)->(∀b o,b≠x->s.heap.get? b=ax o->h'.get? b=ax o)->Q () {s with heap:=h',toks:=tk'}):
  wpAny (model prog w) A (setAttr (.ref x) name v) Q E s:=
 set_plain X (⟨d,rfl,rfl,True.intro⟩:InstAt s.heap x ⟨.ref C,CL,.fields fs,#[]⟩ C CL) a (E3 X f hm hd hn d e)
end
section
variable{prog:Ug}{w:Ux}{A:Ut}{E:Tw->TK->Prop}{h:Heap}{g:Array Yv}{d:acO}{t:Nat}{os:abk}
variable{nm q:Str}{C N:TM}{bs bm Z:ck Tw}{hdct:Bool}{sn:ck Str}{sub:ck Tw}{ab:Bool}{col:cv Bool}{dd:cv TM}{k0 k1 k2 k3 k5:cv Tw}{B newId Y Xy:String}
theorem zI(F:Xd B Y Xy Z)(T:afp h Z bm)
  (n:h.get? C=ax (excClassObj nm q C N bs bm hdct sn sub ab col dd k0 k1 k2 k3 k5 newId)) (j:h.get? e=ax ⟨.ref C,CL,.fields fs,#[]⟩) (k:fs[0]?=ax (.ref t0))
  (l:∀h' fs',h'.get? e=ax ⟨.ref C,CL,.fields fs',#[]⟩->fs'[0]?=ax (.ref h.objs.size)->(∀i,i≠0->fs'[i]?=fs[i]?)->(∀b o,b≠e->h.get? b=ax o->h'.get? b=ax o)->Q .none ⟨h',g,d,t,os⟩) (hrest:rest.length<=T8):
  wpAny (model prog w) A (call (.builtin Xy) (.ref e::rest)) Q E ⟨h,g,d,t,os⟩:=by
 refine YC (Vo F.init.plain F.initEntry (wpAny_check_init_subU F T n j rfl ?_));unfold Um.«BaseException.__init__»;dsimp only;rw[ar (by simp)];unfold newTuple Um.BaseException.bexcPut;have f:=(UW.mp k).1;have a:(h.push {cls:=.type "tuple",data:=.seq rest.toArray}).get? e=ax ⟨.ref C,CL,.fields fs,#[]⟩:=cM _ j;refine OK (Vw (OK (OK (UL a rfl k (OK (Wi a rfl f ?_))))) (by show rest.toArray.size<=T8;rw[T3];exact hrest));refine aaN (TR (l _ (fs.setIfInBounds 0 (.ref h.objs.size)) ?_ (by simp[f]) (λi hi=>by rw[Zq (en hi)]) λb o m z=>?_))
 .exact dN (Obj.mapFields (·.setIfInBounds 0 (.ref h.objs.size))) a rfl
 .exact(dt _ _ (en m)).trans (cM _ z)
end
end L9
namespace L9
open PySem PySem.Spec PyProof.Rows L2
def LJ(v:V):Prop:=v=.VX\/∃i:Int,v=.int i/\i.natAbs.log2<1920
theorem G1{i:Int}(h:i.natAbs.log2<1920):(Str.ofString (toString i)).length<=5000:=by have e:=int_text_length_le (by decide) h;rw[PySem.ofString_length];ext
theorem Lq(I:Inv X pins σ H s)(r:RelV v u)(f:LJ v)
  (h:∀(y:Str) (t:Tok) (a:TK),y.length<=5000->Inv X pins σ H a->Q (.str y t) a):wpAny (model X.prog X.w) A (formatField u Str.empty) Q E s:=by
 rcases f with rfl|⟨i,rfl,hi⟩
 .obtain rfl:=r;exact wpAny_formatField_none (h _ _ _ (by decide) (I.tok _))
 .obtain⟨t,rfl⟩:=r;exact formatField_int_small hi (h _ _ _ (G1 hi) (I.tok _))
def PJ(X:Cx)(es:ck Ue)(n:Nat)(t:L2.St->Hp->(Hp->Prop)->Prop):Prop:=
 ∀(a:ck (TM×Obj)) (s:TK) (d:L2.St) (H:Hp) (b:Str) (Q:Hp->Prop),Inv X a d H s->b.length+n<=1000000->t d H Q->
  wpAny (model X.prog X.w) X.A (joinParts b (evalEach es X.env)) (λv g=>∃(y:Str) (f:Tok) (e:Hp),v=.str y f/\Inv X a d e g/\Q e) X.xe s
section
variable{X:Cx}{e:Ue}{es:ck Ue}{n:Nat}{te:TE}{t:L2.St->Hp->(Hp->Prop)->Prop}{Z:Pos}
theorem wY:PJ X [] 0 (λ_ H Q=>Q H):=by intro a s d H b Q I f h;exact joinParts_nil ⟨_,_,H,rfl,I.tok _,h⟩ (by rw[W0];ext)
theorem ug(g:x.length<=5000)(f:PJ X es n t):PJ X (.Constant (.str x) k Z::es) (n+5000) t:=by intro a s d H b Q I i h;refine joinParts_consE (joinParts_cons (Calls.Constant_str ?_));have e:=akZ b x;exact⟨by rw[W0];ext,f a _ d H (b++x) Q (I.tok _) (by ext) h⟩
theorem sE(g:PE X e te)(d:PJ X es n t):PJ X (.FormattedValue e (-1) CL Z::es) (n+5000) (λσ H Q=>te σ H λv H1=>LJ v/\t σ H1 Q):=by intro a s σ H b Q I p h;refine joinParts_consE (joinParts_cons (FormattedValue_plain (c9 (g a s σ H _ I h) λu l ⟨v,H1,i,r,f,q⟩=>?_)));refine Lq i r f λy k m o j=>?_;have e:=akZ b y;exact⟨by rw[W0];ext,d a _ σ H1 (b++y) Q j (by ext) q⟩
theorem uh(h:PJ X (f::e2::es) n t)(hn:n<=900000):PE X (.JoinedStr (f::e2::es) Z) (λσ H Q=>t σ H λH1=>∀y:Str,Q (.str y) H1):=by intro a s σ H Q I b;refine JoinedStr_many (c9 (h a s σ H Str.empty _ I (by show 0+n<=1000000;ext) b) λv j ⟨y,i,H1,d,g,q⟩=>?_);subst d;exact⟨.str y,H1,g,⟨_,rfl⟩,q y⟩
end
def EI(C e:TM):Heap->Prop:=λh=>∃fs t0,h.get? e=ax ⟨.ref C,CL,.fields fs,#[]⟩/\fs[0]?=ax (.ref t0)/\fs[1]?=ax .none
def Kq(C e p:TM):Heap->Prop:=λh=>∃fs a0,h.get? e=ax ⟨.ref C,ax p,.fields fs,#[]⟩/\fs[0]?=ax a0/\fs[1]?=ax .none
structure XC(K:cL)(C B fI:TM):Prop where
 obj:∃nm q N bs sn sub ab col dd k0 k1 k2 k3 k5,K.lookup C=ax (excClassObj nm q C N bs (.ref B::zF) Ld sn sub ab col dd k0 k1 k2 k3 k5 "ValueError.__new__")/\Wu K N=Ld/\T9 K N "__init__"=ax (ax (.ref fI))
 base:W3 K B zF "ValueError.__new__"=Ld
 sa:T6 K (.ref C) "__setattr__"=ax (ax (.builtin "object.__setattr__"))
theorem vb{K:cL}(q:W3 K B zF n=Ld):Yn K zF (.ref B::zF)=Ld:=by
 unfold W3 at q;split at q
 .rename_i dd cd d b
  split at q
  .simp only[Tu,beq_iff_eq,UX]at q;obtain⟨⟨⟨⟨⟨_,_⟩,_⟩,_⟩,Vp⟩,a⟩:=q;unfold Yn;dsimp only;rw[b];dsimp only;rw[Vp,a,show Yn K zF zF=Ld from by unfold Yn;rw[ez,We],ez,U7,U7,V4]
  .cases q
 .cases q
section
variable{X:Cx}{B C fI:TM}{Z S U:Pos}{Y:Ue}{as:ck Ue}{t:TA}{b:Str}
theorem BE(h:H a=ax o):bz H a o=H:=by
 funext c;by_cases z:c=a
 .rw[z,aF,h]
 .rw[am z]
def Jn(C:TM)(t:TA):TE:=λd H Q=>t d H λvs a=>∃e y,vs=[.ref e,.str y]/\a e=ax (.ext (EI C e))/\Q .VX a
theorem pQ{pl:Sem Bool}(hg:Gl X b)(hm:X.mg b=ax (.ref B))(hr:Xe X.K B (.type "type")=Ld)(hf:Xf X.K (.ref B) (.type "type") "__init__"=ax (.val (.builtin "ValueError.__init__")))
  (hs:VZ X.K (.ref B) "__getattribute__"=ax (ax (.builtin "type.__getattribute__"))) (A:XC X.K C B fI) (ha:PA X (Y::as) t)
  (Zc:Uh (Y::as) X.env=(Tx,eval Y X.env)::Uh as X.env:=by rfl) (k:(backTo Z (Uh as X.env)).any (·.1)=Tx:=by rfl) (l:(b==("__debug__":Str))=Tx:=by decide)
  (ht:eval (.Call (.Attribute (.Name b S) "__init__" U) (Y::as) [] Z) X.env=(do
   let ov<-eval (.Name b S) X.env
   standAt U.atName
   let(f,first)<-holding [ov] (getMethod ov "__init__" pl)
   callWith Z f first (backTo Z (Uh (Y::as) X.env)) (backToKw Z (keywordEach [] X.env))):=by rfl):
  PE X (.Call (.Attribute (.Name b S) "__init__" U) (Y::as) [] Z) (Jn C t):=by
 intro a s G H Q I h;refine PySem.W.methodCall_KW (pl:=pl) (mI I hg hm ?_ l) ht;refine PySem.W.method_cls I.Zm hs (PySem.W.cls_value I.Zm hr hf (by decide) ?_);have E:=ha Z a {s with toks:=s.toks+1} G H _ (I.tok _) h;rw[Zc]at E⊢;refine Calls.callWith_builtin (by show(Tx||(backTo Z (Uh as X.env)).any (·.1))=Tx;rw[k]<;>rfl) (Calls.evalArgs_plain (c9 E λus v ⟨vs,F,i,r,e,y,ev,m,q⟩=>?_));subst ev;obtain⟨O,u2,rfl,r1,R⟩:=pL r;obtain rfl:O=.ref e:=r1;obtain⟨tk,rfl⟩:=R;obtain⟨⟨fs,t0,g1,g2,g3⟩,_,gk⟩:=(show V9 X.prog X.w F v.heap e (.ext (EI C e))from i.Vp e _ m);obtain⟨nm,q',N,bs,sn,sub,ab,col,dd,k0,k1,k2,k3,k5,lk,Vp,hin⟩:=A.obj;have T:=abC i.Zm (vb A.base);obtain⟨h2,g,d,j,os⟩:=v;refine zI Wv T (i.Zm _ _ lk) g1 g2 (λh' n p e2 e3 e4=>?_) (by show 1<=T8;decide);refine⟨.VX,F,?_,rfl,q⟩;have w:=i.write (x:=e) (e:=e) (o:=.ext (EI C e)) (h':=h') (t':=j) (by rw[m];exact True.intro) (.inl rfl) (λb u hb z=>e4 b u hb z) ⟨_,p⟩ ⟨⟨n,_,p,e2,by rw[e3 1 (by decide)];exact g3⟩,⟨_,p⟩,λh1 h2 ⟨f1,P,M,L,J⟩ hk=>⟨f1,P,hk _ M,L,J⟩⟩;rw[BE m]at w;exact w
def NL(C:TM)(f:Str)(ta g:TE):TS:=λD a H=>g a H λv h=>ta a h λx d=>∃e,x=.ref e/\d e=ax (.ext (EI C e))/\∀p,d p=CL->p≠e->D.nx a (bz (bz d e (.ext (Kq C e p))) p (.xd [(f,v)]))
theorem sN(M:XC X.K C B fI)(hn:T6 X.K (.ref C) f=ax CL)(ha:PE X o ta)(hv:PE X value tv)(hs:X1 value (ax (.Attribute o f pos')) Z.line X.env=pure Tx):PS X (.Assign [.Attribute o f pos'] value Z) (NL C f ta tv):=by
 intro j s A H D I h;refine aan (c9 (hv j s A H _ I h) λu s1 ⟨v,H1,I1,rv,q⟩=>c9 (ha j s1 A H1 _ I1 q) λov m ⟨x,P,r,rx,e,ex,i,q2⟩=>?_) hs;subst ex;obtain rfl:=rx;obtain⟨⟨fs,t0,O,g2,g3⟩,_,gk⟩:=(show V9 X.prog X.w P m.heap e (.ext (EI C e))from r.Vp e _ i);obtain⟨nm,q',N,bs,sn,sub,ab,col,dd,k0,k1,k2,k3,k5,lk,Vp,hin⟩:=M.obj;obtain⟨cd,hc,F,G⟩:∃cd,W4 X.K C=ax cd/\cd.mro=.ref C:: .ref B::zF/\cd.hasDict=Ld:=by unfold W4;rw[lk];exact⟨_,rfl,rfl,rfl⟩
 refine Fo r.Zm hc F G M.sa hn O λh' tk' J e2 e3=>?_;have pe:=Vb (c5 O);have p:=r.Vp.fresh (TQ _);refine⟨A,_,?_,q2 m.heap.objs.size p pe⟩;have l:∀b o,m.heap.get? b=ax o->b≠m.heap.objs.size:=λb o z=>Ui (c5 z);refine r.un ⟨λb o z n _ _=>e3 b o (λy=>by rw[y,i]at n;cases n) z,λb o z n _ _=>⟨o.slots,e3 b o (λy=>by rw[y,i]at n;cases n) z⟩,λb o z n _=>?_,λb o z _=>?_,λb xs z=>?_,λb o u z=>?_,λb ps z=>⟨#[],?_⟩⟩ ?_
 .rw[am (l b o z),am (λy=>by rw[y,i]at n;cases n)];exact n
 .by_cases y:b=e
  .subst y;exact⟨_,J⟩
  .exact⟨o,e3 b o y z⟩
 .rw[am (λy=>by rw[y,p]at z;cases z),am (λy=>by rw[y,i]at z;cases z)];exact z
 .rw[am (λy=>by rw[y,p]at z;cases z),am (λy=>by rw[y,i]at z;cases z)];exact z
 .rw[am (λy=>by rw[y,p]at z;cases z),am (λy=>by rw[y,i]at z;cases z),z];simp
 .intro a o z
  by_cases L:a=m.heap.objs.size
  .subst L
   rw[aF]at z;cases z;refine⟨_,e2,λg=>?_⟩;show aa4 (match g==f with|true=>ax v|false=>Xj g []) (if g=f then ax u else CL);cases d:g==f with
   |true=>rw[ak (beq_iff_eq.mp d)];exact rv
   |false=>rw[ar (λw=>by rw[beq_iff_eq.mpr w]at d;cases d)];exact True.intro
  .rw[am L]at z
   by_cases E:a=e
   .subst E;rw[aF]at z;cases z;exact⟨⟨fs,_,J,g2,g3⟩,⟨_,J⟩,λh1 h2 ⟨f1,t1,T,R,Q⟩ hk=>⟨f1,t1,hk _ T,R,Q⟩⟩
   .rw[am E]at z
    have own:∀b,P b=ax (.own a)->b≠e/\b≠m.heap.objs.size:=λb y=>⟨(λk=>by rw[k,i]at y;cases y),(λk=>by rw[k,p]at y;cases y)⟩;refine(r.Vp a o z).Ya (λb w d y=>e3 b w (λk=>?_) y) (λb y=>by rw[am (own b y).2,am (own b y).1];exact y) λb xs y=>by rw[am (λk=>by rw[k,p]at y;cases y),am (λk=>by rw[k,i]at y;cases y)];exact y
    rcases d with d|d
    .exact E (d.symm.trans k)
    .exact(own b d).1 k
end
end L9
namespace L9
open PySem PySem.Spec PyProof.Rows L2 L4
def OQ(H:Hp)(e:TM):Hp:=λa=>if a=e then CL else H a
theorem pZ:OQ H e e=CL:=ak rfl
theorem iS(h:a≠e):OQ H e a=H a:=ar h
theorem wx{K:cL}(X:K.In h)(G:h.Ns N mg)(e:T9 K N n=ax (ax v)):mg n=ax v:=by
 obtain⟨o,l,m,d,i,_,f⟩:=G;unfold T9 at e;split at e
 .rename_i j k b a
  have:=(X _ _ a).symm.trans d;cases this;cases i;split at e
  .rename_i p g;cases e;rw[<-f];unfold nsFind findBy;rw[<-acj,g];rfl
  .split at e<;>cases e
 .cases e
theorem Lz{K:cL}(i:Wx K (.ref f)=Ld)(l:K.lookup f=ax o):o.cls=.type "function":=by unfold Wx U6 at i;dsimp only at i;rw[l]at i;exact Us (beq_iff_eq.mp i)
section
variable{X:Cx}{Z:ck (TM×Obj)}{Y:L2.St}{H:Hp}{s:TK}{h':Heap}{e:TM}{o:HO}
theorem FU(I:L2.Inv X Z Y H s)(k:∀b u,s.heap.get? b=ax u->h'.get? b=ax u)(n:s.heap.get? e=CL)(new:V9 X.prog X.w (bz H e o) h' e o):L2.Inv X Z Y (bz H e o) {s with heap:=h',toks:=t'}:=by
 have hn:=vd I.Vp n;have ne:∀b u,s.heap.get? b=ax u->b≠e:=λb u z y=>by rw[y,n]at z;cases z
 refine I.un ⟨λb u z _ _ _=>k b u z,λb u z _ _ _=>⟨u.slots,k b u z⟩,λb u z q _=>by rw[am (ne b u z)];exact q,λb u z _=>⟨u,k b u z⟩,λb xs z=>?_,λb u v z=>?_,λb ps z=>⟨#[],?_⟩⟩ ?_
 .rw[am (λy=>by rw[y,hn]at z;cases z)];exact z
 .rw[am (λy=>by rw[y,hn]at z;cases z)];exact z
 .rw[am (λy=>by rw[y,hn]at z;cases z),z];simp
 .intro a u z
  by_cases y:a=e
  .subst y;rw[aF]at z;cases z;exact new
  .rw[am y]at z;refine(I.Vp a u z).Ya (λb w _ q=>k b w q) (λb q=>by rw[am (λw=>by rw[w,hn]at q;cases q)];exact q) λb xs q=>by rw[am (λw=>by rw[w,hn]at q;cases q)];exact q
theorem Ha(I:L2.Inv X Z Y H s)(d:H e=ax (.ext φ)):L2.Inv X Z Y (OQ H e) s:=by
 have:=I.un (t':=s.toks) (H':=OQ H e) ⟨λb u z _ _ _=>z,λb u z _ _ _=>⟨u.slots,z⟩,λb u z q _=>?_,λb u z _=>⟨u,z⟩,λb xs z=>?_,λb u v z=>?_,λb ps z=>⟨#[],?_⟩⟩ ?_
 .exact this
 .by_cases y:b=e
  .rw[y];exact pZ
  .rw[iS y];exact q
 .rw[iS (λy=>by rw[y,d]at z;cases z)];exact z
 .rw[iS (λy=>by rw[y,d]at z;cases z)];exact z
 .rw[iS (λy=>by rw[y,d]at z;cases z),z];simp
 .intro a u z
  have y:a≠e:=λy=>by rw[y,pZ]at z;cases z
  rw[iS y]at z;exact(I.Vp a u z).Ya (λb w _ q=>q) (λb q=>by rw[iS (λw=>by rw[w,d]at q;cases q)];exact q) λb xs q=>by rw[iS (λw=>by rw[w,d]at q;cases q)];exact q
end
def tP(C:TM)(sp:Sp)(E:XK)(ta:TA):TS:=λ_ d H=>ta d H λvs b=>vs.length<=T8/\∀e,b e=CL->sp (.ref e::(vs++[])) (bz b e (.ext (EI C e))) (λv a=>v=.VX/\∃p,a e=ax (.ext (Kq C e p))/\E (.ref C) (ax p) (OQ a e)) E0
theorem rM{K:cL}
  (hC:XC K C B fI) (X:K.lookup fI=ax oI) (iI:Wx K (.ref fI)=Ld) (FI:FnOk P w K mg base kS k fI fdI ps sp) (bI:Binds K fdI ps [])
  (hr:Wj (k+1) (gx (nU P w) P w K mg base N qual scope f cd A outer s0 H0 E).A)
  (hg:Gl (gx (nU P w) P w K mg base N qual scope f cd A outer s0 H0 E) x) (hm:mg x=ax (.ref C)) (ha:PA (gx (nU P w) P w K mg base N qual scope f cd A outer s0 H0 E) (L::es) ta)
  (J:(x==("__debug__":Str))=Tx:=by decide)
  (Z:Uh (L::es) (gx (nU P w) P w K mg base N qual scope f cd A outer s0 H0 E).env=(Tx,eval L (gx (nU P w) P w K mg base N qual scope f cd A outer s0 H0 E).env)::Uh es (gx (nU P w) P w K mg base N qual scope f cd A outer s0 H0 E).env:=by rfl)
  (F:(backTo Xw (Uh es (gx (nU P w) P w K mg base N qual scope f cd A outer s0 H0 E).env)).any (·.1)=Tx:=by rfl):
  PS (gx (nU P w) P w K mg base N qual scope f cd A outer s0 H0 E) (.Raise (ax (.Call (.Name x np) (L::es) [] Xw)) CL pos) (tP C sp E ta):=by
 intro j s σ H D I h;obtain⟨nm,qn,Nn,bs,sn,sub,ab,col,dd,k0,k1,k2,k3,k5,U,Vp,G⟩:=hC.obj;have a:=I.ok.mod.kin;have oC:=a _ _ U;have S:=Heap.Ns.of_isNs (PySem.W.isNs_of_in a Vp);have ni:=wx a S G;have oF:=a _ _ X;have T:=abC a (vb hC.base);refine uZ (nm:=nm) (q:=qn) (N:=Nn) (bs:=bs) (hdct:=Ld) (sn:=sn) (sub:=sub) (ab:=ab) (col:=col) (dd:=dd) (k0:=k0) (k1:=k1) (k2:=k2) (k3:=k3) (k5:=k5) Wv (by left) Wv (T.hasType Wv.hasBase) (I.ok.hd rfl)
  (by rw[Z];exact(UJ _).trans F) ni (Lz iI X) (mI I hg hm ⟨rfl,?_⟩ J)
 have go:=ha Xw j s σ H _ I h;rw[Z]at go⊢;refine Calls.evalArgs_plain (c9 go λd i ⟨vs,H1,g,r,hl,q⟩=>?_);refine⟨rfl,by rw[<-r.length];exact hl,g.bk _ _ oC,S.keeps g.bk,g.bk _ _ oF,T.keeps g.bk,λh' e l=>?_⟩;obtain⟨t,y,y2,y3⟩:=l.there;have hn:=vd g.Vp l.new;have Y:=q e hn;have O:=FU (t':=i.toks) (o:=.ext (EI C e)) g l.keeps l.new ⟨⟨_,t,y,rfl,rfl⟩,⟨_,y⟩,λh1 h2 ⟨f1,t1,z1,z2,z3⟩ hk=>⟨f1,t1,hk _ z1,z2,z3⟩⟩;have R:Vals (V.ref e::(vs++[])) (Tw.ref e::(d++[])):=.cons rfl (r.append .nil);have m:(Tw.ref e::d++[]).length=ps.length:=by have z:=R.length;rw[FI.len _ _ _ _ Y]at z;exact z.symm
 have n:s0.heap.get? e=CL:=by
  cases z:s0.heap.get? e with
  |none=>rfl
  |some o=>obtain⟨o',Q⟩:=g.base.there e o z (λy=>nomatch y);rw[l.new]at Q;cases Q
 have bi:=bI {heap:=h',gens:=i.gens,drawn:=i.drawn,toks:=i.toks,os:=i.os} (Tw.ref e::d) O.Zm m;rw[VV]at bi;refine YC (WN (FI.run _ (gx (nU P w) P w K mg base N qual scope f cd A outer s0 H0 E).stack _ _ ⟨Tw.ref e::d,[]⟩ (Tw.ref e::(d++[])) _ _ E0 (hr.make C d []) (O.agH.make C d []) bi R Y) λr s' b=>?_);cases r with
 |error e=>exact b.elim
 |ok fl=>
  cases fl with
  |ret u=>obtain⟨v,H',M,rv,ev,p,hE,q3⟩:=O.after b;subst ev;obtain⟨⟨fs,a0,g1,g2,g3⟩,_,_⟩:=(show V9 _ _ H' s'.heap e (.ext (Kq C e p))from M.Vp e _ hE);refine⟨rv,_,M.Zm _ _ U,g1,rfl,⟨fs,rfl,g3⟩,?_⟩;exact HD (hd:=CL) (Ha M hE) ⟨_,_,g1,rfl,rfl,rfl,g2,g3⟩ n (λT z=>nomatch z) pZ (λT z=>nomatch z) q3
  |next=>exact False.elim b
  |brk=>exact False.elim b
  |cont=>exact False.elim b
end L9
namespace L9
open PySem PySem.Spec PySem.W PyProof.Rows L2 L3 L4
section
variable{prog:Ug}{w:Ux}{A:Ut}{E:Tw->TK->Prop}{h:Heap}{g:Array Yv}{d:acO}{t:Nat}{os:abk}{a C:TM}{o:Obj}{K:cL}{od:cv Obj}{name:Str}{v:Tw}
  {n1 q1:Str} {N1:TM} {b1 m1:ck Tw} {d1:Bool} {s1:ck Str} {u1:ck Tw} {a1:Bool} {c1:cv Bool} {x1:cv TM} {i0 i1 i2 i3 i5:cv Tw} {Z:String}
theorem wg(X:K.In h)(I:WX h a o C od)(b:findObj K C od name=ax (.value v))
  (k:Q (.done (.ret v)) ⟨h,g,d,t,os⟩):wpAny (model prog w) A (Um.«object.__getattribute__» ⟨[.ref a,.str name tk],[]⟩) Q E ⟨h,g,d,t,os⟩:=by
 have f:=I.type (M:=model prog w);have e:=looks_find (M:=model prog w) X I b;refine OK (TR (OK (TR (OK (f.at (OK (e.at ?_)))))));exact TR k
theorem zv(X:K.In h)(I:WX h a o C od)(n:h.get? C=ax (excClassObj n1 q1 C N1 b1 m1 d1 s1 u1 a1 c1 x1 i0 i1 i2 i3 i5 Z))(m:m1.contains (.type "BaseException")=Ld)
  (f:findIn K (.ref C) "__getattribute__"=ax (ax (.builtin "BaseException.__getattribute__"))) (e:findIn K (.ref C) "__getattr__"=ax CL) (l:findObj K C od name=ax (.value v)) (j:handedIn v=Ld)
  (k:Q v ⟨h,g,d,t+1,os⟩):wpAny (model prog w) A (getAttr (.ref a) name expr) Q E ⟨h,g,d,t,os⟩:=by
 have y:=Wm.ga.bind (.ref a);have b:(Tw.builtin "BaseException.__getattribute__"==Tw.builtin "object.__getattribute__")=Tx:=by left
 have u:(onTheHeap (Tw.ref C)&&Tw.builtin "BaseException.__getattribute__"==Tw.builtin "object.__getattribute__")=Tx:=by rw[b];rfl
 have r:=I.type (M:=model prog w);have q:=looks_findIn (M:=model prog w) X f;have p:=looks_findIn (M:=model prog w) X e;unfold getAttr getAttrBy
 repeat (any_goals (first|assumption|specialize r.at ?_|specialize q.at ?_|specialize p.at ?_|wp_step))
 rw[show(expr&&onTheHeap (Tw.builtin "BaseException.__getattribute__"))=Tx from by cases expr<;>rfl,ar Tz];unfold boundAndCalled
 repeat (any_goals (first|assumption|wp_step))
 refine Vo Wm.ga.plain F.entry_bexc_ga (qr n m I.at_ I.cls (wg X I l ?_));have i:=handedOut_of j;show wpAny _ _ (handedOut v) _ _ _;rw[i];exact TR k
end
def uz(K:cL)(ta:TE)(f:Str):TE:=λb H Q=>ta b H λx a=>∃e ob C m p fs v,x=.ref e/\a e=ax (.frz ob (.own e))/\ob.cls=.ref C/\ob.dict=ax p/\notCls ob=Ld/\Xh K C m/\hasDictIn K C=Ld/\findIn K (.ref C) f=ax CL/\
 a p=ax (.xd fs)/\fs.lookup f=ax v/\Q v a
theorem oW(R:PE X o ta)(U:attributeBase o f X.env (eval o X.env)=eval o X.env):PE X (.Attribute o f pos) (uz X.K ta f):=by intro a s y H Q I h;refine ER U (c9 (R a s y H _ I h) λu k ⟨x,r,b,A,e,E,C,m,p,fs,v,Y,Z,T,S,hn,L,P,ha,M,l,q⟩=>?_);subst Y;obtain rfl:=A;have z:=(b.Vp e _ Z).1;obtain⟨mA,F,i⟩:=(show V9 X.prog X.w r k.heap p (.xd fs)from b.Vp p _ M);obtain⟨u',J,n⟩:=aa4.some_of (by rw[<-l];exact i f);obtain⟨B,N,O⟩:=Av F;obtain⟨_,_,_,_,_,_,_,_,_,_,_,_,_,_,_,_,G⟩:=L.cl;obtain⟨j,g,d,t,os⟩:=k;exact zv b.Zm (⟨z,T,hn,by rw[S];exact N⟩:WX j e E C (ax B)) (b.Zm _ _ G) L.be L.ga L.gt (findObj_own P ha rfl (by rw[O,J])) (Az n) ⟨v,r,b.tok _,n,q⟩
def oV(C:TM)(f:Str):Sp:=λvs H Q _=>∃e v,vs=[.ref e,v]/\LJ v/\H e=ax (.ext (EI C e))/\∀p,H p=CL->p≠e->Q .VX (bz (bz H e (.ext (Kq C e p))) p (.xd [(f,v)]))
def nw:D->Bool
 |.none=>Ld
 |.int i=>decide (i.natAbs.log2<1920)
 |_=>Tx
def fV(c f:Str)(fe:FE):FS:=λρ=>(fe ρ).bind λa=>(Res.U1 (jb a.2 a.1)).bind λd=>if nw d=Ld then .er ⟨c,[(f,d)]⟩else .bad
theorem Ad{K:cL}(N:T9 K T5 c=ax (ax (.ref C)))(M:EO K E te fe):SO K E (tP C (oV C f) E (i6 te ou)) (fV c f fe):=by
 intro B T O G H ρ D R w;refine M B T O G H ρ _ R (w.bind.imp λa h Z v S Y F J=>?_);obtain⟨d,I,h⟩:=h.U1;have dx:=gP F J I;by_cases r:nw d=Ld
 .rw[ak r]at h
  have k:LJ v/\∀(Q:bU) (U:Hp),DV Q K U v d:=by
   cases d with
   |none=>cases dx;exact⟨.inl rfl,λ_ _=>.VX⟩
   |int i=>cases dx;exact⟨.inr ⟨i,rfl,a6 r⟩,λ_ _=>.int i⟩
   |_=>cases r
  refine⟨by show 1<=T8;decide,λe hn=>⟨e,v,rfl,k.1,aF,λp A g=>⟨rfl,p,?_,?_⟩⟩⟩
  .rw[am (en g),aF]
  .have u:S p=CL:=by rw[am g]at A;exact A
   refine h (.ref C) (ax p) _ (λb o z=>?_) ⟨⟨C,rfl,N⟩,[(f,v)],λX q=>?_,λm P l=>⟨(λz=>nomatch z),?_⟩⟩
   .have j:=F.same b o z
    have t:b≠e:=λy=>by rw[y,hn]at j;cases j
    have L:b≠p:=λy=>by rw[y,u]at j;cases j
    rw[iS t,am L,am t,am t];exact j
   .cases q;rw[iS g,aF]
   .have n:(match m==f with|true=>ax d|false=>Xj m [])=ax P:=l
    cases hb:m==f with
    |true=>rw[hb]at n;cases n;refine⟨v,?_,k.2 _ _⟩;show(match m==f with|true=>ax v|false=>Xj m [])=ax v;rw[hb]
    |false=>rw[hb]at n;cases n
 .rw[ar r]at h;exact h.elim
end L9
namespace L3
open PySem PySem.Spec PyProof.Rows L2
mutual
def RK:lD->Bool
 |.tuple ds=>IT ds
 |.int _=>Ld
 |.str _=>Ld
 |.bool _=>Ld
 |.none=>Ld
 |_=>Tx
def IT:ck lD->Bool
 |[]=>Ld
 |d::r=>RK d&&IT r
end
section
variable{K:cL}{E:XK}{B:bU}{H0:Hp}{O Z:bU}{σ:L2.St}{H H':Hp}{ρ:aD}
theorem ET(h:XA K H a xs)(l:H a=ax (.lst ys)):XA K (λ_=>CL) a xs:=by
 rcases h with(h|⟨o,h⟩)|h
 .rw[l]at h;cases h
 .rw[l]at h;cases h
 .exact .inr h
mutual
theorem Ga(f:∀b,O b->¬Z b->∃ys,H b=ax (.lst ys)):∀{v:V} {d:D},DV Z K H v d->RK d=Ld->DV O K H v d
 |_,_,.VX,_=>.VX
 |_,_,.bl b,_=>.bl b
 |_,_,.int i,_=>.int i
 |_,_,.str x,_=>.str x
 |_,_,.tup (a:=a) h hs,e=>.tup ⟨h.1,λz=>by
   by_cases y:Z a
   .exact h.2 y
   .obtain⟨ys,q⟩:=f a z y;exact ET h.1 q⟩ (uB f hs e)
 |_,_,.lst h hs,e=>by cases e
theorem uB(a:∀b,O b->¬Z b->∃ys,H b=ax (.lst ys)):∀{vs:ck V} {ds:ck D},VH Z K H vs ds->IT ds=Ld->VH O K H vs ds
 |_,_,.nil,_=>.nil
 |_,_,.cons h hs,e=>by have d:=Bool.and_eq_true_iff.mp e;exact .cons (Ga a h d.1) (uB a hs d.2)
end
end
end L3
namespace PySem
section
variable{prog:Ug}{w:Ux}{A:Ut}{E:Tw->TK->Prop}{s:TK}
abbrev oi(a:Bool):Obj:={cls:=.type "set",dict:=CL,data:=.set #[] 0 (.fresh 0 0 a)}
abbrev yi(prog:Ug)(w:Ux)(s:TK)(n:Nat)(ns:ck Int)(h':Heap):Prop:=
 h'.SetOf (intKind prog w) s.heap.objs.size (λa=>(ZN (λi=>ns.getD i 0) n).any (·==a)) (ZN (λi=>ns.getD i 0) n).length/\
  (∀b o,b<s.heap.objs.size->s.heap.get? b=ax o->h'.get? b=ax o)
theorem tW{t:TM}{a:Array Tw}{ns:ck Int}{Q:Tw->TK->Prop}
  (X:A.handled=CL) (B:s.heap.IsTuple t a) (hi:ahL a.toList ns) (u:a.size+1<scanBound)
  (h:∀(h':Heap) (q:Nat),yi prog w s a.size ns h'->Q (.ref s.heap.objs.size) {s with heap:=h',toks:=q}):
  wpAny (model prog w) A (call (.type "set") [.ref t]) Q E s:=by
 obtain⟨c,tl,ajV⟩:=F.called_set.mro;have ag7:=F.called_set.made;have adV:=F.called_set.sub;refine YC (aaU ?_);show wpAny _ _ (callAny (.type "set") _) _ _ _;refine TR ⟨aat.quiet_builtin _ (by left),ahG F.entry_type_call ?_⟩;rw[Ut.under_plain (adF "set" [.ref t] []) rfl];have h1:=F.called_set.notType;have h2:=F.called_set.canCreate;have Y:=F.typeCall_set_1 (.ref t)
 repeat (any_goals (first|assumption|wp_step))
 refine WN (code_set_new_1 (.ref t) (E:=E) (Q₁:=λobj j=>∃d:Bool,obj=.ref s.heap.objs.size/\j={s with heap:=s.heap.push (oi d)}) λd=>⟨d,rfl,rfl⟩) λr j C=>?_
 match r,C with
 |.error e,C=>exact C
 |.ok (.ret obj),⟨d,e1,e2⟩=>
  subst e1 e2;have N:(s.heap.push (oi d)).get? s.heap.objs.size=ax (oi d):=c6 _ rfl;have hT:TK.TypeIs {s with heap:=s.heap.push (oi d)} (.ref s.heap.objs.size) "set":=⟨_,N,rfl⟩;have U:=F.called_set.init.lookup;have Z:=F.called_set.init.bind (.ref s.heap.objs.size)
  repeat (any_goals (first|assumption|wp_step))
  refine WN (Vo (R:=wants (λr g=>r=.none/\∃h' q,g={s with heap:=h',toks:=q}/\yi prog w s a.size ns h') E) F.called_set.init.plain F.entry_set_init (check_set_init_1 hT ?_)) λl g f=>?_
  .have m:(s.heap.push (oi d)).IsTuple t a:=B.push _
   have O:t<s.heap.objs.size:=by obtain⟨_,e,_⟩:=B;exact c5 e
   obtain⟨⟨aqz,L,alD,M⟩,G,p,S,n⟩:=id B;simp only at p n;subst p n;have aq0:(s.heap.push (oi d)).get? t=ax {cls:=.type "tuple",dict:=L,data:=.seq a S,slots:=M}:=cM _ G;have aox:=F.sub_tuple_set;have amQ:=F.sub_tuple_frozenset;have X9:(Tw.type "tuple"==Tw.type "dict")=Tx:=by decide
   unfold Um.«set.__init__» noKeywords Um.Frozenset.updateFrom;generalize hPI:pyIter=PI
   wp_walk
   subst hPI;refine Wd m ?_;refine OK (wpAny_runValue ?_);have H:A.in1.in1.in1.handled=CL:=by simp[X]
   have K:t≠(s.heap.push (oi d)).objs.size:=by rw[d4];exact Ui (Ww O)
   have I:s.heap.objs.size∉[(s.heap.push (oi d)).objs.size,t]:=by rw[d4];simp only[TL,TX,TY,or_false,not_or];exact⟨Ui (ZJ _),Vb O⟩
   have J:∀(i:Nat) (v:Tw),a[i]?=ax v->∃t,v=.int ((λi=>ns.getD i 0) i) t:=λi v T=>acW hi i v (by rw[Yl];exact T);refine ahM ((afl.tuple H _ t K a).toS) s.heap.objs.size I (λi=>ns.getD i 0) J u (a.size - 0) 0 _ (by ext) (Vd _)
    ⟨⟨_,c6 _ rfl,rfl,rfl⟩,m.push _⟩ ?hS0 ?hR
   case hS0=>
    exact ahN ((ahO (knd:=intKind prog w) d).setOf (cM _ N) (by unfold scanBound;ext)) (λ_=>rfl) rfl
   case hR=>
    intro P hm k;obtain⟨h',g',d',y,z⟩:=P;have eg:g'=s.gens:=hm.gens;have ed:d'=s.drawn:=hm.drawn;have eo:z=s.os:=hm.os;subst eg ed eo;show wpAny _ _ _ _ _ _;refine TR ?_;show wpAny _ _ (ret Tw.none) _ _ _;refine TR ⟨rfl,h',y,rfl,k,λb o u e=>?_⟩;exact hm.heap b o (by simp only[TL,TX,TY,or_false,not_or];exact⟨Ui u,by rw[d4];exact Ui (Ww u)⟩) (cM _ (cM _ e))
  .match l,f with
   |.error e,f=>exact f
   |.ok (.ret r),⟨e1,h',q,e2,k⟩=>
    subst e1 e2
    repeat (any_goals (first|assumption|wp_step))
    exact h _ _ k
end
end PySem
namespace PyProof.Rows
open PySem
section
variable{prog:Ug}{w:Ux}{A:Ut}{E:Tw->TK->Prop}{s:TK}
theorem wP(b:h.get? a=ax (seqObj "list" vs.toArray n)):∃e,(sortedHeap h a vs out).get? a=ax (seqObj "list" out e):=by have d:=get?_update_seq b (λ_=> #[]);exact⟨_,get?_update_seq (cM _ (cM _ d)) _⟩
theorem uR(d:b≠a)(e:h.get? b=ax o):(sortedHeap h a vs out).get? b=ax o:=
 (dt _ _ (en d)).trans (cM _ (cM _ ((dt _ _ (en d)).trans e)))
theorem xz{l:TM}{vs:ck Tw}{ns:ck Int}{Q:Tw->TK->Prop}(i:s.heap.IsTuple l vs.toArray)(t:IntsAre vs ns)(g:vs.length<64)
  (h:∀(a h':Heap) (out:Array Tw) (e:Nat) (d:ck Int),(∀b o,s.heap.get? b=ax o->a.get? b=ax o)->h'.get? a.objs.size=ax (seqObj "list" out e)->(∀b o,a.get? b=ax o->h'.get? b=ax o)->IntsAre out.toList d->d.Perm ns->d.Pairwise (·<=·)->Q (.ref a.objs.size) {s with heap:=h'}):
  wpAny (model prog w) A (call (.builtin "sorted") [.ref l]) Q E s:=by
 obtain⟨o,j,r,n,q⟩:=i;refine Calls.call_function_entry kind_sorted plain_sorted entry_sorted (args_sorted1 _) (OK (m:=checkCount "sorted" 1 1 _) (TR (OK (wpAny_collect_seq l (.inr rfl) j r q (λa k=>OK (wpAny_newList ?_)) (by rw[T3,W0];ext)))));have f:(a.push (seqObj "list" vs.toArray 0)).get? a.objs.size=ax (seqObj "list" vs.toArray 0):=c6 _ rfl;refine OK (Wz (Wh slot_list_sort ⟨_,f,rfl⟩ entry_list_sort (list_sort_tree f t g λout d y v u=>⟨_,rfl,TR ⟨_,rfl,?_⟩⟩) (args_list_sort _)));obtain⟨e,p⟩:=wP (out:=out) f;exact h a _ out e d k p (λb B z=>uR (Ui (c5 z)) (cM _ z)) y v u
end
end PyProof.Rows
namespace L9
open PySem PySem.Spec PyProof.Rows L2 L3
section
variable{K:cL}{E:XK}
def zc(ns:ck Int):Nat:=(ns.foldl step_dedup []).length
theorem tU(ns:ck Int):firstMet (λi=>ns.getD i 0) ns.length=ns.foldl step_dedup []:=by unfold firstMet;congr 1;refine List.ext_getElem (by simp) λi a b=>?_;simp at a;simp[a]
def Hm(K:cL):ck V->Hp->VK->Prop:=λxs H Q=>∃(a:TM) (b:ck Int),xs=[.ref a]/\XA K H a (b.map V.int)/\b.length<=1000/\∀S p,H p=CL->Q (.ref p) (bz H p (.set S (zc b)))
theorem ze(p:X.calm=Ld):Wn X (.type "set") (Hm X.K):=by
 intro g s v H xs y Q I r h;obtain⟨a,k,rfl,l,hn,q⟩:=h;obtain⟨u,rfl,j⟩:=iZ r;cases j;obtain⟨t,f,m,_⟩:=I.tuple l;have i:t.length=k.length:=by rw[<-f.length,Tv]
 refine tW (I.ok.hd p) m (by simpa using lO f) (by rw[T3,i];unfold scanBound;ext) λA z d=>?_;rw[T3,i]at d;obtain⟨d,n⟩:=d;rw[tU]at d;exact⟨.ref s.heap.objs.size,_,I.laid (λb o e=>n b o (c5 e) e) (TQ _) (show V9 X.prog X.w _ _ _ (.set _ _)from d),rfl,q _ _ (I.Vp.fresh (TQ _))⟩
def zb:ck V->Hp->VK->Prop:=λxs H Q=>∃(p:TM) (S:Int->Bool) (n:Nat),xs=[.ref p]/\H p=ax (.set S n)/\Q (.int n) H
theorem uP:Wn X (.builtin "len") zb:=by intro a s l H xs m Q I r h;obtain⟨p,S,n,rfl,d,q⟩:=h;obtain⟨u,rfl,b⟩:=iZ r;cases b;obtain⟨o,v,w,t,k,j,i,_,_,g,f,e⟩:=I.Vp p _ d;subst e;exact call_len_set k j i f (by unfold scanBound at g;ext) ⟨.int _,H,I.tok _,⟨_,rfl⟩,q⟩
def mr:ck D->cv RV
 |[.tuple ds]=>(match oy ds with
  |some a=>if a.length<=1000 then ax (.fz (.int (zc a)))else CL
  |none=>CL)
 |_=>CL
def l6(b:FA):FE:=λρ=>(b ρ).bind λa=>(Res.U1 (jX a.2 a.1)).bind λd=>(Res.U1 (mr d)).bind λrv=>.ok (rv.pv,a.2)
theorem zg(o:AO K E tl fl):EO K E (G2 zb (i6 (G2 (Hm K) tl) ou)) (l6 fl):=by
 intro B y O j H ρ Q R w;refine o B y O j H ρ _ R (w.bind.imp λa e v z C u i l=>?_);obtain⟨A,k,e⟩:=e.U1;obtain⟨rv,d,e⟩:=e.U1;have q:=mX i l k;unfold mr at d;split at d
 .split at d
  .rename_i f n
   split at d
   .rename_i hn
    cases d;cases q with
    |cons t r=>cases r;obtain⟨b,vs,rfl,g,m⟩:=AB t;rw[oJ m n]at g;refine⟨b,f,rfl,g.1,hn,λS p h=>⟨p,S,zc f,rfl,aF,?_⟩⟩;exact e v _ _ (u.trans (Ev.grow (aV h _))) (i.grow (aV h _)) (.int _)
   .cases d
  .cases d
 .cases d
theorem AG(b:fl ρ=.ok (ps,ρ1))(d:jX ρ1 ps=ax es)(a:mr es=ax rv):l6 fl ρ=.ok (rv.pv,ρ1):=by unfold l6;rw[b,fo];dsimp only;rw[d];show((Res.U1 (mr es)).bind _)=_;rw[a];rfl
theorem sB:Wn X (.builtin "sorted") (λxs H Q=>∃(p:TM) (ns:ck Int),xs=[.ref p]/\XA X.K H p (ns.map V.int)/\ns.length<64/\∀(l:TM) (a:ck Int),H l=CL->a.Perm ns->a.Pairwise (·<=·)->Q (.ref l) (bz H l (.lst (a.map V.int)))):=by
 intro g s z H xs A Q I r h;obtain⟨p,ns,rfl,n,w,q⟩:=h;obtain⟨u,rfl,k⟩:=iZ r;cases k;obtain⟨F,rv,pl,B⟩:=I.tuple n;have o:=rv.length;rw[Tv]at o;refine xz pl (lO rv) (by ext) λy C d e a t v f hi i m=>?_;have b:=i.length_eq;have j:=I.kept (t':=s.toks) t;refine⟨.ref y.objs.size,_,j.laid f (TQ _) ?_,rfl,q _ a (j.Vp.fresh (TQ _)) i m⟩;refine⟨?_,d.toList,e,kO hi,v⟩;rw[Tv,b];have:(64:Nat)<=T8:=by decide
 ext
theorem ue:Wn X (.builtin "sorted") (λxs H Q=>(∃(p:TM) (ns:ck Int),xs=[.ref p]/\XG X.K H p (ns.map V.int)/\ns.length<64/\∀(l:TM) (a:ck Int),H l=CL->a.Perm ns->a.Pairwise (·<=·)->Q (.ref l) (bz H l (.lst (a.map V.int))))\/
  (∃(p:TM) (ns:ck Int),xs=[.ref p]/\XA X.K H p (ns.map V.int)/\ns.length<64/\∀(l:TM) (a:ck Int),H l=CL->a.Perm ns->a.Pairwise (·<=·)->Q (.ref l) (bz H l (.lst (a.map V.int))))):=L2.Wn.or uy sB
def mh:ck D->cv RV
 |[.tuple ds]=>(match oy ds with
  |some a=>if a.length<64 then ax (.ow ((jv a).map .int))else CL
  |none=>CL)
 |ds=>tQ ds
theorem v6:yg K (λxs H Q=>(∃(p:TM) (ns:ck Int),xs=[.ref p]/\XG K H p (ns.map V.int)/\ns.length<64/\∀(l:TM) (b:ck Int),H l=CL->b.Perm ns->b.Pairwise (·<=·)->Q (.ref l) (bz H l (.lst (b.map V.int))))\/
  (∃(p:TM) (ns:ck Int),xs=[.ref p]/\XA K H p (ns.map V.int)/\ns.length<64/\∀(l:TM) (b:ck Int),H l=CL->b.Perm ns->b.Pairwise (·<=·)->Q (.ref l) (bz H l (.lst (b.map V.int))))) mh:=by
 intro O H xs ds rv Q n f e q;unfold mh at e;split at e
 .split at e
  .rename_i ns h
   split at e
   .rename_i hn
    cases e;cases f with
    |cons k j=>cases j;obtain⟨a,vs,rfl,g,m⟩:=AB k;rw[oJ m h]at g;refine .inr ⟨a,ns,rfl,g.1,hn,λl b i d r=>?_⟩;have o:=nj (d.trans (jE ns).symm) r (fR ns);subst o;exact q.new (pE _) l i
   .cases e
  .cases e
 .exact .inl (Ah O H xs ds rv Q n f e q)
theorem Ni:UK "set"=ax (.type "set"):=by left
end
end L9
namespace L9
open PySem PySem.W PyProof.Rows Builtin Builtin.ObjectAttr
section
variable{prog:Ug}{w:Ux}{A:Ut}{K:Frag}{B C x p:TM}{s:TK}{R:aeE->TK->Prop}{cd:ClassData}{name:Str}{Z:Tok}{v:Tw}{fs:Array Tw}{m:Str->cv Tw}{ns:ck Str}
theorem Da(X:K.In s.heap)(j:clsIn K C=ax cd)(hm:cd.mro=.ref C:: .ref B::zF)(hd:cd.hasDict=Ld)(hn:findIn K (.ref C) name=ax CL)(l:s.heap.get? x=ax ⟨.ref C,ax p,.fields fs,#[]⟩)(z:∃od,s.heap.get? p=ax od)(t:s.heap.Ns1 p m)(n:Within m ns)(J:ns.length<1000)
  (r:∀h' tk',h'.Ns1 p (λy=>if y=name then ax v else m y)->(∀b o,b≠p->s.heap.get? b=ax o->h'.get? b=ax o)->R (.ok (.ret .none)) {s with heap:=h',toks:=tk'}):
  codeAny (model prog w) A (.call (.builtin "object.__setattr__") ⟨[.ref x,.str name Z,v],[]⟩) R s:=by
 obtain⟨od,e⟩:=z;have I:InstAt s.heap x ⟨.ref C,ax p,.fields fs,#[]⟩ C (ax od):=⟨l,rfl,rfl,e⟩;have d:=aaV;have sub:Looks (model prog w) s.heap (isInstance (.ref x) (.type "object")) Ld:=I.type.andThen (looks_mroIn X (by unfold mroIn;rw[j,acV,hm,ar (by simp)];simp));refine Vo d.slot.plain d.entry (@check_slot (model prog w) _ _ s "object.__setattr__" "object" "__setattr__" (.ref x) [.str name Z,v] [] _ d.kind d.split sub (d.args (.ref x) (.str name Z) v) ?_);have g:Looks (model prog w) s.heap (mroOf (.ref C)) cd.mro:=(looks_clsIn X j).andThen .now;rw[osa_eq,refuse_eq];refine OK (OK (I.type.here (OK (g.here ?_))));rw[hm,Za,Za,Z6.passes];refine TR (OK (I.type.here (OK ((looks_findIn X hn).here (OK (TR ?_))))));show wpAny _ _ (storeInOwnDict (.ref x) (.ref C) (.str name Z) name v _) _ _ _;unfold storeInOwnDict;refine OK (TR (OK ?_));unfold ownDictForStores instanceDict;refine OK (abA l (OK ((looks_clsIn X j).here ?_)));rw[hd,ar (by decide)];refine TR ?_;show wpAny _ _ (storeInDict p (.str name Z) name v) _ _ _;unfold storeInDict newKeyGuard;refine OK (TR (OK (wpAny_nsSet1 t λh' a q=>?_)));obtain⟨H,E,F,f,h,i⟩:=a.count (Within.cons name v n);refine OK (agc f (by rw[h];exact agd (UH i (by rw[TJ,W0];ext))) ?_);refine TR (r h' _ a λb G k u=>?_);exact(q.2 b k).trans u
theorem BW{E:Tw->TK->Prop}{Q:Unit->TK->Prop}(X:K.In s.heap)(j:clsIn K C=ax cd)(hm:cd.mro=.ref C:: .ref B::zF)(hd:cd.hasDict=Ld)(d:findIn K (.ref C) "__setattr__"=ax (ax (.builtin "object.__setattr__")))(hn:findIn K (.ref C) name=ax CL)(e:s.heap.get? x=ax ⟨.ref C,ax p,.fields fs,#[]⟩)(k:∃od,s.heap.get? p=ax od)(h:s.heap.Ns1 p m)(f:Within m ns)(i:ns.length<1000)
  (g:∀h' tk',h'.Ns1 p (λy=>if y=name then ax v else m y)->(∀b o,b≠p->s.heap.get? b=ax o->h'.get? b=ax o)->Q () {s with heap:=h',toks:=tk'}):
  wpAny (model prog w) A (setAttr (.ref x) name v) Q E s:=by
 obtain⟨od,a⟩:=k;exact set_plain X (⟨e,rfl,rfl,a⟩:InstAt s.heap x ⟨.ref C,ax p,.fields fs,#[]⟩ C (ax od)) d (Da (s:={s with toks:=s.toks+1}) X j hm hd hn e ⟨od,a⟩ h f i g)
end
open PySem.Spec L2
section
variable{X:Cx}{B C fI:TM}{Z:Pos}
def Kv(C:TM)(f:Str)(ta d:TE):TS:=λD a H=>d a H λv g=>ta a g λx b=>∃e p fs,x=.ref e/\b e=ax (.ext (Kq C e p))/\b p=ax (.xd fs)/\fs.length<1000/\D.nx a (bz b p (.xd ((f,v)::fs)))
theorem Ar{fs:ck (Str×V)}{a:Str->cv Tw}(h:∀f,aa4 (fs.lookup f) (a f)):aeA a (fs.map (·.1)):=λy b=>by
 have:=h y;cases q:fs.lookup y with
 |none=>
  rw[q]at this;cases z:a y with
  |none=>exact a7 z b
  |some u=>rw[z]at this;exact this.elim
 |some v=>exact TZ.mpr ⟨(y,v),Vq q,rfl⟩
theorem Bg{o d:Ue}{f:Str}{ta Q:TE}{l:Pos}(T:XC X.K C B fI)(hn:T6 X.K (.ref C) f=ax CL)(ha:PE X o ta)(hv:PE X d Q)(hs:X1 d (ax (.Attribute o f l)) Z.line X.env=pure Tx):PS X (.Assign [.Attribute o f l] d Z) (Kv C f ta Q):=by
 intro m s G H D I h;refine aan (c9 (hv m s G H _ I h) λu Y ⟨v,H1,I1,rv,q⟩=>c9 (ha m Y G H1 _ I1 q) λov R ⟨x,F,t,rx,e,p,A,ex,hE,j,hl,q2⟩=>?_) hs;subst ex;obtain rfl:ov=Tw.ref e:=rx;obtain⟨⟨fs,a0,g1,g2,g3⟩,_,gk⟩:=(show V9 X.prog X.w F R.heap e (.ext (Kq C e p))from t.Vp e _ hE);obtain⟨mA,S,r⟩:=(show V9 X.prog X.w F R.heap p (.xd A)from t.Vp p _ j);obtain⟨nm,q',N,bs,sn,sub,ab,col,dd,k0,k1,k2,k3,k5,lk,Vp,hin⟩:=T.obj;obtain⟨cd,hc,M,P⟩:∃cd,W4 X.K C=ax cd/\cd.mro=.ref C:: .ref B::zF/\cd.hasDict=Ld:=by unfold W4;rw[lk];exact⟨_,rfl,rfl,rfl⟩
 refine BW (ns:=A.map (·.1)) t.Zm hc M P T.sa hn g1 (by obtain⟨o,_,_,z,_⟩:=S;exact⟨o,z⟩) S (Ar r) (by rw[Tv];exact hl) λh' L U E=>?_;refine⟨G,_,?_,q2⟩;have O:∃o,h'.get? p=ax o:=by obtain⟨o,_,_,z,_⟩:=U;exact⟨o,z⟩
 refine t.un (h':=h') (t':=L) (H':=bz F p (.xd ((f,v)::A))) ⟨λb o z n _ _=>E b o (λy=>by rw[y,j]at n;cases n) z,λb o z n _ _=>⟨o.slots,E b o (λy=>by rw[y,j]at n;cases n) z⟩,λb o z n _=>?_,λb o z _=>?_,λb xs z=>?_,λb o u z=>?_,λb ps z=>⟨#[],?_⟩⟩ ?_
 .rw[am (λy=>by rw[y,j]at n;cases n)];exact n
 .by_cases y:b=p
  .subst y;exact O
  .exact⟨o,E b o y z⟩
 .rw[am (λy=>by rw[y,j]at z;cases z)];exact z
 .rw[am (λy=>by rw[y,j]at z;cases z)];exact z
 .rw[am (λy=>by rw[y,j]at z;cases z),z];simp
 .intro a o z
  by_cases J:a=p
  .subst J
   rw[aF]at z;cases z;refine⟨_,U,λg=>?_⟩;show aa4 (match g==f with|true=>ax v|false=>Xj g A) (if g=f then ax u else mA g);cases i:g==f with
   |true=>rw[ak (beq_iff_eq.mp i)];exact rv
   |false=>rw[ar (λw=>by rw[beq_iff_eq.mpr w]at i;cases i)];exact r g
  .rw[am J]at z
   have own:∀b,F b=ax (.own a)->b≠p:=λb y k=>by rw[k,j]at y;cases y
   refine(t.Vp a o z).Ya (λb w i y=>E b w (λk=>?_) y) (λb y=>by rw[am (own b y)];exact y) λb xs y=>by rw[am (λk=>by rw[k,j]at y;cases y)];exact y
   rcases i with i|i
   .exact J (i.symm.trans k)
   .exact own b i k
end
open L3 L4
def oX(C:TM)(f g:Str):Sp:=λvs H Q _=>∃e v u,vs=[.ref e,v,u]/\LJ v/\LJ u/\H e=ax (.ext (EI C e))/\∀p,H p=CL->p≠e->Q .VX (bz (bz H e (.ext (Kq C e p))) p (.xd [(g,u),(f,v)]))
def fT(c f g:Str)(fa:FA):FS:=λρ=>(fa ρ).bind λa=>(Res.U1 (jX a.2 a.1)).bind λds=>match ds with
 |[d,e]=>if nw d=Ld/\nw e=Ld then .er ⟨c,[(g,e),(f,d)]⟩else .bad
 |_=>.bad
theorem Ba{K:cL}{O:bU}{H:Hp}{v:V}{d:D}(dx:DX O K H v d)(a:nw d=Ld):LJ v/\∀(b:bU) (H':Hp),DV b K H' v d:=by
 cases d with
 |none=>cases dx;exact⟨.inl rfl,λ_ _=>.VX⟩
 |int i=>cases dx;exact⟨.inr ⟨i,rfl,a6 a⟩,λ_ _=>.int i⟩
 |_=>cases a
theorem wR{K:cL}{E:XK}{c f g:Str}{C:TM}{ta:TA}{fa:FA}(P:(f==g)=Tx)(Q:T9 K T5 c=ax (ax (.ref C)))(ha:AO K E ta fa):SO K E (tP C (oX C f g) E ta) (fT c f g fa):=by
 intro B U O J H ρ D R w;refine ha B U O J H ρ _ R (w.bind.imp λa h Z vs T Y I M=>?_);obtain⟨ds,L,h⟩:=h.U1;have dx:=mX I M L
 match ds,dx,h with
 |[d,d2],.cons (a:=v) h1 (.cons (a:=u) h2 .nil),h=>
  dsimp only at h;by_cases r:nw d=Ld/\nw d2=Ld
  .rw[ak r]at h
   have F:=Ba h1 r.1;have n:=Ba h2 r.2;refine⟨by show 2<=T8;decide,λe hn=>⟨e,v,u,rfl,F.1,n.1,aF,λp G k=>⟨rfl,p,?_,?_⟩⟩⟩
   .rw[am (en k),aF]
   .have A:T p=CL:=by rw[am k]at G;exact G
    refine h (.ref C) (ax p) _ (λb o z=>?_) ⟨⟨C,rfl,Q⟩,[(g,u),(f,v)],λX q=>?_,λj S l=>⟨(λz=>nomatch z),?_⟩⟩
    .have m:=I.same b o z
     have t:b≠e:=λy=>by rw[y,hn]at m;cases m
     have N:b≠p:=λy=>by rw[y,A]at m;cases m
     rw[iS t,am N,am t,am t];exact m
    .cases q;rw[iS k,aF]
    .have i:(match j==g with|true=>ax d2|false=>(match j==f with|true=>ax d|false=>Xj j []))=ax S:=l
     show∃x,(match j==g with|true=>ax u|false=>(match j==f with|true=>ax v|false=>Xj j []))=ax x/\_;cases hb:j==g with
     |true=>rw[hb]at i;cases i;exact⟨u,rfl,n.2 _ _⟩
     |false=>
      rw[hb]at i;dsimp only at i⊢;cases hb2:j==f with
      |true=>rw[hb2]at i;cases i;exact⟨v,rfl,F.2 _ _⟩
      |false=>rw[hb2]at i;cases i
  .rw[ar r]at h;exact h.elim
 |[],_,h=>exact h.elim
 |[_],_,h=>exact h.elim
 |_::_::_::_,_,h=>exact h.elim
end L9
namespace LD
open PySem PyProof.Rows L2 L3
mutual
def kd:lD->Bool
 |.none=>Ld
 |.int _=>Ld
 |.str x=>lD.strOk x
 |.tuple xs=>vW xs
 |_=>Tx
def vW:ck lD->Bool
 |[]=>Ld
 |x::r=>kd x&&vW r
end
def GC:lD->Bool
 |.tuple xs=>vW xs&&decide ((lD.tuple xs).depth<=8)
 |_=>Tx
mutual
theorem uf:∀d:lD,kd d=Ld->d.canLay0=Ld
 |.none,_=>rfl
 |.int _,_=>rfl
 |.str x,h=>by unfold lD.canLay0;unfold kd at h;exact h
 |.tuple xs,h=>by unfold lD.canLay0;unfold kd at h;exact yB xs h
 |.bool _,h|.list _,h|.dict _,h=>by simp[kd]at h
theorem yB:∀xs:ck lD,vW xs=Ld->lD.canLayAll0 xs=Ld
 |[],_=>rfl
 |x::r,h=>by unfold vW at h;rw[Tu]at h;unfold lD.canLayAll0;rw[uf x h.1,yB r h.2];rfl
end
mutual
theorem C3:∀d e:lD,kd d=Ld->kd e=Ld->lD.eqv d e=Ld->d=e
 |.none,e,_,h,q=>by cases e<;>simp_all [kd,lD.eqv]
 |.int i,e,_,h,q=>by cases e<;>simp_all [kd,lD.eqv]
 |.str x,e,_,h,q=>by cases e<;>simp_all [kd,lD.eqv]
 |.tuple xs,e,g,h,q=>by
  cases e with
  |tuple a=>rw[lD.eqv]at q;unfold kd at g h;rw[za xs a g h q]
  |_=>simp_all [kd,lD.eqv]
 |.bool _,_,h,_,_|.list _,_,h,_,_|.dict _,_,h,_,_=>by simp[kd]at h
theorem za:∀xs ys:ck lD,vW xs=Ld->vW ys=Ld->lD.eqvAll xs ys=Ld->xs=ys
 |[],[],_,_,_=>rfl
 |[],_::_,_,_,q=>by simp[lD.eqvAll]at q
 |_::_,[],_,_,q=>by simp[lD.eqvAll]at q
 |x::xs,y::ys,g,h,q=>by unfold vW at g h;rw[lD.eqvAll]at q;rw[Tu]at g h q;rw[C3 x y g.1 h.1 q.1,za xs ys g.2 h.2 q.2]
end
theorem KC[Decidable (d=e)](hd:kd d=Ld)(a:kd e=Ld):lD.eqv d e=decide (d=e):=by
 by_cases q:d=e
 .subst q;rw[a4 rfl];exact SeqAt.eqv_refl d (uf d hd)
 .rw[a5 q]
  cases z:lD.eqv d e with
  |false=>rfl
  |true=>exact a7 (C3 d e hd a z) q
theorem gK(h:GC d=Ld):kd d=Ld/\d.depth<=8:=by
 cases d with
 |tuple xs=>unfold GC at h;rw[Tu]at h;exact⟨by unfold kd;exact h.1,a6 h.2⟩
 |_=>simp[GC]at h
mutual
def ve(w:Ux):lD->Int
 |.none=>reduceHash 0xFCA86420
 |.int i=>hashInt i
 |.str x=>hashStr w x
 |.tuple xs=>reduceHash (Um.Tuple.tupleHashOf (pd w xs))
 |_=>0
def pd(w:Ux):ck lD->ck Int
 |[]=>[]
 |x::r=>ve w x::pd w r
end
mutual
def PD:lD->Nat
 |.tuple xs=>FH xs+1
 |_=>1
def FH:ck lD->Nat
 |[]=>0
 |x::r=>PD x+FH r
end
section
variable{prog:Ug}{w:Ux}{E:Tw->TK->Prop}
mutual
theorem xI:∀(d:lD) (v:Tw) (as:ck TM) (A:Ut) (s:TK) (Q:Int->TK->Prop),kd d=Ld->abw s.heap v d as->A.units+d.depth<cLine->Q (ve w d) {s with toks:=s.toks+PD d}->wpAny (model prog w) A (pyHash v) Q E s
 |.none,_,_,A,s,Q,_,r,hu,h=>by cases r;exact abl (T:= "NoneType") rfl F.slot_NoneType_hash F.entry_NoneType_hash (F.args_NoneType_hash_1 _) (age _) (.inr (by ext)) (OK (TR (OK (wpAny_mkInt (TR ⟨_,_,rfl,h⟩)))))
 |.int i,_,_,A,s,Q,_,r,_,h=>by cases r;exact afT h
 |.str x,_,_,A,s,Q,_,r,_,h=>by cases r;exact afU h
 |.tuple xs,_,_,A,s,Q,hk,r,hu,h=>by
  cases r with
  | @tuple a o vs n _ _ h1 h2 h3 h4=>
   refine abl (T:= "tuple") ⟨_,h1,h2⟩ F.slot_tuple_hash F.entry_tuple_hash (F.args_tuple_hash_1 _) (age _) (.inr (by ext)) ?_;show wpAny _ _ (Um.Tuple.tupleItemsOf (.ref a)>>=_) _ _ s;refine OK (wpAny_tupleItemsOf h1 h3 ?_);refine OK ?_;rw[<-acn];unfold kd at hk;refine rR xs vs.toList _ A.in1 s #[] _ hk h4 (by simp only[lD.depth,Ut.in1_units]at hu⊢;ext) λb e=>?_;show wpAny _ _ (retInt (Um.Tuple.tupleHashOf b.toList)) _ _ _;rw[e];refine OK (wpAny_mkInt (TR ⟨_,_,rfl,?_⟩));unfold ve PD at h
   simpa [afq]using h
 |.bool _,_,_,_,_,_,h,_,_,_|.list _,_,_,_,_,_,h,_,_,_|.dict _,_,_,_,_,_,h,_,_,_=>by simp[kd]at h
theorem rR:∀(xs:ck lD) (vs:ck Tw) (as:ck TM) (A:Ut) (s:TK) (b:Array Int) (Q:Array Int->TK->Prop),vW xs=Ld->Y7 s.heap vs xs as->A.units+lD.depthAll xs<cLine->
  (∀b':Array Int,b'.toList=b.toList++pd w xs->Q b' {s with toks:=s.toks+FH xs})->
  wpAny (model prog w) A (forIn vs b λx r=>do let h<-pyHash x;pure PUnit.unit;pure (ForInStep.yield (r.push h))) Q E s
 |[],_,_,A,s,b,Q,_,x,_,h=>by cases x;exact TR (h b (by simp[pd]))
 |k::xs,_,_,A,s,b,Q,hk,x,hu,h=>by
  cases x with
  |cons d a=>
   unfold vW at hk;simp only[Tu,lD.depthAll]at hk hu;rw[Ym];refine OK (OK (xI k _ _ A s _ hk.1 d (by ext) ?_));refine OK (TR (TR ?_));refine rR xs _ _ A _ _ Q hk.2 a (by ext) λb' e=>?_;have:=h b' (by simp[e,pd]);unfold FH at this
   simpa [afq]using this
end
theorem uO:∀(n:Nat) (d:lD) (v:Tw) (as:ck TM) (A:Ut) (s:TK) (Q:Bool->TK->Prop),kd d=Ld->abw s.heap v d as->d.depth<=n->Q Ld s->wpAny (model prog w) A (eqIsQuiet n v) Q E s
 |n,.none,_,_,A,s,Q,_,r,_,h=>by cases r;rw[Z7 _ rfl];exact TR h
 |n,.int i,_,_,A,s,Q,_,r,_,h=>by cases r;rw[Z7 _ rfl];exact TR h
 |n,.str i,_,_,A,s,Q,_,r,_,h=>by cases r;rw[Z7 _ rfl];exact TR h
 |0,.tuple xs,_,_,A,s,Q,hk,r,hn,h=>by simp only[lD.depth]at hn;ext
 |n+1,.tuple xs,_,_,A,s,Q,hk,r,hn,h=>by
  cases r with
  | @tuple a o vs m _ _ h1 h2 h3 h4=>
   have g:s.TypeIs (.ref a) "tuple":=⟨_,h1,h2⟩;simp only[lD.depth]at hn;unfold eqIsQuiet;refine OK (wpAny_specialOf g F.slot_tuple_eq.lookup ?_);refine OK (af6 g isSubtype_tuple_tuple ?_);simp only[aaO,WT,if_false];refine OK (V3 h1 h3 ?_);refine OK ?_;rw[<-acn];unfold kd at hk;refine wpAny_forIn_list _ (λb r e=>r.1=CL/\e=s/\∃ys bs,vW ys=Ld/\Y7 s.heap b ys bs/\lD.depthAll ys<=n) _ ?_ ?_ _ _ ⟨rfl,rfl,xs,_,hk,h4,by ext⟩
   .rintro v b r e ⟨f,rfl,ys,bs,k1,k2,k3⟩
    cases k2 with
    | @cons _ _ y ys' _ _ g1 g2=>unfold vW at k1;simp only[Tu,lD.depthAll]at k1 k3;refine OK (uO n y v _ A e _ k1.1 g1 (by ext) ?_);simp only[aaO,WT,if_false];exact TR ⟨rfl,rfl,ys',_,k1.2,g2,by ext⟩
   .rintro⟨k,j⟩ e ⟨f,rfl,_⟩;simp only at f;subst f;exact TR h
 |_,.bool _,_,_,_,_,_,h,_,_,_|_,.list _,_,_,_,_,_,h,_,_,_|_,.dict _,_,_,_,_,_,h,_,_,_=>by simp[kd]at h
end
mutual
theorem sf{h h':Heap}{x:TM}{b:Obj}{es:Array Xr}{i:Nat}(e:h.get? x=ax b)(g:b.data=.dict es i)(f:Heap.SameBut x h h'):∀(d:lD) (v:Tw) (as:ck TM),kd d=Ld->abw h v d as->abw h' v d as
 |.none,_,_,_,r=>by cases r;exact .none
 |.int _,_,_,_,r=>by cases r;exact .int _ _
 |.str _,_,_,_,r=>by cases r;exact .str _ _
 |.tuple xs,_,_,k,r=>by
  cases r with
  | @tuple a o vs n _ _ h1 h2 h3 h4=>
   have j:a≠x:=by rintro rfl;rw[e]at h1;cases h1;rw[g]at h3;exact nomatch h3
   unfold kd at k;exact .tuple ((f.2 a j).trans h1) h2 h3 (pT e g f xs _ _ k h4)
 |.bool _,_,_,h,_|.list _,_,_,h,_|.dict _,_,_,h,_=>by simp[kd]at h
theorem pT{h h':Heap}{x:TM}{a:Obj}{es:Array Xr}{j:Nat}(b:h.get? x=ax a)(f:a.data=.dict es j)(e:Heap.SameBut x h h'):∀(ds:ck lD) (vs:ck Tw) (as:ck TM),vW ds=Ld->Y7 h vs ds as->Y7 h' vs ds as
 |[],_,_,_,r=>by cases r;exact .nil
 |d::ds,_,_,k,r=>by
  cases r with
  |cons i g=>unfold vW at k;rw[Tu]at k;exact .cons (sf b f e d _ _ k.1 i) (pT b f e ds _ _ k.2 g)
end
abbrev KD:={d:lD//GC d=Ld}
noncomputable instance kdDec:DecidableEq KD:=λ_ _=>Classical.propDecidable _
def BB(prog:Ug)(w:Ux):HeapKind prog w KD where
 is:=λh k a=>∃as,abw h (.ref a) k.1 as
 hash:=λk=>ve w k.1
 draws:=λk=>PD k.1
 room:=λA=>A.units+8<cLine
 inj:=λ⟨_,r⟩ ⟨_,f⟩=>Subtype.ext (abw.unique r _ _ f).1
 keeps:=λ{h h' k a d o es ep} ⟨as,r⟩ ho hd hs=>⟨as,sf ho hd hs k.1 _ _ (gK k.2).1 r⟩
 pyHash:=λ{A E s k a Q} hu ⟨as,r⟩ q=>xI k.1 _ as A s Q (gK k.2).1 r (by have:=(gK k.2).2;ext) q
 eqBool:=λ{A E s x y a b Q} hu ⟨as,r⟩ ⟨bs,f⟩ q=>SeqAt.eqAt_reads x.1 y.1 A s _ _ as bs r f (uf _ (gK x.2).1) (uf _ (gK y.2).1) (by have:=(gK x.2).2;ext) prog w E Q (by
  haveI:Decidable (x.1=y.1):=Classical.propDecidable _
  rw[KC (gK x.2).1 (gK y.2).1];by_cases e:x=y
  .rw[a4 e]at q;rw[a4 (ey Subtype.val e)];exact q
  .rw[a5 e]at q;rw[a5 λz=>e (Subtype.ext z)];exact q)
 quiet:=λ{A E s k a Q} ⟨as,r⟩ q=>uO 8 k.1 _ as A s Q (gK k.2).1 r (gK k.2).2 q
def Se(a:TM)(xs:ck (KD×TM×V))(w:Ux)(h:Heap):Prop:=
 (xs.length<=T8/\(a==aez)=Tx/\(xs.map (·.1)).Nodup)/\∃o es ep,h.get? a=ax o/\o.ExactDict/\o.data=.dict es ep/\Paired (λ(x:KD×TM×V) (e:Xr)=>e.hash=ve w x.1.1/\e.key=.ref x.2.1/\RelV x.2.2 e.val) xs es.toList
abbrev DkO(a:TM)(xs:ck (KD×TM×V)):HO:=.exw (Se a xs)
abbrev PrD(O:bU)(K:cL)(H:Hp):ck (KD×TM×V)->ck (D×D)->Prop:=
 Paired λx a=>x.1.1=a.1/\L3.DV O K H (.ref x.2.1) a.1/\L3.DV O K H x.2.2 a.2
end LD
namespace L10
open PySem L2 L3
inductive AV where
 |fz (d:D)
 |rf (i:Nat)
inductive SV where
 |fz (d:D)
 |rf (i:Nat)
 |tp (l:ck AV)
inductive Cell where
 |lst (xs:ck SV)
 |dct (Yc:ck (mP×SV))
 |obj (C:Str) (fs:ck (Str×SV))
 |dd (Yc:ck (D×D))
 |dead
abbrev gj:=ck Cell
abbrev dh:=ck (cv SV)
inductive RS(α:Type) where
 |ok (a:α) (ω:gj)
 |er (x:Xc) (ω:gj)
 |bad
def RS.bind(r:RS α)(f:α->gj->RS β):RS β:=match r with
 |.ok a ω=>f a ω
 |.er x ω=>.er x ω
 |.bad=>.bad
def Lv(α:ck TM)(ω:gj):bU:=λb=>∃(i:Nat) (c:Cell),α[i]?=ax b/\ω[i]?=ax c/\c≠Cell.dead
def ow(B:bU)(α:ck TM)(ω:gj):bU:=λb=>B b\/Lv α ω b
section
variable(O:bU)(K:cL)(H:Hp)(Z:ck TM)
def Sr(v:V):AV->Prop
 |.fz d=>DV O K H v d
 |.rf i=>∃a,Z[i]?=ax a/\v=.ref a
def MD(v:V):SV->Prop
 |.fz d=>DV O K H v d
 |.rf i=>∃a,Z[i]?=ax a/\v=.ref a
 |.tp l=>∃a xs,v=.ref a/\Yw O K H a xs/\Paired (Sr O K H Z) xs l
abbrev KL:ck V->ck SV->Prop:=Paired (MD O K H Z)
def SR(a:TM):Cell->Prop
 |.lst xs=>∃vs,H a=ax (.lst vs)/\KL O K H Z vs xs
 |.dct Yc=>∃ws:ck (mP×V),H a=ax (.dK ws)/\Paired (λ(p:mP×V) (q:mP×SV)=>p.1=q.1/\MD O K H Z p.2 q.2) ws Yc
 |.obj C fs=>∃Ca dx ws,T9 K T5 C=ax (ax (.ref Ca))/\H a=ax (.ins Ca dx ws)/\Paired (λ(p:Str×V) (q:Str×SV)=>p.1=q.1/\MD O K H Z p.2 q.2) ws fs
 |.dd Yc=>∃xs,H a=ax (LD.DkO a xs)/\LD.PrD O K H xs Yc
 |.dead=>True
def Cf(a:L2.St)(ρ:dh):Prop:=a.length=ρ.length/\∀(i:Nat) (x:SV),ρ[i]?=ax (ax x)->∃v,a[i]?=ax (ax v)/\MD O K H Z v x
end
structure aap(B:bU)(K:cL)(H:Hp)(α:ck TM)(ω:gj):Prop where
 len:α.length=ω.length
 nd:∀(i j:Nat) (a:TM),α[i]?=ax a->α[j]?=ax a->i=j
 bn:∀a,B a->H a≠CL
 ba:∀a,B a->∀i:Nat,α[i]?≠ax a
 al:∀(i:Nat) (a:TM),α[i]?=ax a->H a≠CL
 cel:∀(i:Nat) (a:TM) (c:Cell),α[i]?=ax a->ω[i]?=ax c->SR (ow B α ω) K H α a c
structure Evo(α:ck TM)(ω:gj)(H:Hp)(α':ck TM)(ω':gj)(H':Hp):Prop where
 pre:∀(i:Nat) (a:TM),α[i]?=ax a->α'[i]?=ax a
 kp:∀b o,H b=ax o->¬Lv α ω b->H' b=ax o
 lv:∀b,Lv α' ω' b->Lv α ω b\/H b=CL
section
variable{B O O':bU}{K:cL}{E:XK}{H H' Q M:Hp}{S X U R:ck TM}{T Y Z N:gj}{σ:L2.St}{ρ:dh}{v:V}
theorem Evo.refl:Evo S T H S T H:=⟨λ_ _ h=>h,λ_ _ h _=>h,λ_ h=>.inl h⟩
theorem Evo.trans(a:Evo S T H U Z Q)(b:Evo U Z Q R N M):Evo S T H R N M:=by
 have d:∀b o,H b=ax o->¬Lv S T b->¬Lv U Z b:=λb o h n z=>(a.lv b z).elim n λq=>by simp_all
 refine⟨λi p h=>b.pre i p (a.pre i p h),λp o h n=>b.kp p o (a.kp p o h n) (d p o h n),λp h=>?_⟩;rcases b.lv p h with h|h
 .exact a.lv p h
 .cases q:H p with
  |none=>simp_all
  |some o=>refine .inl (Classical.byContradiction λn=>?_);rw[a.kp p o q n]at h;cases h
def WS(K:cL)(E:XK)(B:bU)(H:Hp)(S:ck TM)(T:gj)(P:A->ck TM->gj->Hp->Prop):RS A->Prop
 |.ok a Y=>∀X H',Evo S T H X Y H'->aap B K H' X Y->P a X Y H'
 |.er x Y=>∀c dx X H',Evo S T H X Y H'->aap B K H' X Y->Rn K (ow B X Y) H' c dx x->E c dx H'
 |.bad=>False
theorem WS.from(e:Evo S T H U Z Q)(h:WS K E B H S T P r):WS K E B Q U Z P r:=by
 cases r with
 |ok a N=>exact λR M d b=>h R M (e.trans d) b
 |er x N=>exact λc dx R M d b=>h c dx R M (e.trans d) b
 |bad=>exact h
theorem WS.bind(h:WS K E B H S T P (r.bind k)):WS K E B H S T (λa U Z Q=>WS K E B Q U Z P (k a Z)) r:=by
 cases r with
 |ok a Z=>exact λU Q b _=>WS.from b h
 |er x Z=>exact h
 |bad=>exact h
theorem WS.imp(h:WS K E B H S T P r)(g:∀a X Y H',Evo S T H X Y H'->aap B K H' X Y->P a X Y H'->P' a X Y H'):WS K E B H S T P' r:=by
 cases r with
 |ok a Z=>exact λU Q d b=>g a U Z Q d b (h U Q d b)
 |er x Z=>exact h
 |bad=>exact h
theorem WS.now(s:aap B K H S T)(h:WS K E B H S T P (.ok a T)):P a S T H:=h S H .refl s
end
section
variable{B O O':bU}{K:cL}{E:XK}{H H' H1 H2:Hp}{α Z α1 α2:ck TM}{ω Y ω1 ω2:gj}{σ:L2.St}{ρ:dh}{v:V}
abbrev PQ(B:bU)(K:cL)(Q:VK):SV->ck TM->gj->Hp->Prop:=λx Z Y H'=>∀v,MD (ow B Z Y) K H' Z v x->Q v H'
def Og(K:cL)(C:Str)(fs:ck Str):Prop:=∃Ca,T9 K T5 C=ax (ax (.ref Ca))/\Cls K Ca/\∀f∈fs,nV K Ca f
end
section
variable{B O O':bU}{K:cL}{E:XK}{H H' H1 H2:Hp}{Y α' α1 α2:ck TM}{Z ω' ω1 ω2:gj}{σ:L2.St}{ρ:dh}{v:V}
theorem D4:∀{vs:ck V} {xs:ck β} {i:Nat} {x:β},Paired R vs xs->xs[i]?=ax x->∃v,vs[i]?=ax v/\R v x
 |_,_,_,_,.nil,e=>by simp at e
 |_,_,0,_,.cons h _,e=>by simp_all
 |_,_,i+1,x,.cons _ t,e=>by obtain⟨v,b,a⟩:=D4 t (by simpa using e);simp_all
abbrev Aq:=ck SV->gj->RS SV
def Mw(K:cL)(n:Nat)(F:Aq):Sp:=λvs H Q E=>vs.length=n/\∃(B:bU) (Y:ck TM) (Z:gj) (xs:ck SV),aap B K H Y Z/\KL (ow B Y Z) K H Y vs xs/\WS K E B H Y Z (PQ B K Q) (F xs Z)
end
inductive FlS where
 |nx (ρ:dh)
 |bk (ρ:dh)
 |ct (ρ:dh)
 |rt (x:SV)
abbrev HI:=dh->gj->RS FlS
def Pe(B:bU)(K:cL)(D:Ends):FlS->ck TM->gj->Hp->Prop
 |.nx ρ,α,ω,H=>∀σ,Cf (ow B α ω) K H α σ ρ->D.nx σ H
 |.bk ρ,α,ω,H=>∀σ,Cf (ow B α ω) K H α σ ρ->D.bk σ H
 |.ct ρ,α,ω,H=>∀σ,Cf (ow B α ω) K H α σ ρ->D.ct σ H
 |.rt x,α,ω,H=>∀v,MD (ow B α ω) K H α v x->D.rt v H
def Q1(K:cL)(E:XK)(t:TS)(g:HI):Prop:=
 ∀(B:bU) (a:L2.St) (H:Hp) (α:ck TM) (ω:gj) (ρ:dh) (D:Ends),aap B K H α ω->Cf (ow B α ω) K H α a ρ->WS K E B H α ω (Pe B K D) (g ρ ω)->t D a H
section
variable{B O O':bU}{K:cL}{E:XK}{H H' H1 H2:Hp}{X α' U α2:ck TM}{Y ω' Z ω2:gj}{σ:L2.St}{ρ:dh}{v:V}
def Mi(N:Nat)(g:HI):Aq:=λxs Y=>(g (xs.map ax++T1 (N - xs.length) CL) Y).bind λa Z=>match a with
 |.rt x=>.ok x Z
 |.nx _=>.ok (.fz .none) Z
 |_=>.bad
theorem DW{N:ck Str}{vs:ck V}{xs:ck SV}(h:KL O K H X vs xs):Cf O K H X (L2.start N vs) (xs.map ax++T1 (N.length - xs.length) CL):=by
 have e:vs.length=xs.length:=Paired.length h;unfold L2.start;refine⟨by simp_all,λi x a=>?_⟩;by_cases hi:i<xs.length
 .rw[Vc (by simp_all),TU]at a
  cases q:xs[i]? with
  |none=>rw[q]at a;cases a
  |some d=>rw[q]at a;cases a;obtain⟨v,b,f⟩:=D4 h q;refine⟨v,?_,f⟩;rw[Vc (by rw[Tv,e];exact hi),TU,b];rfl
 .rw[Vr (by rw[Tv];ext),WV]at a;split at a<;>cases a
theorem pJ{N:ck Str}{vs:ck V}{xs:ck SV}{g:HI}{t:TS}{Q:VK}{n:Nat}(e:Q1 K E t g)(h:Mw K n (Mi N.length g) vs H Q E):t {nx:=λ_ H'=>Q .VX H',rt:=Q} (L2.start N vs) H:=by
 obtain⟨j,B,X,Y,xs,s,d,w⟩:=h;refine e B _ H X Y _ _ s (DW d) (WS.imp (WS.bind w) λf U Z H1 k b a=>?_);cases f with
 |rt x=>exact WS.now (E:=E) b a
 |nx ρ=>exact λσ i=>WS.now (E:=E) b a .VX .VX
 |bk ρ=>exact a.elim
 |ct ρ=>exact a.elim
end
theorem O9{P:Ug}{w:Ux}{K:cL}{mg:Str->cv Tw}{base:Heap}{x a:Str}{st:Wo}{f:TM}{d:U3}{N ps:ck Str}{k n m:Nat}{g:HI}{e:Aq}(F:ZE K x a st f d)(S:V1 N ps (az st))(hn:ps.length=n)(hm:N.length=m)(o:e=Mi m g)
  (p:∀(b:Tw) (A:Ut) (outer:ck Env) (s:TK) (H:Hp) (E:XK),Wj k (A.deeper (UA a (az st) s.heap.objs.size f b))->
   ∃t,PSs (gx kS P w K mg base N a (az st) f b A outer s H E).nox (dr st) t/\Q1 K E t g):FnOk P w K mg base kS (k+1) f d ps (Mw K n e):=by
 subst o hm;refine F.ok S (λvs H Q E h=>h.1.trans hn.symm) (λb A outer s H vs Q E l h=>?_);obtain⟨t,i,j⟩:=p b A outer s H E l;exact⟨t,i,pJ (xs:=[]) j h⟩
end L10
namespace PySem
open Sem (wp)
section
variable{prog:Ug}{w:Ux}{A:Ut}{E:Tw->TK->Prop}{h:Heap}{g:Array Yv}{d:acO}{t:Nat}{os:abk}{a:TM}{o:Obj}
end
end PySem
namespace L10
open PySem PySem.Spec PyProof.Rows L2 L3
inductive ado(K:cL)(H:Hp):ck V->ck (mP×V)->Prop
 |nil:ado K H [] []
 |cons {q:TM} {k:mP} {v:V} {vs:ck V} {Yc:ck (mP×V)}:XA K H q [kV k,v]->ado K H vs Yc->ado K H (.ref q::vs) ((k,v)::Yc)
end L10
namespace L10
open PySem L2 L3
def LO(P:Ug)(w:Ux)(K:cL)(mg:Str->cv Tw)(base:Heap)(a:uq)(k:Nat)(C m:Str)(ps:ck Str)(sp:Sp):Prop:=
 ∃Ca f fd,T9 K T5 C=ax (ax (.ref Ca))/\Cls K Ca/\Meth K Ca m f/\FnOk P w K mg base a k f fd ps sp/\Binds K fd ps []
def Hh(P:Ug)(w:Ux)(K:cL)(mg:Str->cv Tw)(base:Heap)(a:uq)(k:Nat)(C:Str)(ps:ck Str)(sp:Sp):Prop:=
 ∃Ca f fd,T9 K T5 C=ax (ax (.ref Ca))/\mg C=ax (.ref Ca)/\Mk K Ca f/\FnOk P w K mg base a k f fd ps sp/\Binds K fd ps []
section
variable{ρ ρ1 ρ2:dh}{Z ω1 ω2 ω3 ω4:gj}{x y z:SV}{i n:Nat}{d dx dy:D}{ds:ck D}{b:Bool}
def Qo(N C:dh->gj->Prop)(T:SV->gj->Prop):RS FlS->Prop
 |.ok (.nx ρ) Z=>N ρ Z
 |.ok (.ct ρ) Z=>C ρ Z
 |.ok (.rt v) Z=>T v Z
 |_=>False
structure GoS(r:RS FlS)(N C:dh->gj->Prop)(T:SV->gj->Prop):Prop where
 out:Qo N C T r
variable{f g:HI}{fe:FES}{N C:dh->gj->Prop}{T:SV->gj->Prop}
end
end L10
namespace L10
open PySem PyProof.Rows L2 L3
section
variable{O Z:bU}{K:cL}{H H':Hp}{a b:TM}{xs:ck V}{Y:Heap->Prop}
def P1(a:TM)(O:bU)(H:Hp)(Z:bU)(H':Hp):Prop:=∀b o,b≠a->H b=ax o->¬O b->H' b=ax o/\¬Z b
theorem Zg.evx(g:H a=ax (.ext Y))(h:Zg O K H b xs)(e:P1 a O H Z H'):Zg Z K H' b xs:=by
 obtain⟨h,k⟩:=h;by_cases z:O b
 .exact⟨XZ.same (kK H') (k z),λ_=>k z⟩
 .rcases h with(h|⟨o,h⟩)|h
  .obtain⟨f,d⟩:=e b _ (λy=>by rw[y,g]at h;cases h) h z;exact⟨.inl (.inl f),λy=>a7 y d⟩
  .obtain⟨f,d⟩:=e b _ (λy=>by rw[y,g]at h;cases h) h z;exact⟨.inl (.inr ⟨o,f⟩),λy=>a7 y d⟩
  .exact⟨.inr h,λ_=>.inr h⟩
theorem Yw.evx(g:H a=ax (.ext Y))(h:Yw O K H b xs)(e:P1 a O H Z H'):Yw Z K H' b xs:=by
 obtain⟨h,k⟩:=h;by_cases z:O b
 .exact⟨(kK H').tup (k z),λ_=>k z⟩
 .rcases h with(h|⟨o,h⟩)|h
  .obtain⟨f,d⟩:=e b _ (λy=>by rw[y,g]at h;cases h) h z;exact⟨.inl (.inl f),λy=>a7 y d⟩
  .obtain⟨f,d⟩:=e b _ (λy=>by rw[y,g]at h;cases h) h z;exact⟨.inl (.inr ⟨o,f⟩),λy=>a7 y d⟩
  .exact⟨.inr h,λ_=>.inr h⟩
mutual
theorem DV.evx(f:H a=ax (.ext Y))(e:P1 a O H Z H'):∀{v:V} {d:D},L3.DV O K H v d->L3.DV Z K H' v d
 |_,_,.VX=>.VX
 |_,_,.bl b=>.bl b
 |_,_,.int i=>.int i
 |_,_,.str x=>.str x
 |_,_,.tup h hs=>.tup (Yw.evx f h e) (VH.evx f e hs)
 |_,_,.lst h hs=>.lst (Zg.evx f h e) (VH.evx f e hs)
theorem VH.evx(d:H a=ax (.ext Y))(e:P1 a O H Z H'):∀{vs:ck V} {ds:ck D},L3.VH O K H vs ds->L3.VH Z K H' vs ds
 |_,_,.nil=>.nil
 |_,_,.cons h hs=>.cons (DV.evx d e h) (VH.evx d e hs)
end
end
end L10
namespace L3
open PySem L2
structure NI(K:cL)(f:TM)(n:Str)(t:Wo):Prop where
 a:T9 K T5 n=ax (ax (.ref f))
 F:∃fd,ZE K n n t f fd
structure MI(K:cL)(C f:TM)(m q:Str)(t:Wo):Prop where
 a:T6 K (.ref C) m=ax (ax (.ref f))
 i:Wx K (.ref f)=Ld
 F:∃fd,ZE K m q t f fd
structure CI(K:cL)(C:TM)(n:Str)(fs:ck Str):Prop where
 a:T9 K T5 n=ax (ax (.ref C))
 pg:ack K C Str.empty=Ld
 hd:VG K C=Ld
 po:ab3 K C=Ld
 sa:T6 K (.ref C) "__setattr__"=ax (ax (.builtin "object.__setattr__"))
 mm:acQ K C=Ld
 kc:VT K (.ref C)=Ld
 fl:∀x∈fs,nV K C x
def BA(n q:Str)(t:Wo)(ps:ck Str):Prop:=∀(kV b d:Tw) (e:cv TM) (f ct:Tw) (a:ck Tw),a.length=ps.length->bindArgs (Wy n q (kR t) (dr t) (az t) .none kV b d e f ct) ⟨a,[]⟩=pure (ps.zip a)
section
variable{P:Ug}{w:Ux}{K:cL}{mg:Str->cv Tw}{base h:Heap}{f C:TM}{n m q:Str}{t:Wo}{ps fs:ck Str}{Z k:Nat}{sp sp':Sp}
theorem NI.cal(i:NI K f n t)(X:K.In h)(G:h.Ns T5 mg)(b:BA n n t ps)(ok:∀fd,ZE K n n t f fd->FnOk P w K mg base kS Z f fd ps sp):lx P w K mg base Z n ps sp:=
 let⟨fd,z⟩:=i.F;⟨f,fd,ok fd z,z.binds b,z.kp,UM X G i.a⟩
theorem NI.law(i:NI K f "law" t)(X:K.In h)(G:h.Ns T5 mg)(b:mg "law"=ax (.ref fa))(o:BA "law" "law" t [x])(ok:∀base fd,ZE K "law" "law" t f fd->FnOk P w K mg base kS Z f fd [x] sp):∃fd:U3,(∀(s:TK) (v:Tw),Zp s fd ⟨[v],[]⟩ [(x,v)])/\∀base:Heap,K.In base->base.Ns T5 mg->FnOk P w K mg base kS Z fa fd [x] sp:=by have e:=b.symm.trans (UM X G i.a);cases e;obtain⟨fd,z⟩:=i.F;obtain⟨y,u,kV,d,g,p,r,ct,j,rfl,A,l⟩:=z.ex;exact⟨_,λs v=>.of_eq (o kV d g p r ct [v] rfl),λbase _ _=>ok base _ z⟩
theorem rE(a:Wj k A):A.units+65<cLine:=by have:=a.un;ext
end
end L3
namespace L3
open PySem L2
theorem NI.ady{F:FN}(i:NI K f n t)(X:K.In h)(G:h.Ns T5 mg)(b:BA n n t ps)(ok:∀fd,ZE K n n t f fd->FnOk P w K mg base (L4.nU P w) lv f fd ps (sI K m F)):L4.B2 P w K mg base lv n ps m F:=
 let⟨fd,z⟩:=i.F;⟨f,fd,ok fd z,z.binds b,z.kp,UM X G i.a⟩
end L3
namespace LD
open PySem PyProof.Rows L2 L3
mutual
def Tk:lD->lD->cv Bool
 |.int i,.int j=>ax (decide (i<j))
 |.str x,.str y=>ax (decide (x.cps.toList<y.cps.toList))
 |.tuple xs,.tuple ys=>NF xs ys
 |_,_=>CL
def NF:ck lD->ck lD->cv Bool
 |[],[]=>ax Tx
 |[],_::_=>ax Ld
 |_::_,[]=>ax Tx
 |x::xs,y::ys=>if lD.eqv x y=Ld then NF xs ys else Tk x y
end
end LD
namespace LD
open PySem PyProof.Rows
structure VE(es:ck Xr)(Yc:ck (Unit×Tw)):Prop where
 vals:es.map (·.val)=Yc.map (·.2)
end LD
namespace L3
open PySem PyProof.Rows L2
structure akf(K:cL)(x qual:Str)(st:Wo)(f:TM)(fd:U3)(T:TM)(UD:Array Tw):Prop where
 ex:∃(oc:Tw) (od:cv TM) (kV doc pm:Tw) (an:cv TM) (Wc ct:Tw) (osl:Array (cv Tw)),
  fd=Wy x qual (kR st) (dr st) (az st) (.ref T) kV doc pm an Wc ct/\K.lookup f=ax ⟨oc,od,.func fd,osl⟩/\Yk K Wc qual=Ld
 kp:VT K (.ref f)=Ld
 tp:∃o n,K.lookup T=ax o/\o.data=.seq UD n
end L3
namespace L10
open PySem L2 L3
def Qi(T:A->gj->Prop)(X:Xc->Prop):RS A->Prop
 |.ok a ω=>T a ω
 |.er x _=>X x
 |.bad=>False
structure Out{A:Type}(r:RS A)(T:A->gj->Prop)(X:Xc->Prop):Prop where
 out:Qi T X r
end L10
namespace L3
open PySem PyProof.Rows L2
section
variable{P:Ug}{w:Ux}{K:cL}{mg:Str->cv Tw}{base h:Heap}{f T:TM}{n:Str}{t:Wo}{ps:ck Str}{lv:Nat}{sp:Sp}{CX:uq}{UD:Array Tw}
structure DI(K:cL)(f T:TM)(n:Str)(t:Wo)(UD:Array Tw):Prop where
 a:T9 K T5 n=ax (ax (.ref f))
 F:∃fd,akf K n n t f fd T UD
end
structure Tp(P:Ug)(w:Ux)(K:cL)(mg:Str->cv Tw)(base h:Heap):Prop where
 X:K.In h
 G:h.Ns T5 mg
section
variable{P:Ug}{w:Ux}{K:cL}{mg:Str->cv Tw}{base h:Heap}{f C T:TM}{n m q:Str}{t:Wo}{ps fs:ck Str}{lv:Nat}{sp:Sp}{CX:uq}{UD:Array Tw}
theorem NI.c(i:NI K f n t)(W:Tp P w K mg base h)(ok:∀fd,ZE K n n t f fd->FnOk P w K mg base kS lv f fd ps sp)(a:BA n n t ps:=by fail "ba"):lx P w K mg base lv n ps sp:=i.cal W.X W.G a ok
end
end L3
namespace PySem
namespace SetTable
def R0(xs:Array Nat):Prop:=xs.toList.Pairwise (·<·)
structure TI(b:Bool)(t:SetTable):Prop where
 led:t.led=b
 dm:t.dummies= #[]
 ris:R0 t.place
end SetTable
end PySem
namespace PySem
open SetTable
section
variable{prog:Ug}{w:Ux}{K:Type}[DecidableEq K]{knd:KeyKind prog w K}{A:Ut}{E:Tw->TK->Prop}{s:TK}{b:Bool}{a:TM}{es:Array (Int×Tw)}
structure SetX(knd:KeyKind prog w K)(b:Bool)(h:Heap)(a:TM)(es:Array (Int×Tw)):Prop where
 x:∃o ep t,h.get? a=ax o/\o.ExactSet/\o.data=.set es ep t/\t.fits es.size=Ld/\TI b t
 el:ElemsOf knd es.toList
 sz:es.size<scanBound
end
end PySem
namespace PySem
namespace SetTable
structure TT(t:SetTable)(n:Nat):Prop where
 k:∃k,t.mask+1=2^k
 dm:t.dummies= #[]
 ris:R0 t.place
 le:∀v∈t.place.toList,v<=t.mask
 sz:t.place.size=n
 few:n*5<t.mask*3
section
variable{t:SetTable}{n:Nat}{p:Probe}
structure PI(t:SetTable)(p:Probe):Prop where
 nine:p.more<=9
 jm:p.j+p.more<=t.mask
 pt:p.perturb<2^64
 dm:p.dummy=CL
end
end SetTable
end PySem
namespace LD
open PySem PySem.SetTable PyProof.Rows L2 L3
section
variable{prog:Ug}{w:Ux}{E:Tw->TK->Prop}
variable{A:Ut}{s:TK}
structure SetH(prog:Ug)(w:Ux)(b:Bool)(h:Heap)(a:TM)(es:Array (Int×Tw))(ks:ck (KD×TM)):Prop where
 x:∃o ep t,h.get? a=ax o/\o.ExactSet/\o.data=.set es ep t/\TT t es.size/\t.led=b/\t.mask<=8*es.size+8
 el:∀e∈es.toList,∃k c,(k,c)∈ks/\e.2=.ref c/\(BB prog w).is h k c
mutual
theorem zL{h h':Heap}{x:TM}{b:Obj}(e:h.get? x=ax b)(g:∀vs n,b.data≠.seq vs n)(f:Heap.SameBut x h h'):∀(d:lD) (v:Tw) (as:ck TM),kd d=Ld->abw h v d as->abw h' v d as
 |.none,_,_,_,r=>by cases r;exact .none
 |.int _,_,_,_,r=>by cases r;exact .int _ _
 |.str _,_,_,_,r=>by cases r;exact .str _ _
 |.tuple xs,_,_,k,r=>by
  cases r with
  | @tuple a o vs n _ _ h1 h2 h3 h4=>
   have i:a≠x:=by rintro rfl;rw[e]at h1;cases h1;exact g _ _ h3
   unfold kd at k;exact .tuple ((f.2 a i).trans h1) h2 h3 (pU e g f xs _ _ k h4)
 |.bool _,_,_,h,_|.list _,_,_,h,_|.dict _,_,_,h,_=>by simp[kd]at h
theorem pU{h h':Heap}{x:TM}{a:Obj}(b:h.get? x=ax a)(f:∀vs n,a.data≠.seq vs n)(e:Heap.SameBut x h h'):∀(ds:ck lD) (vs:ck Tw) (as:ck TM),vW ds=Ld->Y7 h vs ds as->Y7 h' vs ds as
 |[],_,_,_,r=>by cases r;exact .nil
 |d::ds,_,_,k,r=>by
  cases r with
  |cons i g=>unfold vW at k;rw[Tu]at k;exact .cons (zL b f e d _ _ k.1 i) (pU b f e ds _ _ k.2 g)
end
end
end LD
namespace L3
open PySem PySem.Spec PyProof.Rows L2 PySem.Builtin PySem.Builtin.Str
theorem E1{X:Cx}:Gk X "str.find" (λx xs H Q=>∃a b,x=.str a/\xs=[.str b]/\Q (.int (Txt.find a b)) H):=by rintro e s h H x xs v i Q I f d ⟨a,b,rfl,rfl,q⟩;obtain⟨t,rfl⟩:=jS f;obtain⟨u,rfl,g⟩:=d.one;obtain⟨j,rfl⟩:=jS g;exact PySem.SC.find ⟨.int _,H,I.tok _,⟨_,rfl⟩,q⟩
def vF(z:Str):ck D->cv RV
 |[.str b]=>ax (.fz (.int (Txt.find z b)))
 |_=>CL
theorem EA{K:cL}:Mq K (λx xs H Q=>∃a b,x=.str a/\xs=[.str b]/\Q (.int (Txt.find a b)) H) vF:=by
 intro O H z vs ds rv Q n d e q;unfold vF at e;split at e
 .cases e
  cases d with
  |cons g f=>cases f;cases g;exact⟨_,_,rfl,rfl,q.at (.int _)⟩
 .cases e
end L3
namespace L2
open PySem PySem.Spec PyProof.Rows
variable{X:Cx}{a b:Ue}{rest:ck Ue}{pos:Pos}{ta tb:TE}
end L2
namespace CC
open PySem L2 L3 L10
def lh:Ue->Bool
 |.BinOp .. |.UnaryOp .. |.IfExp .. |.ListComp .. |.Compare .. |.Call .. |.Constant .. |.Attribute .. |.Subscript .. |.Name .. |.List .. |.Tuple .. |.BoolOp .. |.JoinedStr .. |.Dict .. =>Ld
 |_=>Tx
def MV:Ue->Bool
 |.BinOp .. |.Call .. |.Attribute .. |.Subscript .. |.Name .. =>Ld
 |_=>Tx
def KQ:Ue->Bool
 |.ListComp .. =>Ld
 |_=>Tx
def Q5:Ue->Bool
 |.Constant .. |.Attribute .. |.Subscript .. |.Name .. =>Ld
 |_=>Tx
section
variable{e o a b:Ue}{es:ck Ue}{env:Env}{Z p:Pos}{n k:Nat}
theorem kT(h:lh e=Ld):Uh (e::es) env=(Tx,eval e env)::Uh es env:=by cases e<;>first|rfl|cases h
theorem A2(h:lh e=Ld):tL e:=by cases e<;>first|(intro _ _;rfl)|cases h
theorem yC(h:lh e=Ld):∀x,foldedSetIterable e env x=pure x:=by cases e<;>first|(intro _;rfl)|cases h
theorem Gn(h:MV e=Ld):∀whole:Sem Tw,isTrue e env whole=(do let v<-whole;standAt e.pos;holding [v] (truthy v)):=by cases e<;>first|(intro _;rfl)|cases h
theorem yE{t}(h:(lh e&& !KQ e)=Ld):X1 e t n env=pure Tx:=by cases e<;>first|rfl|cases h
theorem kW{f:Str}(h:Q5 e=Ld):attributeBase e f env (eval e env)=eval e env:=by cases e<;>first|rfl|cases h
theorem Gd(h:lh e=Ld):Ke e=Tx:=by cases e<;>first|rfl|cases h
theorem EF(h:MV e=Ld):swapsWithSole [.Tuple es k p] e n env=pure Tx:=by cases e<;>first|rfl|cases h
theorem zD(h:MV e=Ld):swappedStores [.Tuple es k p] e env=pure CL:=by cases e<;>first|rfl|cases h
theorem KA(h:es.all lh=Ld):((backTo Z (Uh es env)).any λx=>x.1)=Tx:=by
 induction es with
 |nil=>rfl
 |cons e es d=>rw[UR,Tu]at h;rw[kT h.1];exact d h.2
theorem Jb(h:es.all lh=Ld):((backTo Z (Uh es env)).all λx=> !x.1)=Ld:=by
 induction es with
 |nil=>rfl
 |cons e es d=>rw[UR,Tu]at h;rw[kT h.1];exact d h.2
theorem g8(h:(e::es).all lh=Ld):Uh (e::es) env=(Tx,eval e env)::Uh es env:=by rw[UR,Tu]at h;exact kT h.1
theorem l7(h:(e::es).all lh=Ld):((backTo Z (Uh es env)).any λx=>x.1)=Tx:=by rw[UR,Tu]at h;exact KA h.2
theorem uk(h:es.all lh=Ld)(d:es.length<20):methodCallForm (es.length+([]:ck Yi).length) (backTo Z (Uh es env)) (backToKw Z (keywordEach [] env))=Ld:=by unfold methodCallForm;rw[Jb h,Xa];refine(Tu _ _).mpr ⟨rfl,a4 ?_⟩;show es.length+0+0<30;ext
theorem MU{elt cp sc x}(h1:env.scope.kind=.function)(h2:env.kindOf x=ax .local)(h3:(p.line==Z.line)=Ld)(h4:(sc.names.any λy=>y.1==x&&(y.2==.local||y.2==.cell))=Tx):X1 (.ListComp elt [cp] sc Z) (ax (.Name x p)) n env=pure Ld:=by show(pure _:Sem Bool)=_;rw[show env.blockKind=.function by unfold Env.blockKind;rw[h1];rfl,h2];show(pure (_&&(p.line==Z.line)&& !(sc.names.any λy=>y.1==x&&(y.2==.local||y.2==.cell))):Sem Bool)=_;rw[h3,h4];rfl
end
theorem cb{α:Type}{o:cv α}{p:α->Bool}(h:o.any p=Ld):∃x,o=ax x/\p x=Ld:=by
 cases o with
 |none=>cases h
 |some x=>exact⟨x,rfl,h⟩
theorem rS{α:Type}{P:α->Prop}{o:cv α}(k:o.elim True P){x:α}(h:o=ax x):P x:=by subst h;exact k
def vN:Ue->cv (Str×Pos)
 |.Name x p=>ax (x,p)
 |_=>CL
def vC:Ue->cv Const
 |.Constant c _ _=>ax c
 |_=>CL
def Ph:Ue->cv (Ue×adO×Ue)
 |.BinOp a o b _=>ax (a,o,b)
 |_=>CL
def JL:Ue->cv (Ue×ck abr×ck Ue)
 |.Compare a o b _=>ax (a,o,b)
 |_=>CL
def GJ:Ue->cv (Ue×Ue×Pos)
 |.Subscript a b p=>ax (a,b,p)
 |_=>CL
def RD:Ue->cv (cv Ue×cv Ue×cv Ue)
 |.Slice a b c _=>ax (a,b,c)
 |_=>CL
def Dw:Ue->cv (ck Ue)
 |.Tuple es _ _=>ax es
 |_=>CL
def Na:Ue->cv (ck Ue)
 |.List es _=>ax es
 |_=>CL
def yI:Ue->cv (Ue×ck Ue×ck Yi×Pos)
 |.Call f es ks p=>ax (f,es,ks,p)
 |_=>CL
def RX:Ue->cv (Ue×Str×Pos)
 |.Attribute o x p=>ax (o,x,p)
 |_=>CL
def QT:Ue->cv (BoolOp×ck Ue×Pos)
 |.BoolOp o es p=>ax (o,es,p)
 |_=>CL
def PK:Ue->cv (UnaryOp×Ue)
 |.UnaryOp o a _=>ax (o,a)
 |_=>CL
def Rv:Ue->cv (Ue×ck Xz×V5×Pos)
 |.ListComp e g s p=>ax (e,g,s,p)
 |_=>CL
def R9:Ue->cv (ck (cv Ue)×ck Ue)
 |.Dict k v _=>ax (k,v)
 |_=>CL
section
variable{e:Ue}
theorem qw(h:vN e=ax x):e=.Name x.1 x.2:=rS (P:=λx=>e=.Name x.1 x.2) (by cases e<;>first|exact trivial|rfl|exact⟨_,rfl⟩|exact⟨_,_,rfl⟩) h
theorem HX(h:vC e=ax x):∃k p,e=.Constant x k p:=rS (P:=λx=>∃k p,e=.Constant x k p) (by cases e<;>first|exact trivial|rfl|exact⟨_,rfl⟩|exact⟨_,_,rfl⟩) h
theorem Fs(h:Ph e=ax x):∃p,e=.BinOp x.1 x.2.1 x.2.2 p:=rS (P:=λx=>∃p,e=.BinOp x.1 x.2.1 x.2.2 p) (by cases e<;>first|exact trivial|rfl|exact⟨_,rfl⟩|exact⟨_,_,rfl⟩) h
theorem yW(h:JL e=ax x):∃p,e=.Compare x.1 x.2.1 x.2.2 p:=rS (P:=λx=>∃p,e=.Compare x.1 x.2.1 x.2.2 p) (by cases e<;>first|exact trivial|rfl|exact⟨_,rfl⟩|exact⟨_,_,rfl⟩) h
theorem tR(h:GJ e=ax x):e=.Subscript x.1 x.2.1 x.2.2:=rS (P:=λx=>e=.Subscript x.1 x.2.1 x.2.2) (by cases e<;>first|exact trivial|rfl|exact⟨_,rfl⟩|exact⟨_,_,rfl⟩) h
theorem KR(h:RD e=ax x):∃p,e=.Slice x.1 x.2.1 x.2.2 p:=rS (P:=λx=>∃p,e=.Slice x.1 x.2.1 x.2.2 p) (by cases e<;>first|exact trivial|rfl|exact⟨_,rfl⟩|exact⟨_,_,rfl⟩) h
theorem ud(h:Dw e=ax x):∃k p,e=.Tuple x k p:=rS (P:=λx=>∃k p,e=.Tuple x k p) (by cases e<;>first|exact trivial|rfl|exact⟨_,rfl⟩|exact⟨_,_,rfl⟩) h
theorem Ff(h:Na e=ax x):∃p,e=.List x p:=rS (P:=λx=>∃p,e=.List x p) (by cases e<;>first|exact trivial|rfl|exact⟨_,rfl⟩|exact⟨_,_,rfl⟩) h
theorem pK(h:yI e=ax x):e=.Call x.1 x.2.1 x.2.2.1 x.2.2.2:=rS (P:=λx=>e=.Call x.1 x.2.1 x.2.2.1 x.2.2.2) (by cases e<;>first|exact trivial|rfl|exact⟨_,rfl⟩|exact⟨_,_,rfl⟩) h
theorem Iz(h:RX e=ax x):e=.Attribute x.1 x.2.1 x.2.2:=rS (P:=λx=>e=.Attribute x.1 x.2.1 x.2.2) (by cases e<;>first|exact trivial|rfl|exact⟨_,rfl⟩|exact⟨_,_,rfl⟩) h
theorem AK(h:QT e=ax x):e=.BoolOp x.1 x.2.1 x.2.2:=rS (P:=λx=>e=.BoolOp x.1 x.2.1 x.2.2) (by cases e<;>first|exact trivial|rfl|exact⟨_,rfl⟩|exact⟨_,_,rfl⟩) h
theorem xq(h:PK e=ax x):∃p,e=.UnaryOp x.1 x.2 p:=rS (P:=λx=>∃p,e=.UnaryOp x.1 x.2 p) (by cases e<;>first|exact trivial|rfl|exact⟨_,rfl⟩|exact⟨_,_,rfl⟩) h
theorem Ll(h:Rv e=ax x):e=.ListComp x.1 x.2.1 x.2.2.1 x.2.2.2:=rS (P:=λx=>e=.ListComp x.1 x.2.1 x.2.2.1 x.2.2.2) (by cases e<;>first|exact trivial|rfl|exact⟨_,rfl⟩|exact⟨_,_,rfl⟩) h
theorem Ka(h:R9 e=ax x):∃p,e=.Dict x.1 x.2 p:=rS (P:=λx=>∃p,e=.Dict x.1 x.2 p) (by cases e<;>first|exact trivial|rfl|exact⟨_,rfl⟩|exact⟨_,_,rfl⟩) h
def oj(e:Ue):Bool:=(Dw e).isSome
theorem mn(h:oj e=Ld):∃l k p,e=.Tuple l k p:=by obtain⟨x,h⟩:=WJ.mp h;exact⟨x,ud h⟩
end
abbrev Fd:=Ug->Ux->cL->(Str->cv Tw)->Heap->Prop
abbrev V6(lv:Nat)(x:Str)(ps:ck Str)(n:Nat)(F:FN):Fd:=λP w K b a=>QV P w K b a lv x ps n F
abbrev fdE(lv:Nat)(x:Str)(ps:ck Str)(n:Nat)(F:FN):Fd:=λP w K b a=>L4.B2 P w K b a lv x ps n F
abbrev Sn(rz:Bool)(lv:Nat)(C x:Str)(ps:ck Str)(n:Nat)(F:Aq):Fd:=λP w K b a=>LO P w K b a (if rz then L4.nU P w else kS) lv C x ps (Mw K n F)
abbrev Tt(lv:Nat)(C:Str)(ps:ck Str)(n:Nat)(F:Aq):Fd:=λP w K b a=>Hh P w K b a kS lv C ps (Mw K n F)
structure Md where
 bl:ck Str
 ex:ck Str
 cs:ck (Str×D)
 cl:ck (Str×ck Str)
structure Gm where
 M:Md
 N:ck Str
 sc:ck (Str×Ua)
 lv:Nat
 rz:Bool
 fa:Bool
 fc:ck Str
 top:Nat
abbrev MR:ck Tw:=[.type "ValueError",.type "Exception",.type "BaseException",.type "object"]
structure acC(K:cL)(mg:Str->cv Tw)(M:Md):Prop where
 bl:∀x∈M.bl,mg x=CL
 ex:∀x∈M.ex,∃C,T9 K T5 x=ax (ax (.ref C))/\mg x=ax (.ref C)/\W3 K C MR "ValueError.__new__"=Ld
 cs:∀x d,M.cs.lookup x=ax d->∃v u,mg x=ax u/\RelV v u/\∀O H,DV O K H v d
 cl:∀C L,M.cl.lookup C=ax L->Og K C L
structure Ct(T:ck Fd)(Γ:Gm)(X:Cx)(E:XK):Prop where
 n:X.N=Γ.N
 nd:X.N.Nodup
 sc:X.env.scope.names=Γ.sc
 kd:X.env.scope.kind=.function
 cm:X.calm=Ld
 rm:Wj Γ.lv X.A
 po:Γ.fa=Ld->acP (model X.prog X.w) X.A X.env X.xe
 px:Γ.rz=Ld->∃(N:ck Str) (qual:Str) (scope:V5) (f:TM) (cd:Tw) (A:Ut) (outer:ck Env) (s0:TK) (H0:Hp),X=gx (L4.nU X.prog X.w) X.prog X.w X.K X.mg X.base N qual scope f cd A outer s0 H0 E
 fc:∀x∈Γ.fc,X.fn x=Ld
 md:acC X.K X.mg Γ.M
 fs:∀i fd,i<Γ.top->T[i]?=ax fd->fd X.prog X.w X.K X.mg X.base
def M8(s:ck (Str×Ua))(x:Str):Bool:=s.lookup x==ax .local||s.lookup x==ax .cell||s.lookup x==ax .free
def PU(x:Str):Bool:= !(x==("__debug__":Str))&& !(x==("__classdict__":Str))&& !(x==("__name__":Str))
def MB(Γ:Gm)(x:Str):Bool:=Γ.sc.lookup x==ax .globalImplicit&&PU x
def blt(Γ:Gm)(x:Str):Bool:=MB Γ x&&Γ.M.bl.contains x
theorem fF{a:cv Ua}{b:Ua}(h:(a==ax b)=Ld):a=ax b:=by
 cases a with
 |none=>cases h
 |some a=>cases a<;>cases b<;>first|rfl|cases h
section
variable{T:ck Fd}{Z:Gm}{X:Cx}{E:XK}{x:Str}{i:Nat}
theorem ui(h:PU x=Ld):(x==("__debug__":Str))=Tx/\(x==("__classdict__":Str))=Tx/\x≠("__name__":Str):=by unfold PU at h;simp only[Tu,UX]at h;exact⟨h.1.1,h.1.2,λe=>by rw[e,ez]at h;cases h.2⟩
theorem pY(c:Ct T Z X E)(h:MB Z x=Ld):Gl X x/\(x==("__debug__":Str))=Tx/\x≠("__name__":Str):=by unfold MB at h;rw[Tu]at h;refine⟨?_,(ui h.2).1,(ui h.2).2.2⟩;show X.env.scope.names.lookup x=_;rw[c.sc];exact fF h.1
theorem mQ(c:Ct T Z X E)(h:blt Z x=Ld):Gl X x/\X.mg x=CL/\(x==("__debug__":Str))=Tx/\x≠("__name__":Str):=by unfold blt at h;rw[Tu]at h;obtain⟨b,a⟩:=pY c h.1;exact⟨b,c.md.bl x (abD.mp h.2),a⟩
theorem OG(c:Ct T Z X E)(h:Z.rz=Ld):jH (L4.nU X.prog X.w) X E:=by obtain⟨N,d,a,f,cd,A,b,g,j,e⟩:=c.px h;rw[e];exact L4.DG
end
abbrev Jd(τ:Type):=cL->XK->τ->Prop
def eo(g:FE):Jd TE:=λK E t=>EO K E t g
def ao(g:FA):Jd TA:=λK E t=>AO K E t g
def nW(g:FT):Jd TT:=λK E t=>TTO K E t g
def oo(g:FO):Jd TO:=λK E t=>OI K E t g
def go(g:FG):Jd TG:=λK E t=>GO K E t g
def gs(g:Mu):Jd zO:=λK E t=>Ol K E t g
def io(g:FI):Jd TI:=λK E t=>L3.IO K E t g
def Mz(g:FI):Jd TI:=λK E t=>P3 K E t g
def so(g:FS):Jd TS:=λK E t=>SO K E t g
class CK (T:ck Fd) {α τ:Type} (P:Cx->α->τ->Prop) (J:Jd τ) where
 chk:Gm->α->Bool
 ok:∀{Γ X E a},Ct T Γ X E->chk Γ a=Ld->∃t,P X a t/\J X.K E t
def Te(X:Cx)(e:Ue)(t:TG):Prop:=PG X e t/\∀r,assignEach (e::r) X.env=(Tx,assign e X.env)::assignEach r X.env
def SY(X:Cx)(r:ck Ue)(t:zO):Prop:=NH X r t/\(assignEach r X.env).length=r.length/\List.findIdx? (λx=>x.1) (assignEach r X.env)=CL
def SS(X:Cx)(p:Ue×Ue)(t:TI):Prop:=PI X p.1 p.2 t/\lh p.2=Ld
abbrev CE(T:ck Fd)(J:Jd TE):=CK T PE J
abbrev CA(T:ck Fd)(J:Jd TA):=CK T PA J
abbrev CT(T:ck Fd)(J:Jd TT):=CK T PT J
abbrev CQ(T:ck Fd)(J:Jd TT):=CK T wU J
abbrev CO(T:ck Fd)(J:Jd TO):=CK T PO J
abbrev CG(T:ck Fd)(J:Jd TG):=CK T Te J
abbrev CH(T:ck Fd)(J:Jd zO):=CK T SY J
abbrev CI(T:ck Fd)(J:Jd TI):=CK T SS J
abbrev CU(T:ck Fd)(J:Jd TS):=CK T PS J
abbrev CS(T:ck Fd)(J:Jd TS):=CK T PSs J
def Oh{T:ck Fd}{α τ:Type}{P:Cx->α->τ->Prop}{A J:Jd τ}[x:CK T P A](k:∀{K E t},A K E t->J K E t):CK T P J:=⟨x.chk,λc h=>let⟨t,p,q⟩:=x.ok c h;⟨t,p,k q⟩⟩
end CC
set_option warn.classDefReducibility false
namespace CC
open PySem L2 L3 L10
variable{T:ck Fd}
def Aa(i:Nat)(Γ:Gm)(e:Ue):Bool:=(vN e).any λx=>Γ.N[i]? ==ax x.1&&M8 Γ.sc x.1&&PU x.1
theorem pH{Γ:Gm}{X:Cx}{E:XK}{i:Nat}{e:Ue}(c:Ct T Γ X E)(h:Aa i Γ e=Ld):PE X e (lB i):=by
 obtain⟨x,q,h⟩:=cb h;rw[qw q];unfold M8 at h;simp only[Tu,Vt]at h;refine DR (by rw[c.n];exact beq_iff_eq.mp h.1.1) ?_ (ui h.2).1 (ui h.2).2.1;unfold PX;rw[c.sc];rcases h.1.2 with(z|z)|z
 .exact .inl (fF z)
 .exact .inr (.inl (fF z))
 .exact .inr (.inr (fF z))
def Po{J:Jd TE}(i:Nat)(k:∀{K E},J K E (lB i)):CE T J:=⟨Aa i,λc h=>⟨_,pH c h,k⟩⟩
noncomputable instance:CE T (eo (ac i)):=Po i Lw
def dq:Nat->D->D->Bool
 |0,_,_=>Tx
 |_+1,.int a,.int b=>a==b
 |_+1,.str a,.str b=>a==b
 |_+1,.none,.none=>Ld
 |_+1,.bool a,.bool b=>a==b
 |n+1,.tuple a,.tuple b=>a.length==b.length&&(a.zip b).all λp=>dq n p.1 p.2
 |n+1,.list a,.list b=>a.length==b.length&&(a.zip b).all λp=>dq n p.1 p.2
 |_,_,_=>Tx
theorem Kt{f:D->D->Bool}(i:∀a b,f a b=Ld->a=b):∀{a b:ck D},(a.length==b.length&&(a.zip b).all λp=>f p.1 p.2)=Ld->a=b:=by
 intro a
 induction a with
 |nil=>
  intro b h;cases b with
  |nil=>rfl
  |cons y s=>cases h
 |cons x r g=>
  intro b h;cases b with
  |nil=>cases h
  |cons y s=>rw[Tu]at h;obtain⟨e,d⟩:=h;rw[List.zip_cons_cons,UR,Tu]at d;have e:=eq_of_beq e;rw[i x y d.1,g (b:=s) (by rw[Tu];exact⟨beq_iff_eq.mpr (by simpa using e),d.2⟩)]
theorem uF:∀(n:Nat) (a b:D),dq n a b=Ld->a=b:=by
 intro n
 induction n with
 |zero=>intro a b h;cases h
 |succ n d=>intro a b h;cases a<;>cases b<;>first|exact a7 h Tz|rfl|exact ey _ (eq_of_beq h)|exact ey _ (Kt d h)
def cD:Const->cv D
 |.int i=>ax (.int i)
 |.str x=>ax (.str x)
 |.bool b=>ax (.bool b)
 |.none=>ax .none
 |_=>CL
noncomputable instance{d:D}:CE T (eo (pC d)) where
 chk Γ e:=(((vC e).bind cD).any λa=>dq 9 a d)||((vN e).any λx=>MB Γ x.1&&((Γ.M.cs.lookup x.1).any λa=>dq 9 a d))
 ok c h:=by
  rcases(Vt _ _).mp h with h|h
  .obtain⟨a,q,h⟩:=cb h
   obtain rfl:=uF _ _ _ h;obtain⟨k,f,b⟩:=UG.mp q;obtain⟨_,_,rfl⟩:=HX f;cases k<;>cases b
   .exact⟨_,fx,Lo⟩
   .exact⟨_,BC,NJ⟩
   .exact⟨_,hJ,Ky⟩
   .exact⟨_,Jv,LZ⟩
  .obtain⟨x,q,h⟩:=cb h;rw[Tu]at h;obtain⟨a,b,g⟩:=cb h.2;obtain rfl:=uF _ _ _ g;obtain⟨j,i,_⟩:=pY c h.1;obtain⟨v,u,m,l,e3⟩:=c.md.cs _ _ b;rw[qw q];exact⟨_,fP j m l i,Dj e3⟩
class BOp (f:D->D->cv RV) where
 sp:Ue->cv (Ue×Ue)
 ok:∀{X:Cx} {e p ta tb},sp e=ax p->X.A.units+65<cLine->lh p.2=Ld->PE X p.1 ta->PE X p.2 tb->∃r,PE X e (Fp r ta tb)/\jY X.K r f
def Ko{f:D->D->cv RV}(op:adO)(d:∀{X:Cx},∃r,OpR X (V2 op) r/\jY X.K r f):BOp f where
 sp e:=(Ph e).bind λx=>if x.2.1=op then ax (x.1,x.2.2)else CL
 ok h hu _ ha hb:=by
  obtain⟨x,q,a⟩:=UG.mp h;obtain⟨_,rfl⟩:=Fs q;split at a
  .rename_i z;cases a;obtain⟨r,b,g⟩:=d;rw[<-z]at b;exact⟨r,D2 b ha hb,g⟩
  .cases a
def RB{f:D->D->cv RV}(k:∀{K},jY K (PB K) f):BOp f where
 sp e:=(GJ e).map λx=>(x.1,x.2.1)
 ok h _ hp ha hb:=by obtain⟨x,q,a⟩:=U9.mp h;cases a;rw[tR q];exact⟨_,Pz Kb ha hb (A2 hp),k⟩
class COp (f:D->D->cv RV) where
 op:abr
 ok:∀{X:Cx},X.A.units+65<cLine->∃r,OpR X (U8 op) r/\jY X.K r f
def Q2(op:abr)(e:Ue):cv (Ue×Ue):=(JL e).bind λx=>match x.2.2 with
 |[b]=>if x.2.1=[op]&& !behindInMarks op b then ax (x.1,b)else CL
 |_=>CL
theorem BJ{op:abr}{e:Ue}{p:Ue×Ue}(h:Q2 op e=ax p):∃pos,e=.Compare p.1 [op] [p.2] pos/\behindInMarks op p.2=Tx:=by
 obtain⟨⟨a,o,b⟩,q,d⟩:=UG.mp h;obtain⟨_,rfl⟩:=yW q;dsimp only at d;split at d
 .split at d
  .rename_i z;cases d;rw[Tu,decide_eq_true_eq,UX]at z;exact⟨_,by rw[z.1],z.2⟩
  .cases d
 .cases d
noncomputable instance[o:COp f]:BOp f where
 sp:=Q2 o.op
 ok h hu _ ha hb:=by obtain⟨p,rfl,q⟩:=BJ h;obtain⟨r,b,a⟩:=o.ok hu;exact⟨r,FL b ha hb q,a⟩
noncomputable instance:BOp aG:=RB Lf
noncomputable instance:BOp L3.AJ:=RB Ex
noncomputable instance:COp bV:=⟨.Eq,λh=>⟨_,LQ (by ext),Ml⟩⟩
noncomputable instance:COp iG:=⟨.NotEq,λh=>⟨_,LB (by ext),KM⟩⟩
noncomputable instance:COp qJ:=⟨.LtE,λ_=>⟨_,Pt,Lg⟩⟩
noncomputable instance:COp nc:=⟨.Lt,λ_=>⟨_,MY,Kd⟩⟩
noncomputable instance:COp oO:=⟨.Gt,λ_=>⟨_,Nd,IJ⟩⟩
noncomputable instance:COp Eh:=⟨.GtE,λ_=>⟨_,OD,JP⟩⟩
noncomputable instance:COp iY:=⟨.In,λh=>⟨_,Kf h,Kw⟩⟩
noncomputable instance:COp jM:=⟨.NotIn,λh=>⟨_,Fa h,Gi⟩⟩
noncomputable instance:COp jd:=⟨.Is,λ_=>⟨_,qG,E5⟩⟩
noncomputable instance:COp qM:=⟨.IsNot,λ_=>⟨_,FR,FZ⟩⟩
noncomputable instance:COp J9:=⟨.In,λ_=>⟨_,JV,Gc⟩⟩
noncomputable instance:COp rg:=⟨.LtE,λ_=>⟨_,Lj,E9⟩⟩
noncomputable instance:BOp bq:=Ko .Add ⟨_,F7,Fq⟩
noncomputable instance:BOp eB:=Ko .Add ⟨_,wy,BM⟩
noncomputable instance:BOp sP:=Ko .Sub ⟨_,LW,Fk⟩
noncomputable instance:BOp br:=Ko .Mod ⟨_,Mh,EH⟩
noncomputable instance:BOp bT:=Ko .FloorDiv ⟨_,DN,GX⟩
noncomputable instance:BOp fE:=Ko .Mult ⟨_,EW,BR⟩
section
variable{A B C J:Jd TE}{U Z:Jd TA}{Q R S:Jd TT}
def Ri(A B:Jd TE){f:D->D->cv RV}[o:BOp f][x:CE T A][y:CE T B](k:∀{K E r ta tb},jY K r f->A K E ta->B K E tb->J K E (Fp r ta tb)):CE T J where
 chk Γ e:=(o.sp e).any λp=>lh p.2&&x.chk Γ p.1&&y.chk Γ p.2
 ok c h:=by obtain⟨p,q,h⟩:=cb h;simp only[Tu]at h;obtain⟨ta,i,g⟩:=x.ok c h.1.2;obtain⟨tb,d,b2⟩:=y.ok c h.2;obtain⟨r,b,a⟩:=o.ok q (rE c.rm) h.1.1 i d;exact⟨_,b,k a g b2⟩
noncomputable instance[BOp f][CE T (eo a)][CE T (eo b)]:CE T (eo (ah f a b)):=Ri (eo a) (eo b) Ix
def OY(k:∀{K E},Z K E ou):CA T Z:=⟨λ_ l=>l.isEmpty,λ_ h=>by rw[Vm.mp h];exact⟨_,bj,k⟩⟩
def J1(A:Jd TE)(U:Jd TA)[x:CE T A][y:CA T U](k:∀{K E ta tb},A K E ta->U K E tb->Z K E (i6 ta tb)):CA T Z where
 chk Γ l:=match l with
  |e::r=>lh e&&x.chk Γ e&&y.chk Γ r
  |[]=>Tx
 ok c h:=by
  split at h
  .simp only[Tu]at h;obtain⟨ta,d,b⟩:=x.ok c h.1.2;obtain⟨tb,a,b2⟩:=y.ok c h.2;exact⟨_,au d a (kT h.1.1),k b b2⟩
  .cases h
noncomputable instance:CA T (ao ae):=OY KW
noncomputable instance[CE T (eo a)][CA T (ao b)]:CA T (ao (aa a b)):=J1 (eo a) (ao b) Ew
def MJ(U:Jd TA)[x:CA T U](k:∀{K E t},U K E t->J K E (GK t)):CE T J where
 chk Γ e:=(Dw e).any (x.chk Γ)
 ok c h:=by obtain⟨l,q,h⟩:=cb h;obtain⟨_,_,rfl⟩:=ud q;obtain⟨t,b,a⟩:=x.ok c h;exact⟨_,tZ b,k a⟩
def Oa(U:Jd TA)[x:CA T U](k:∀{K E t},U K E t->J K E (GW t)):CE T J where
 chk Γ e:=(Na e).any (x.chk Γ)
 ok c h:=by obtain⟨l,q,h⟩:=cb h;obtain⟨_,rfl⟩:=Ff q;obtain⟨t,b,a⟩:=x.ok c h;exact⟨_,tO b,k a⟩
noncomputable instance[CA T (ao a)]:CE T (eo (bM a)):=MJ (ao a) L8
noncomputable instance[CA T (ao a)]:CE T (eo (b7 a)):=Oa (ao a) KJ
class Fn (T:ck Fd) {φ:Type} (k:Nat->Str->ck Str->Nat->φ->Fd) (F:φ) (n:Nat) where
 i:Nat
 lv:Nat
 x:Str
 ps:ck Str
 h:T[i]?=ax (k lv x ps n F)
def N6(Γ:Gm)(i lv:Nat)(x:Str)(e:Ue):cv (Ue×ck Ue×Pos×Pos):=(yI e).bind λy=>match y.2.1 with
 |a::r=>(vN y.1).bind λz=>if z.1==x&&MB Γ x&&decide (i<Γ.top)&&decide (lv<=Γ.lv)&&(a::r).all lh&&y.2.2.1.isEmpty then ax (a,r,z.2,y.2.2.2)else CL
 |[]=>CL
theorem sV{Γ:Gm}{i lv:Nat}{x:Str}{e:Ue}{y:Ue×ck Ue×Pos×Pos}(h:N6 Γ i lv x e=ax y):e=.Call (.Name x y.2.2.1) (y.1::y.2.1) [] y.2.2.2/\MB Γ x=Ld/\i<Γ.top/\lv<=Γ.lv/\(y.1::y.2.1).all lh=Ld:=by
 obtain⟨⟨f,l,m,p⟩,q,a⟩:=UG.mp h;rw[pK q];dsimp only at a;split at a
 .obtain⟨z,b,d⟩:=UG.mp a
  obtain rfl:=qw b;split at d
  .rename_i z;cases d;simp only[Tu,decide_eq_true_eq,beq_iff_eq,Vm]at z;obtain⟨⟨⟨⟨⟨rfl,b⟩,k⟩,j⟩,g⟩,rfl⟩:=z;exact⟨rfl,b,k,j,g⟩
  .cases d
 .cases a
def HL(U:Jd TA){φ:Type}(k0:Nat->Str->ck Str->Nat->φ->Fd)(F:φ)(n:Nat)[o:Fn T k0 F n][u:CA T U](rz:Bool)(k:∀{X:Cx} {E lv x ps t e r p q},k0 lv x ps n F X.prog X.w X.K X.mg X.base->(rz=Ld->jH (L4.nU X.prog X.w) X E)->Wj lv X.A->Gl X x->(x==("__debug__":Str))=Tx->(e::r).all lh=Ld->PA X (e::r) t->U X.K E t->∃t',PE X (.Call (.Name x p) (e::r) [] q) t'/\J X.K E t'):CE T J where
 chk Γ e:=(!rz||Γ.rz)&&(N6 Γ o.i o.lv o.x e).any λy=>u.chk Γ (y.1::y.2.1)
 ok c h:=by rw[Tu]at h;obtain⟨y,q,f⟩:=cb h.2;obtain⟨rfl,g,hi,b,a⟩:=sV q;obtain⟨m,l,_⟩:=pY c g;obtain⟨t,j,d⟩:=u.ok c f;exact k (c.fs _ _ hi o.h) (λz=>OG c (by have:=h.1;rw[z]at this;exact this)) (c.rm.mono b) m l a j d
noncomputable instance[Fn T V6 F n][CA T (ao a)]:CE T (eo (aK F n a)):=HL (ao a) V6 F n Tx λf _ r g d p e b=>⟨_,tK f r e (TQ _) g d (g8 p) (l7 p),Mc b⟩
noncomputable instance[Fn T fdE F n][CA T (ao a)]:CE T (eo (jU F n a)):=HL (ao a) fdE F n Ld λf x r g d p e b=>⟨_,L4.x5 f (x rfl) r e (TQ _) g d (g8 p) (l7 p),Fx b⟩
class CB (f:ck D->cv RV) where
 x:Str
 v:Tw
 b:UK x=ax v
 y:(∃id,v=.builtin id)\/∃ty,v=.type ty
 ok:∀{X:Cx},X.calm=Ld->∃r,Wn X v r/\yg X.K r f
def Ak(Γ:Gm)(x:Str)(e:Ue):cv (Ue×ck Ue×Pos×Pos):=if blt Γ x then N6 {Γ with top:=1} 0 0 x e else CL
theorem lF{Γ:Gm}{x:Str}{e:Ue}{y:Ue×ck Ue×Pos×Pos}(h:Ak Γ x e=ax y):e=.Call (.Name x y.2.2.1) (y.1::y.2.1) [] y.2.2.2/\blt Γ x=Ld/\(y.1::y.2.1).all lh=Ld:=by
 unfold Ak at h;split at h
 .rename_i z;obtain⟨b,_,_,_,a⟩:=sV h;exact⟨b,z,a⟩
 .cases h
theorem sY{Γ:Gm}{X:Cx}{E:XK}{x:Str}{v:Tw}{r:ck V->Hp->VK->Prop}{e:Ue}{l:ck Ue}{p q:Pos}{t:TA}(c:Ct T Γ X E)(j:blt Γ x=Ld)(b:UK x=ax v)(y:(∃id,v=.builtin id)\/∃ty,v=.type ty)(k:Wn X v r)(a:(e::l).all lh=Ld)(h:PA X (e::l) t):PE X (.Call (.Name x p) (e::l) [] q) (G2 r t):=by
 obtain⟨i,f,g,d⟩:=mQ c j;rcases y with⟨id,rfl⟩|⟨id,rfl⟩
 .exact dg k i f b h d g (g8 a) (l7 a)
 .exact zC k i f b h d g (g8 a) (l7 a)
def QJ(U:Jd TA)(f:ck D->cv RV)[o:CB f][u:CA T U](k:∀{K E r t},yg K r f->U K E t->J K E (G2 r t)):CE T J where
 chk Γ e:=(Ak Γ o.x e).any λy=>u.chk Γ (y.1::y.2.1)
 ok c h:=by obtain⟨y,q,l⟩:=cb h;obtain⟨rfl,g,i⟩:=lF q;obtain⟨t,m,j⟩:=u.ok c l;obtain⟨r,d,a⟩:=o.ok c.cm;exact⟨_,sY c g o.b o.y d i m,k a j⟩
noncomputable instance[CB f][CA T (ao a)]:CE T (eo (b8 f a)):=QJ (ao a) f N4
noncomputable instance:CB bF:=⟨"len",_,Dm,.inl ⟨_,rfl⟩,λ_=>⟨_,vw,KZ⟩⟩
noncomputable instance:CB nI:=⟨"len",_,Dm,.inl ⟨_,rfl⟩,λ_=>⟨_,vw,Fj⟩⟩
noncomputable instance:CB iJ:=⟨"tuple",_,Ft,.inr ⟨_,rfl⟩,λ_=>⟨_,qZ,D3⟩⟩
noncomputable instance:CB mV:=⟨"all",_,Pu,.inl ⟨_,rfl⟩,λh=>⟨_,CM h,Jg⟩⟩
noncomputable instance:CB xt:=⟨"int",_,Ip,.inr ⟨_,rfl⟩,λ_=>⟨_,zx,JO⟩⟩
noncomputable instance:CB vG:=⟨"int",_,Ip,.inr ⟨_,rfl⟩,λ_=>⟨_,Au,FC⟩⟩
noncomputable instance:CB mY:=⟨"str",_,M4,.inr ⟨_,rfl⟩,λ_=>⟨_,tX,KO⟩⟩
noncomputable instance:CB zj:=⟨"list",_,Kl,.inr ⟨_,rfl⟩,λ_=>⟨_,uc,Fv⟩⟩
noncomputable instance:CB L9.mh:=⟨"sorted",_,B4,.inl ⟨_,rfl⟩,λ_=>⟨_,L9.ue,L9.v6⟩⟩
noncomputable instance:CB jp:=⟨"max",_,M0,.inl ⟨_,rfl⟩,λh=>⟨_,zZ h,Fu⟩⟩
def Ry(Γ:Gm)(x y:Str)(i:Int)(e:Ue):cv Ue:=(yI e).bind λc=>match c.2.1,c.2.2.1 with
 |[l],[⟨ax w,v,_⟩]=>if(vN c.1).any (λz=>z.1==x)&&blt Γ x&&w==y&&((vC v).bind cD).any (λz=>dq 2 z (.int i))&&lh l then ax l else CL
 |_,_=>CL
theorem J8{Γ:Gm}{x y:Str}{i:Int}{e l:Ue}(h:Ry Γ x y i e=ax l):(∃p p1 p2 p3 j,e=.Call (.Name x p) [l] [⟨ax y,.Constant (.int i) j p1,p2⟩] p3)/\blt Γ x=Ld/\lh l=Ld:=by
 obtain⟨⟨f,a,F,p⟩,q,b⟩:=UG.mp h;rw[pK q];dsimp only at b;split at b
 .split at b
  .rename_i z;cases b;simp only[Tu,beq_iff_eq]at z;obtain⟨⟨⟨⟨o,m⟩,rfl⟩,k⟩,g⟩:=z;obtain⟨n,E,w⟩:=cb o;obtain⟨d,v,u⟩:=cb k;obtain⟨c,t,r⟩:=UG.mp v;obtain rfl:=uF _ _ _ u;obtain⟨j,p1,rfl⟩:=HX t;cases c<;>cases r;rw[qw E,beq_iff_eq.mp w];exact⟨⟨_,_,_,_,_,rfl⟩,m,g⟩
  .cases b
 .cases b
noncomputable instance[x:CE T (eo a)]:CE T (eo (B9 qL a)) where
 chk Γ e:=(PK e).any λy=>(match y.1 with|.USub=>Ld|_=>Tx)&&x.chk Γ y.2
 ok c h:=by obtain⟨⟨o,e⟩,q,b⟩:=cb h;obtain⟨_,rfl⟩:=xq q;rw[Tu]at b;obtain⟨t,f,d⟩:=x.ok c b.2;cases o<;>first|exact⟨_,Ik DL f,Nv FP d⟩|cases b.1
noncomputable instance:CO T (oo cH):=⟨λ_ e=>e.isNone,λ_ h=>by rw[Z8.mp h];exact⟨_,FY,B5⟩⟩
noncomputable instance[x:CE T (eo a)]:CO T (oo (bK a)) where
 chk Γ e:=e.any (x.chk Γ)
 ok c h:=by obtain⟨e,q,f⟩:=cb h;subst q;obtain⟨t,d,b⟩:=x.ok c f;exact⟨_,EY d,Dp b⟩
class SOp (f:D->cv Int->cv Int->cv RV) where
 ok:∀{X:Cx},∃r,Ia X r/\Pv X.K r f
noncomputable instance:SOp ur:=⟨⟨_,Bx,sh⟩⟩
noncomputable instance:SOp Fz:=⟨⟨_,Gh,ML⟩⟩
noncomputable instance:SOp aX:=⟨⟨_,JG,G3⟩⟩
noncomputable instance[o:SOp f][x:CE T (eo a)][m:CO T (oo l)][n:CO T (oo u)]:CE T (eo (ke f a l u)) where
 chk Γ e:=(GJ e).any λy=>(RD y.2.1).any λz=>z.2.2.isNone&&x.chk Γ y.1&&m.chk Γ z.1&&n.chk Γ z.2.1
 ok c h:=by obtain⟨⟨e,s,p⟩,q,E⟩:=cb h;rw[tR q];obtain⟨⟨H,G,F⟩,g,d⟩:=cb E;obtain⟨_,b⟩:=KR g;have b:s=_:=b;subst b;simp only[Tu,Z8]at d;obtain⟨⟨⟨rfl,w⟩,v⟩,k⟩:=d;obtain⟨t,j,i⟩:=x.ok c w;obtain⟨K,k3,k4⟩:=m.ok c v;obtain⟨I,k5,k6⟩:=n.ok c k;obtain⟨r,k7,k8⟩:=o.ok;exact⟨_,Bs k7 j k3 k5,O8 k8 i k4 k6⟩
def OP(op:BoolOp)(A B:Jd TE)[x:CE T A][y:CE T B]{f:TE->TE->TE}(p:∀{X:Cx} {a b pos ta tb},PE X a ta->PE X (.BoolOp op [b] pos) tb->PE X (.BoolOp op [a,b] pos) (f ta tb))(k:∀{K E ta tb},A K E ta->B K E tb->J K E (f ta tb)):CE T J where
 chk Γ e:=(QT e).any λz=>decide (z.1=op)&&match z.2.1 with
  |[l,r]=>x.chk Γ l&&y.chk Γ r
  |_=>Tx
 ok c h:=by
  obtain⟨⟨o,l,p⟩,q,g⟩:=cb h;rw[AK q];simp only[Tu,decide_eq_true_eq]at g;obtain⟨rfl,d⟩:=g;split at d
  .rw[Tu]at d;obtain⟨ta,m,j⟩:=x.ok c d.1;obtain⟨tb,i,b2⟩:=y.ok c d.2;exact⟨_,p m (Jz i),k j b2⟩
  .cases d
noncomputable instance[CE T (eo a)][CE T (eo b)]:CE T (eo (j8 a b)):=OP .And (eo a) (eo b) JH Lm
def Sa(o p:abr)(e:Ue):cv (Ue×Ue×Ue):=(JL e).bind λx=>match x.2.2 with
 |[b,c]=>if x.2.1=[o,p]&& !lastMarks [o,p] [b,c]then ax (x.1,b,c)else CL
 |_=>CL
theorem K9{o p:abr}{e:Ue}{y:Ue×Ue×Ue}(h:Sa o p e=ax y):∃pos,e=.Compare y.1 [o,p] [y.2.1,y.2.2] pos/\lastMarks [o,p] [y.2.1,y.2.2]=Tx:=by
 obtain⟨⟨a,u,b⟩,q,d⟩:=UG.mp h;obtain⟨_,rfl⟩:=yW q;dsimp only at d;split at d
 .split at d
  .rename_i z;cases d;rw[Tu,decide_eq_true_eq,UX]at z;exact⟨_,by rw[z.1],z.2⟩
  .cases d
 .cases d
section
variable{f g:D->D->cv RV}{a b d:FE}[o:COp f][p:COp g][x:CE T (eo a)][y:CE T (eo b)][v:CE T (eo d)]
def IP(x:CE T (eo a))(y:CE T (eo b))(v:CE T (eo d))(o:COp f)(p:COp g)(Γ:Gm)(e:Ue):Bool:=(Sa o.op p.op e).any λw=>x.chk Γ w.1&&y.chk Γ w.2.1&&v.chk Γ w.2.2
theorem yw{Γ X E e}(c:Ct T Γ X E)(h:IP x y v o p Γ e=Ld):∃t,PE X e t/\PT X e (rh t)/\EO X.K E t (cx f g a b d):=by obtain⟨w,q,i⟩:=cb h;obtain⟨u,rfl,j⟩:=K9 q;simp only[Tu]at i;obtain⟨ta,n,G⟩:=x.ok c i.1.1;obtain⟨tb,m,b2⟩:=y.ok c i.1.2;obtain⟨H,l,F⟩:=v.ok c i.2;obtain⟨r,k,z⟩:=o.ok (rE c.rm);obtain⟨s,k3,k4⟩:=p.ok (rE c.rm);exact⟨_,Bc k k3 n m l j,Dl k k3 n m l j,Eb z k4 G b2 F⟩
noncomputable instance:CE T (eo (cx f g a b d)):=⟨IP x y v o p,λc h=>let⟨_,h1,_,h2⟩:=yw c h;⟨_,h1,h2⟩⟩
end
def Sw(A:Jd TE)[x:CE T A](k:∀{K E t},A K E t->Q K E (tB t)):CT T Q where
 chk Γ e:=MV e&&x.chk Γ e
 ok c h:=by rw[Tu]at h;obtain⟨t,b,a⟩:=x.ok c h.2;exact⟨_,AW b (Gn h.1),k a⟩
def Nh(A B:Jd TE){f:D->D->cv RV}[o:COp f][x:CE T A][y:CE T B](k:∀{K E r ta tb},jY K r f->A K E ta->B K E tb->Q K E (rh (Fp r ta tb))):CT T Q where
 chk Γ e:=(Q2 o.op e).any λp=>x.chk Γ p.1&&y.chk Γ p.2
 ok c h:=by obtain⟨p,q,a⟩:=cb h;rw[Tu]at a;obtain⟨ta,l,j⟩:=x.ok c a.1;obtain⟨tb,i,b2⟩:=y.ok c a.2;obtain⟨_,rfl,b⟩:=BJ q;obtain⟨r,g,d⟩:=o.ok (rE c.rm);exact⟨_,fq g l i b,k d j b2⟩
noncomputable instance[CE T (eo a)]:CT T (nW (ag a)):=Sw (eo a) OX
noncomputable instance[COp f][CE T (eo a)][CE T (eo b)]:CT T (nW (ag (ah f a b))):=Nh (eo a) (eo b) λg e d=>jr (Ix g e d)
noncomputable instance[o:COp f][p:COp g][x:CE T (eo a)][y:CE T (eo b)][v:CE T (eo d)]:CT T (nW (ag (cx f g a b d))):=⟨IP x y v o p,λc h=>let⟨_,_,h1,h2⟩:=yw c h;⟨_,h1,jr h2⟩⟩
def Pc(R:Jd TT)[z:CT T R](k:∀{K E t},R K E t->Q K E (Hf t)):CT T Q where
 chk Γ e:=(PK e).any λy=>(match y.1 with|.Not=>Ld|_=>Tx)&&z.chk Γ y.2
 ok c h:=by obtain⟨⟨o,e⟩,q,a⟩:=cb h;obtain⟨_,rfl⟩:=xq q;rw[Tu]at a;obtain⟨t,d,b⟩:=z.ok c a.2;cases o<;>first|exact⟨_,B0 d,k b⟩|cases a.1
theorem Pr{X:Cx}{op:BoolOp}{vs:ck Ue}{a:Pos}{t:TT}(h:PT X (.BoolOp op vs a) t):PW X (.BoolOp op vs a) t:=λ_=>h
def M9(op:BoolOp)(R S:Jd TT)[z:CT T R][v:CT T S]{f:TT->TT->TT}(F:∀{X:Cx} {a pos t},PT X a t->PW X (.BoolOp op [a] pos) t)(p:∀{X:Cx} {a b r pos ta tb},PT X a ta->PW X (.BoolOp op (b::r) pos) tb->PW X (.BoolOp op (a::b::r) pos) (f ta tb))(k:∀{K E ta tb},R K E ta->S K E tb->Q K E (f ta tb)):CT T Q where
 chk Γ e:=(QT e).any λy=>decide (y.1=op)&&match y.2.1 with
  |[l,m]=>z.chk Γ l&&v.chk Γ m
  |l::m::n::s=>z.chk Γ l&&v.chk Γ (.BoolOp op (m::n::s) y.2.2)
  |_=>Tx
 ok c h:=by
  obtain⟨⟨o,l,w⟩,q,u⟩:=cb h;rw[AK q];simp only[Tu,decide_eq_true_eq]at u;obtain⟨rfl,d⟩:=u;split at d
  .rw[Tu]at d;obtain⟨ta,j,i⟩:=z.ok c d.1;obtain⟨tb,g,b2⟩:=v.ok c d.2;exact⟨_,(p j (F g)).pt,k i b2⟩
  .rw[Tu]at d;obtain⟨ta,j,i⟩:=z.ok c d.1;obtain⟨tb,g,b2⟩:=v.ok c d.2;exact⟨_,(p j (Pr g)).pt,k i b2⟩
  .cases d
noncomputable instance[CT T (nW q)]:CT T (nW (d9 q)):=Pc (nW q) Gz
noncomputable instance[CT T (nW q)][CT T (nW r)]:CT T (nW (di q r)):=M9 .And (nW q) (nW r) EE LA Fe
noncomputable instance[CT T (nW q)][CT T (nW r)]:CT T (nW (iR q r)):=M9 .Or (nW q) (nW r) AU Hj IH
end
end CC
set_option warn.classDefReducibility false
namespace CC
open PySem L2 L3 L10
variable{T:ck Fd}{A B C J:Jd TE}{U Z:Jd TA}
theorem y6{α g:Type}:∀{l m:ck (α×g)},l.map (·.1)=m.map (·.1)->l.map (·.2)=m.map (·.2)->l=m
 |[],[],_,_=>rfl
 |[],_::_,h,_=>by cases h
 |_::_,[],h,_=>by cases h
 |(a,b)::l,(c,d)::m,h,k=>by
  injection h with f h2
  injection k with e k2
  have f:a=c:=f;have e:b=d:=e;rw[f,e,y6 h2 k2]
noncomputable instance{l:ck (D×D)}[x:CE T (eo a)]:CE T (eo (MA l a)) where
 chk Γ e:=(GJ e).any λy=>(R9 y.1).any λd=>((ahP d.1 d.2).any λm=>dq 9 (.tuple (m.map (·.1))) (.tuple (l.map (·.1)))&&dq 9 (.tuple (m.map (·.2))) (.tuple (l.map (·.2))))&&ahQ l&&decide (ahR l).Nodup&&d.1.all (·.isSome)&&decide (d.1.length=d.2.length)&&decide (0<d.1.length)&&decide (d.1.length<=15)&&lh y.2.1&&x.chk Γ y.2.1
 ok c h:=by obtain⟨⟨e,b,p⟩,q,N⟩:=cb h;rw[tR q];obtain⟨⟨E,vs⟩,w,v⟩:=cb N;obtain⟨_,j⟩:=Ka w;have j:e=_:=j;subst j;simp only[Tu,decide_eq_true_eq]at v;obtain⟨⟨⟨⟨⟨⟨⟨⟨M,L⟩,K⟩,I⟩,H⟩,u⟩,o⟩,n⟩,k⟩:=v;obtain⟨m,r,f⟩:=cb M;rw[Tu]at f;have i:=uF _ _ _ f.1;have g:=uF _ _ _ f.2;injection i with i;injection g with g;rw[y6 i g]at r;obtain⟨t,G,F⟩:=x.ok c k;exact⟨_,EK G r L K I H (λz=>by have z:E=[]:=z;rw[z]at u;cases u) o (A2 n),OC F⟩
def PL(x:Str)(e:Ue):cv (Ue×ck Ue×Pos×Pos):=(yI e).bind λy=>(RX y.1).bind λz=>if z.2.1==x&&Q5 z.1&&z.2.2.endLine==y.2.2.2.line&&y.2.1.all lh&&decide (y.2.1.length<20)&&y.2.2.1.isEmpty then ax (z.1,y.2.1,z.2.2,y.2.2.2)else CL
theorem xn{x:Str}{e:Ue}{y:Ue×ck Ue×Pos×Pos}(h:PL x e=ax y):e=.Call (.Attribute y.1 x y.2.2.1) y.2.1 [] y.2.2.2/\Q5 y.1=Ld/\(y.2.2.1.endLine==y.2.2.2.line)=Ld/\y.2.1.all lh=Ld/\y.2.1.length<20:=by
 obtain⟨⟨f,l,t,p⟩,q,u⟩:=UG.mp h;obtain⟨⟨o,n,r⟩,m,a⟩:=UG.mp u;rw[pK q,show f=_ from Iz m];split at a
 .rename_i z;cases a;simp only[Tu,decide_eq_true_eq,Vm]at z;obtain⟨⟨⟨⟨⟨k,j⟩,i⟩,g⟩,d⟩,b⟩:=z;refine⟨?_,j,i,g,d⟩;rw[show n=x from beq_iff_eq.mp k,show t=[]from b]
 .cases a
class MS (f:Str->ck D->cv RV) where
 x:Str
 ok:∀{X:Cx},∃id r,Slot "str" x id/\typeOf (.builtin id)=pure (.type "method_descriptor")/\Gk X id r/\Mq X.K r f
noncomputable instance[o:MS f][x:CE T (eo a)][u:CA T (ao b)]:CE T (eo (nA f a b)) where
 chk Γ e:=(PL o.x e).any λy=>decide (0<y.2.1.length)&&x.chk Γ y.1&&u.chk Γ y.2.1
 ok c h:=by
  obtain⟨⟨b,l,p,q⟩,z,g⟩:=cb h;obtain⟨rfl,K,I,d,H⟩:=xn z;simp only[Tu,decide_eq_true_eq]at g;obtain⟨⟨G,E⟩,w⟩:=g;obtain⟨t,v,n⟩:=x.ok c E;obtain⟨L,m,k⟩:=u.ok c w;obtain⟨id,r,j,i,k3,k4⟩:=o.ok;cases l with
  |nil=>cases G
  |cons e l=>exact⟨_,vA PySem.F.plainAttrs_str j i k3 v m (kW K) (uk d H) I (g8 d) (l7 d),MK k4 n k⟩
noncomputable instance:MS ie:=⟨"join",⟨_,_,PySem.F.slot_str_join,PySem.F.type_str_join,ES,En⟩⟩
noncomputable instance:MS de:=⟨"split",⟨_,_,PySem.F.slot_str_split,PySem.F.type_str_split,Bh,Df⟩⟩
noncomputable instance:MS kG:=⟨"startswith",⟨_,_,PySem.F.slot_str_startswith,PySem.F.type_str_startswith,zW,zV⟩⟩
def Oi(m:Str){id:String}{r:V->ck V->Hp->VK->Prop}(s:Slot "list" m id)(ty:typeOf (.builtin id)=pure (.type "method_descriptor"))(i:∀{X:Cx},Gk X id r)(g:Gm->Ue->Bool)(G:Jd TE)(A:Jd TE)[x:CE T A](j:∀{Γ X E e},Ct T Γ X E->g Γ e=Ld->∃t,PE X e t/\G X.K E t)(k:∀{K E to t},G K E to->A K E t->J K E (Ib K "list" r to (i6 t ou))):CE T J where
 chk Γ e:=(PL m e).any λy=>g Γ y.1&&match y.2.1 with
  |[e]=>x.chk Γ e
  |_=>Tx
 ok c h:=by
  obtain⟨⟨b,l,p,q⟩,z,f⟩:=cb h;obtain⟨rfl,H,F,a,I⟩:=xn z;rw[Tu]at f;obtain⟨w,d⟩:=f;obtain⟨to,v,u⟩:=j c w
  match l,a,d with
  |[e],a,d=>have a:[e].all lh=Ld:=a;obtain⟨t,o,n⟩:=x.ok c d;refine⟨Ib _ "list" r to (i6 t ou),?_,k u n⟩;exact vA WM s ty i v (au o bj (g8 a)) (kW H) (uk a (by show 1<20;decide)) F (g8 a) rfl
def vJ(i:Nat):Jd TE:=λ_ _ t=>t=lB i
noncomputable instance[CE T (eo a)]:CE T (eo (iU i a)):=Oi "append" PySem.F.slot_list_append PySem.F.type_list_append rJ (Aa i) (vJ i) (eo a) (λc h=>⟨_,pH c h,rfl⟩) λh k=>by cases h;exact Ly k
class FM (T:ck Fd) (rz:Bool) (C m:Str) (F:Aq) (n:Nat) where
 i:Nat
 lv:Nat
 ps:ck Str
 h:T[i]?=ax (Sn rz lv C m ps n F)
section
variable{C m:Str}{F:Aq}{n:Nat}
class FK (T:ck Fd) (C:Str) (F:Aq) (n:Nat) where
 i:Nat
 lv:Nat
 ps:ck Str
 h:T[i]?=ax (Tt lv C ps n F)
end
end CC
set_option warn.classDefReducibility false
namespace CC
open PySem L2 L3 L10
variable{T:ck Fd}{A B C J:Jd TE}{U Z:Jd TA}{Q R:Jd TT}
def Hc(i:Nat)(Γ:Gm)(e:Ue):Bool:=(vN e).any λx=>Γ.N[i]? ==ax x.1&&(Γ.sc.lookup x.1==ax .local||(Γ.sc.lookup x.1==ax .cell&&Γ.fc.contains x.1))
theorem sS{Γ:Gm}{X:Cx}{E:XK}{i:Nat}{e:Ue}(c:Ct T Γ X E)(h:Hc i Γ e=Ld):∃x p,e=.Name x p/\X.N[i]?=ax x/\L2.Ms X.env.scope x/\(X.fn x=Ld\/Xj x X.env.scope.names=ax Ua.local):=by
 obtain⟨⟨x,p⟩,q,a⟩:=cb h;simp only[Tu,Vt]at a;refine⟨x,p,qw q,by rw[c.n];exact beq_iff_eq.mp a.1,?_⟩;unfold L2.Ms;rw[c.sc];rcases a.2 with z|⟨z,w⟩
 .exact⟨.inl (fF z),.inr (fF z)⟩
 .exact⟨.inr (fF z),.inl (c.fc _ (abD.mp w))⟩
def QX{G:Jd TG}(i:Nat)(k:∀{K E},G K E (oa i)):CG T G where
 chk:=Hc i
 ok c h:=by obtain⟨x,p,rfl,d,b,a⟩:=sS c h;exact⟨_,⟨Gf c.nd d b a,λ_=>rfl⟩,k⟩
noncomputable instance:CG T (go (gN i)):=QX i sF
def Qa{G:Jd zO}(k:∀{K E},G K E KB):CH T G:=⟨λ_ l=>l.isEmpty,λ_ h=>by rw[Vm.mp h];exact⟨_,⟨EL,rfl,rfl⟩,k⟩⟩
noncomputable instance:CH T (gs wu):=Qa Jo
def QO{I:Jd zO}(G:Jd TG)(H:Jd zO)[x:CG T G][y:CH T H](k:∀{K E t u},G K E t->H K E u->I K E (D7 t u)):CH T I where
 chk Γ l:=match l with
  |e::r=>x.chk Γ e&&y.chk Γ r
  |[]=>Tx
 ok c h:=by
  split at h
  .rw[Tu]at h;obtain⟨ta,⟨g,a⟩,f⟩:=x.ok c h.1;obtain⟨tb,⟨d,b3,b⟩,b2⟩:=y.ok c h.2;exact⟨_,⟨Cz g d (by rw[a];rfl),by rw[a,TJ,TJ,b3],by rw[a,List.findIdx?_cons,b];rfl⟩,k f b2⟩
  .cases h
noncomputable instance[CG T (go g)][CH T (gs r)]:CH T (gs (l9 g r)):=QO (go g) (gs r) EX
def Qw{I:Jd TG}(n:Nat)(H:Jd zO)[y:CH T H](k:∀{K E t},H K E t->I K E (Kk K n t)):CG T I where
 chk Γ e:=(Dw e).any λl=>decide (l.length=n)&&y.chk Γ l
 ok c h:=by obtain⟨l,q,a⟩:=cb h;obtain⟨_,_,rfl⟩:=ud q;simp only[Tu,decide_eq_true_eq]at a;obtain⟨rfl,b⟩:=a;obtain⟨t,⟨i,f,d⟩,g⟩:=y.ok c b;exact⟨_,⟨JQ c.cm i f d,λ_=>rfl⟩,k g⟩
noncomputable instance[CH T (gs r)]:CG T (go (gT n r)):=Qw n (gs r) Lh
def N3(A:Jd TE){I:Jd TI}[x:CE T A]{f:cL->TE->TI}(p:∀{X:Cx} {tg e t},PE X e t->PI X tg e (f X.K t))(k:∀{K E t},A K E t->I K E (f K t)):CI T I where
 chk Γ p:=lh p.2&&x.chk Γ p.2
 ok c h:=by rw[Tu]at h;obtain⟨t,b,a⟩:=x.ok c h.2;exact⟨_,⟨p b,h.1⟩,k a⟩
noncomputable instance[CE T (eo a)]:CI T (io (hW a)):=N3 (eo a) Bz Ki
noncomputable instance[CE T (eo a)]:CI T (io (km a)):=N3 (eo a) (f:=λ_=>AR) Lx AQ
noncomputable instance[CI T (io f)]:CI T (Mz f):=Oh (A:=io f) λh=>L3.IO.s h
noncomputable instance:CI T (Mz (lu i)):=⟨λΓ p=>lh p.2&&Aa i Γ p.2,λc h=>by rw[Tu]at h;exact⟨_,⟨Bz (pH c h.2),h.1⟩,C5⟩⟩
noncomputable instance[u:CA T (ao a)]:CI T (io (hV d8 a)) where
 chk Γ p:=(Ak Γ "range" p.2).any λy=>y.2.1.isEmpty&&u.chk Γ [y.1]
 ok {Γ X E p} c h:=by obtain⟨⟨e,l,v,r⟩,q,b⟩:=cb h;obtain⟨z,g,f⟩:=lF q;simp only[Tu,Vm]at b;obtain⟨rfl,k⟩:=b;obtain⟨n,m,_⟩:=mQ c g;obtain⟨t,j,i⟩:=u.ok c k;obtain⟨o,d⟩:=p;have z:d=_:=z;subst z;exact⟨_,⟨z9 n m j (g8 f),rfl⟩,G6 i⟩
def Re(U:Jd TA){I:Jd TI}[u:CA T U](k:∀{K E t},U K E t->I K E (xb K t)):CI T I where
 chk Γ p:=oj p.1&&(Ak Γ "enumerate" p.2).any λy=>y.2.1.isEmpty&&u.chk Γ [y.1]
 ok {Γ X E p} c h:=by rw[Tu]at h;obtain⟨⟨e,l,w,v⟩,q,a⟩:=cb h.2;obtain⟨z,g,f⟩:=lF q;simp only[Tu,Vm]at a;obtain⟨rfl,m⟩:=a;obtain⟨r,o,_⟩:=mQ c g;obtain⟨t,j,i⟩:=u.ok c m;obtain⟨b,d⟩:=p;have z:d=_:=z;subst z;have n:oj b=Ld:=h.1;obtain⟨_,_,_,rfl⟩:=mn n;exact⟨_,⟨CF r o j (g8 f),rfl⟩,k i⟩
noncomputable instance[CA T (ao a)]:CI T (io (L3.ph a)):=Re (ao a) Ey
noncomputable instance[u:CA T (ao a)]:CI T (io (nF a)) where
 chk Γ p:=oj p.1&&(Ry Γ "enumerate" "start" 1 p.2).any λl=>u.chk Γ [l]
 ok {Γ X E p} c h:=by rw[Tu]at h;obtain⟨l,q,j⟩:=cb h.2;obtain⟨⟨_,_,_,_,_,z⟩,g,e⟩:=J8 q;obtain⟨n,m,_⟩:=mQ c g;obtain⟨t,i,f⟩:=u.ok c j;obtain⟨b,d⟩:=p;have z:d=_:=z;subst z;have k:oj b=Ld:=h.1;obtain⟨_,_,_,rfl⟩:=mn k;exact⟨_,⟨DE n m i (Gd e),rfl⟩,A7 f⟩
noncomputable instance[u:CA T (ao a)]:CI T (io (zP a)) where
 chk Γ p:=oj p.1&&(Ak Γ "zip" p.2).any λy=>match y.2.1 with
  |[r]=>u.chk Γ [y.1,r]
  |_=>Tx
 ok {Γ X E p} c h:=by
  rw[Tu]at h;obtain⟨⟨e,l,w,v⟩,q,d⟩:=cb h.2;obtain⟨z,g,b⟩:=lF q;obtain⟨o,n,_⟩:=mQ c g;obtain⟨f,i⟩:=p;have z:i=_:=z;subst z;have m:oj f=Ld:=h.1
  match l,b,d with
  |[r],b,d=>have b:[e,r].all lh=Ld:=b;obtain⟨t,k,j⟩:=u.ok c d;obtain⟨_,_,_,rfl⟩:=mn m;exact⟨_,⟨IE o n k (g8 b) (l7 b),rfl⟩,Ln j⟩
end CC
set_option warn.classDefReducibility false
namespace CC
open PySem L2 L3 L10
variable{T:ck Fd}{A B C J:Jd TE}{U Z:Jd TA}{Q R:Jd TT}{G:Jd TG}{I:Jd TI}
noncomputable instance:CQ T (nW aU):=⟨λ_ l=>l.isEmpty,λ_ h=>by rw[Vm.mp h];exact⟨_,C9,D8⟩⟩
def Tr(Q:Jd TT)[z:CT T Q]:CQ T Q where
 chk Γ l:=match l with
  |[e]=>z.chk Γ e
  |_=>Tx
 ok c h:=by
  split at h
  .obtain⟨t,b,a⟩:=z.ok c h;exact⟨_,B7 b,a⟩
  .cases h
noncomputable instance[CT T (nW q)]:CQ T (nW q):=Tr (nW q)
def t0{τ:Type}(P:Jd (St->Hp->τ->Prop))(K:cL)(E:XK):St->Hp->τ->Prop:=λa H Q=>∀t,P K E t->t a H Q
def g0(P:Jd TG)(K:cL)(E:XK):TG:=λv a H Q=>∀t,P K E t->t v a H Q
class Cl {τ:Type} (P:Jd (St->Hp->τ->Prop)):Prop where
 cl:∀{K E},P K E (t0 P K E)
class ClG (P:Jd TG):Prop where
 cl:∀{K E},P K E (g0 P K E)
noncomputable instance:Cl (eo g):=⟨λB b O a H ρ Q R w _ h=>h B b O a H ρ Q R w⟩
noncomputable instance:Cl (nW g):=⟨λB b O a H ρ Q R w _ h=>h B b O a H ρ Q R w⟩
noncomputable instance:ClG (go g):=⟨λB b O a H ρ v pv Q R p w _ h=>h B b O a H ρ v pv Q R p w⟩
def J3(e:Ue):ck Str:=((vN e).map (·.1)).toList++((Dw e).getD []).filterMap λe=>(vN e).map (·.1)
def J2(l:ck (Str×Ua)):ck Str:=(l.filter λy=>y.2==Ua.cell&&l.all λp=> !(p.1==y.1)|| !(p.2==Ua.free)).map (·.1)
def Ra(Γ:Gm)(l:ck (Str×Ua)):ck (Str×Ua):=l.map λp=>if(p.2==Ua.free&&(ScopeKind.function==ScopeKind.function)&&Γ.sc.lookup p.1==ax .cell)then(p.1,.cell)else p
def Gm.inn(Γ:Gm)(own:ck Str)(a:ck (Str×Nat))(sc:ck (Str×Ua)):Gm:={Γ with N:=own++a.map (·.1),sc:=Ra Γ sc,rz:=Tx,fa:=Tx,fc:=J2 sc}
def v4(Γ:Gm)(a:ck Nat):ck (Str×Nat):=a.filterMap λj=>(Γ.N[j]?).map λx=>(x,j)
def P8(Γ:Gm)(sc:V5)(a:ck (Str×Nat)):Bool:=a.all λp=>Γ.N[p.2]? ==ax p.1&&sc.names.lookup p.1==ax .free&&(Γ.sc.lookup p.1==ax .cell||Γ.sc.lookup p.1==ax .free)
theorem HM{Γ:Gm}{X:Cx}{E:XK}{sc:V5}(c:Ct T Γ X E):∀{a:ck (Str×Nat)},P8 Γ sc a=Ld->aaH X sc a
 |[],_=>trivial
 |p::r,h=>by unfold P8 at h;simp only[UR,Tu,Vt]at h;obtain⟨⟨⟨f,e⟩,d⟩,b⟩:=h;refine⟨⟨by rw[c.n];exact beq_iff_eq.mp f,fF e,?_⟩,HM c b⟩;rw[c.sc];exact d.imp fF fF
theorem yY{env:Env}{y:Str}:∀{l:ck (Str×Ua)} {acc:ck (Str×TM)},(∀p∈l,p.1=y->(p.2==Ua.free)=Tx)->acc.lookup y=CL->(ic env l acc).lookup y=CL
 |[],_,_,h=>h
 |(n,k)::r,acc,h,ha=>by
  have a:=λacc=>yY (env:=env) (y:=y) (l:=r) (acc:=acc) λp b=>h p (TH _ b);unfold ic;split
  .rename_i q
   have ne:n≠y:=λe=>by rw[h (n,k) TC e]at q;cases q
   split
   .exact a _ (by rw[UN,show(y==n)=Tx from beq_eq_false_iff_ne.mpr (en ne)];exact ha)
   .exact a _ ha
  .exact a _ ha
theorem Di{env:Env}{l:ck (Str×Ua)}{y:Str}(h:y∈J2 l):((ic env l []).lookup y).isNone=Ld:=by
 obtain⟨p,d,rfl⟩:=TZ.mp h;obtain⟨_,a⟩:=VJ.mp d;rw[Tu]at a;rw[yY (λq b e=>?_) rfl]
 .rfl
 .have:=Vy.mp a.2 q b;rw[e,ez]at this;revert this;cases q.2==Ua.free<;>intro h<;>first|rfl|cases h
structure Lc(T:ck Fd)(Γ':Gm)(X:Cx)(E:XK)(n:Nat)(fj:ck Nat)(I:Jd TI)(G:Jd TG)(Q:Jd TT)(A:Jd TE)(sc:V5)(elt:Ue)(cp:Xz) where
 own:ck Str
 fv:ck (Str×Nat)
 wi:TI
 e:cp.is_async=0
 ln:own.length=n
 fj:fv.map (·.2)=fj
 pi:PI X cp.target cp.iter wi
 i:I X.K E wi
 pg:∀s H C fp,PG (cq X s H sc C (dw own fv) fp) cp.target (g0 G X.K E0)
 g:G X.K E0 (g0 G X.K E0)
 pq:∀s H C fp,wU (cq X s H sc C (dw own fv) fp) cp.ifs (t0 Q X.K E0)
 q:Q X.K E0 (t0 Q X.K E0)
 pe:∀s H C fp,PE (cq X s H sc C (dw own fv) fp) elt (t0 A X.K E0)
 a:A X.K E0 (t0 A X.K E0)
 fvk:aaH X sc fv
 fr:(sc.names.all λy=> !(y.2==Ua.free)||X.env.scope.names.lookup y.1==ax .cell||X.env.scope.names.lookup y.1==ax .free)=Ld
 kd:sc.kind=.function
 nd:(sc.names.map (·.1)).Nodup
 nm:∀y∈sc.names,y.2=.local->sc.names.lookup y.1=ax .local
 fold:∀z,foldedSetIterable cp.iter X.env z=pure z
 ct:∀s H C fp W E',Ct T Γ' ((cq X s H sc C (dw own fv) fp).Yp W) E'
def Et(n:Nat)(fj:ck Nat)(i:CI T I)(g:CG T G)(w:CQ T Q)(x:CE T A)(Γ:Gm)(elt:Ue)(cp:Xz)(sc:V5):Bool:=
 let own:=J3 cp.target
 let fv:=v4 Γ fj
 let Γ':=Γ.inn own fv sc.names
 decide (own.length=n)&&decide (fv.map (·.2)=fj)&&decide (cp.is_async=0)&&P8 Γ sc fv&&(sc.names.all λy=> !(y.2==Ua.free)||Γ.sc.lookup y.1==ax .cell||Γ.sc.lookup y.1==ax .free)&&decide (sc.kind=.function)&&decide ((sc.names.map (·.1)).Nodup)&&(sc.names.all λy=> !(y.2==Ua.local)||sc.names.lookup y.1==ax .local)&&decide ((own++fv.map (·.1)).Nodup)&&i.chk Γ (cp.target,cp.iter)&&g.chk Γ' cp.target&&w.chk Γ' cp.ifs&&x.chk Γ' elt
theorem yH[Cl A][Cl Q][ClG G]{i:CI T I}{g:CG T G}{w:CQ T Q}{x:CE T A}{n:Nat}{d:ck Nat}{Γ:Gm}{X:Cx}{E:XK}{k:Ue}{cp:Xz}{sc:V5}(c:Ct T Γ X E)(h:Et n d i g w x Γ k cp sc=Ld):Nonempty (Lc T (Γ.inn (J3 cp.target) (v4 Γ d) sc.names) X E n d I G Q A sc k cp):=by
 unfold Et at h;simp only[Tu,decide_eq_true_eq]at h;obtain⟨⟨⟨⟨⟨⟨⟨⟨⟨⟨⟨⟨h1,h2⟩,h3⟩,N⟩,M⟩,k3⟩,k4⟩,k5⟩,k6⟩,Y⟩,S⟩,P⟩,O⟩:=h;obtain⟨q,⟨L,F⟩,K⟩:=i.ok c Y;have ct:∀s H C a W p,Ct T (Γ.inn (J3 cp.target) (v4 Γ d) sc.names) ((cq X s H sc C (dw (J3 cp.target) (v4 Γ d)) a).Yp W) p:=λs H C a W p=>
  ⟨rfl,k6,by show(relabel sc X.env).names=Ra Γ sc.names;unfold relabel Ra Env.kindOf;rw[c.kd,c.sc],k3,c.cm,c.rm,λz=>(ZA z),λz=>(ZA z),λy l=>Di l,c.md,c.fs⟩
 have m:∀s H C a,Ct T (Γ.inn (J3 cp.target) (v4 Γ d) sc.names) (cq X s H sc C (dw (J3 cp.target) (v4 Γ d)) a) E0:=λs H C a=>ct s H C a _ E0;refine⟨⟨J3 cp.target,v4 Γ d,q,h3,h1,h2,L,K,λs H C a=>?_,ClG.cl,λs H C a=>?_,Cl.cl,λs H C a=>?_,Cl.cl,HM c N,?_,k3,k4,λy l e=>?_,yC F,ct⟩⟩
 .obtain⟨t,⟨j,_⟩,f⟩:=g.ok (m s H C a) S;exact λb s o H v u Q I r z=>j _ _ _ _ _ _ _ I r (z _ f)
 .obtain⟨t,j,f⟩:=w.ok (m s H C a) P;exact λb s o H Q I z=>j _ _ _ _ _ I (z _ f)
 .obtain⟨t,j,f⟩:=x.ok (m s H C a) O;exact λb s o H Q I z=>j _ _ _ _ _ I (z _ f)
 .rw[c.sc];exact M
 .have:=Vy.mp k5 y l;rw[e]at this;exact fF this
def Ju(e:Ue):cv (Ue×Xz×V5×Pos):=(Rv e).bind λy=>match y.2.1 with
 |[cp]=>ax (y.1,cp,y.2.2)
 |_=>CL
theorem yh{e:Ue}{y:Ue×Xz×V5×Pos}(h:Ju e=ax y):e=.ListComp y.1 [y.2.1] y.2.2.1 y.2.2.2:=by
 obtain⟨⟨a,l,s,p⟩,q,b⟩:=UG.mp h;rw[Ll q]
 match l,b with
 |[cp],b=>cases b;rfl
def QZ(I:Jd TI)(G:Jd TG)(Q:Jd TT)(A:Jd TE)[Cl A][Cl Q][ClG G][i:CI T I][g:CG T G][w:CQ T Q][x:CE T A](n:Nat)(d:ck Nat)(k:∀{K E own fv wi g tc te},own.length=n->fv.map (·.2)=d->I K E wi->G K E0 g->Q K E0 tc->A K E0 te->J K E (vM own fv wi g tc te)):CE T J where
 chk Γ e:=(Ju e).any λy=>Et n d i g w x Γ y.1 y.2.1 y.2.2.1
 ok c h:=by obtain⟨⟨m,o,u,p⟩,q,j⟩:=cb h;rw[yh q];obtain⟨l⟩:=yH c j;obtain⟨t,b,f,r⟩:=o;obtain rfl:r=0:=l.e;exact⟨_,yP l.own l.fv c.cm l.pi l.pg l.pq l.pe l.fvk l.fr l.kd l.nd l.nm l.fold,k l.ln l.fj l.i l.g l.q l.a⟩
noncomputable instance[CI T (Mz f)][CG T (go g)][CQ T (nW q)][CE T (eo a)]:CE T (eo (bE n l f g q a)):=QZ (Mz f) (go g) (nW q) (eo a) n l uV
end CC
set_option warn.classDefReducibility false
namespace CC
open PySem L2 L3 L10
variable{T:ck Fd}{A B C J:Jd TE}{U Z:Jd TA}{Q R:Jd TT}{G:Jd TG}{I:Jd TI}{S Y X:Jd TS}
def Pd:Wo->cv (Ue×ck Wo×ck Wo)
 |.If c a b _=>ax (c,a,b)
 |_=>CL
def Ic:Wo->cv (cv Ue)
 |.Return e _=>ax e
 |_=>CL
def Hs:Wo->cv Ue
 |.Expr e _=>ax e
 |_=>CL
def y1:Wo->cv (Ue×Ue)
 |.Assign [t] e _=>ax (t,e)
 |_=>CL
def Ie:Wo->cv (Ue×Ue×ck Wo)
 |.For t i b [] _=>ax (t,i,b)
 |_=>CL
def KU:Wo->cv Ue
 |.Raise (ax e) CL _=>ax e
 |_=>CL
section
variable{s:Wo}
theorem Fw(h:Pd s=ax x):∃p,s=.If x.1 x.2.1 x.2.2 p:=rS (P:=λx=>∃p,s=.If x.1 x.2.1 x.2.2 p) (by cases s<;>first|exact trivial|exact⟨_,rfl⟩) h
theorem Bm(h:Ic s=ax x):∃p,s=.Return x p:=rS (P:=λx=>∃p,s=.Return x p) (by cases s<;>first|exact trivial|exact⟨_,rfl⟩) h
theorem AM(h:Hs s=ax x):∃p,s=.Expr x p:=rS (P:=λx=>∃p,s=.Expr x p) (by cases s<;>first|exact trivial|exact⟨_,rfl⟩) h
theorem pD(h:y1 s=ax x):∃p,s=.Assign [x.1] x.2 p:=rS (P:=λx=>∃p,s=.Assign [x.1] x.2 p) (by cases s<;>first|exact trivial|(rename_i l _ _;rcases l with _|⟨t,_|⟨_,_⟩⟩<;>first|exact trivial|exact⟨_,rfl⟩)) h
theorem Dc(h:Ie s=ax x):∃p,s=.For x.1 x.2.1 x.2.2 [] p:=rS (P:=λx=>∃p,s=.For x.1 x.2.1 x.2.2 [] p) (by cases s<;>first|exact trivial|(rename_i l _;cases l<;>first|exact trivial|exact⟨_,rfl⟩)) h
theorem yS(h:KU s=ax x):∃p,s=.Raise (ax x) CL p:=rS (P:=λx=>∃p,s=.Raise (ax x) CL p) (by cases s<;>first|exact trivial|(rename_i a b _;cases a<;>cases b<;>first|exact trivial|exact⟨_,rfl⟩)) h
end
def Td(S:Jd TS)[o:CU T S]:CS T S where
 chk Γ b:=match b with
  |[s]=>o.chk Γ s
  |_=>Tx
 ok c h:=by
  split at h
  .obtain⟨t,d,a⟩:=o.ok c h;exact⟨_,bh d,a⟩
  .cases h
noncomputable instance[CU T (so f)]:CS T (so f):=Td (so f)
noncomputable instance:CS T (so aC):=⟨λ_ b=>b.isEmpty,λ_ h=>by rw[Vm.mp h];exact⟨_,eZ,GY⟩⟩
def Ng(Y X:Jd TS)[o:CU T Y][n:CS T X](k:∀{K E t u},Y K E t->X K E u->S K E (Eo t u)):CS T S where
 chk Γ b:=match b with
  |s::r=>o.chk Γ s&&n.chk Γ r
  |_=>Tx
 ok c h:=by
  split at h
  .rw[Tu]at h;obtain⟨t,f,e⟩:=o.ok c h.1;obtain⟨g,d,a⟩:=n.ok c h.2;exact⟨_,aH f d,k e a⟩
  .cases h
noncomputable instance[CU T (so f)][CS T (so g)]:CS T (so (aj f g)):=Ng (so f) (so g) IR
def Pk(Q:Jd TT)(Y X:Jd TS)[z:CT T Q][m:CS T Y][n:CS T X](k:∀{K E c t u},Q K E c->Y K E t->X K E u->S K E (Fm c t u)):CU T S where
 chk Γ s:=(Pd s).any λy=>z.chk Γ y.1&&m.chk Γ y.2.1&&n.chk Γ y.2.2
 ok c h:=by obtain⟨y,q,a⟩:=cb h;obtain⟨_,rfl⟩:=Fw q;simp only[Tu]at a;obtain⟨t,i,g⟩:=z.ok c a.1.1;obtain⟨l,f,e⟩:=m.ok c a.1.2;obtain⟨j,d,b⟩:=n.ok c a.2;exact⟨_,jV i f d,k g e b⟩
noncomputable instance[CT T (nW q)][CS T (so f)][CS T (so g)]:CU T (so (ce q f g)):=Pk (nW q) (so f) (so g) NX
def Ot(A:Jd TE)[x:CE T A](k:∀{K E t},A K E t->S K E (FB t)):CU T S where
 chk Γ s:=(Ic s).any λy=>y.any (x.chk Γ)
 ok c h:=by obtain⟨y,q,g⟩:=cb h;obtain⟨e,a,f⟩:=cb g;obtain⟨_,rfl⟩:=Bm q;subst a;obtain⟨t,d,b⟩:=x.ok c f;exact⟨_,jc d,k b⟩
noncomputable instance[CE T (eo a)]:CU T (so (aL a)):=Ot (eo a) IV
def Kr(A:Jd TE)[x:CE T A](k:∀{K E t},A K E t->S K E (xK t)):CU T S where
 chk Γ s:=(Hs s).any λe=>(lh e&& !KQ e)&&x.chk Γ e
 ok c h:=by obtain⟨y,q,a⟩:=cb h;obtain⟨_,rfl⟩:=AM q;have a:=(Tu _ _).mp a;obtain⟨t,d,b⟩:=x.ok c a.2;exact⟨_,oU d (yE a.1),k b⟩
noncomputable instance[CE T (eo a)]:CU T (so (cj a)):=Kr (eo a) F0
def NY(i:Nat)(A:Jd TE)[x:CE T A](k:∀{K E t},A K E t->S K E (uQ t (oa i))):CU T S where
 chk Γ s:=(y1 s).any λy=>(lh y.2&& !KQ y.2)&&(Hc i Γ y.1&&x.chk Γ y.2)
 ok c h:=by obtain⟨⟨d,e⟩,q,a⟩:=cb h;obtain⟨_,rfl⟩:=pD q;have a:=(Tu _ _).mp a;have b:=(Tu _ _).mp a.2;obtain⟨t,l,j⟩:=x.ok c b.2;obtain⟨y,p,z,g,f,k3⟩:=sS c b.1;have z:d=_:=z;subst z;exact⟨_,cw c.nd g f l (yE a.1) k3,k j⟩
noncomputable instance[CE T (eo a)]:CU T (so (aN a (gN i))):=NY i (eo a) λh=>wO h sF
def QA(A:Jd TE)(G:Jd TG)[x:CE T A][y:CG T G](k:∀{K E t g},A K E t->G K E g->S K E (uQ t g)):CU T S where
 chk Γ s:=(y1 s).any λz=>MV z.2&&oj z.1&&y.chk Γ z.1&&x.chk Γ z.2
 ok c h:=by obtain⟨⟨n,e⟩,q,a⟩:=cb h;obtain⟨_,rfl⟩:=pD q;simp only[Tu]at a;obtain⟨⟨⟨b,l⟩,j⟩,i⟩:=a;obtain⟨t,m,a⟩:=x.ok c i;obtain⟨o,⟨f,k3⟩,d⟩:=y.ok c j;obtain⟨_,_,_,rfl⟩:=mn l;exact⟨_,Jl m f (EF b) (zD b) (by rw[k3];rfl),k a d⟩
noncomputable instance[CE T (eo a)][CH T (gs r)]:CU T (so (aN a (gT n r))):=QA (eo a) (go (gT n r)) wO
theorem KY{elt cp sc x p n}{a:Pos}{env:Env}(h:env.kindOf x=ax .cell):X1 (.ListComp elt [cp] sc a) (ax (.Name x p)) n env=pure Tx:=by show(pure _:Sem Bool)=_;rw[h];congr 1;show(((_&&Tx)&&_)&&_)=Tx;rw[Bool.and_false];rfl
def NN(I:Jd TI)(G:Jd TG)(Q:Jd TT)(A:Jd TE)[Cl A][Cl Q][ClG G][ii:CI T I][g:CG T G][w:CQ T Q][x:CE T A](n:Nat)(fj:ck Nat)(i:Nat)(k:∀{K E own fv wi g tc te},own.length=n->fv.map (·.2)=fj->I K E wi->G K E0 g->Q K E0 tc->A K E0 te->S K E (uQ (vM own fv wi g tc te) (oa i))):CU T S where
 chk Γ s:=(y1 s).any λz=>(vN z.1).any λv=>(Ju z.2).any λy=>Hc i Γ z.1&&(Γ.sc.lookup v.1==ax .cell||(Γ.sc.lookup v.1==ax .local&&v.2.line==y.2.2.2.line&& !(y.2.2.1.names.any λy=>y.1==v.1&&(y.2==.local||y.2==.cell))))&&Et n fj ii g w x Γ y.1 y.2.1 y.2.2.1
 ok c h:=by
  obtain⟨⟨tg,e⟩,q,h2⟩:=cb h;obtain⟨_,rfl⟩:=pD q;obtain⟨⟨v,vp⟩,q2,h3⟩:=cb h2;obtain⟨⟨elt,cp,sc,p⟩,q3,h4⟩:=cb h3;have z1:tg=_:=qw q2;have z2:e=_:=yh q3;subst z1 z2;simp only[Tu,UX,Vt]at h4;obtain⟨⟨hg,hl⟩,hc⟩:=h4;obtain⟨_,_,z,k1,k2,k3⟩:=sS c hg;cases z;obtain⟨l⟩:=yH c hc;obtain⟨tg,iter,ifs,as⟩:=cp;obtain rfl:as=0:=l.e;refine⟨_,?_,k l.ln l.fj l.i l.g l.q l.a⟩;rcases hl with hl|⟨⟨hl,hp⟩,ha⟩
  .have hl:=fF hl;rw[<-c.sc]at hl;exact cw c.nd k1 k2 (yP l.own l.fv c.cm l.pi l.pg l.pq l.pe l.fvk l.fr l.kd l.nd l.nm l.fold) (KY hl) k3
  .have hl:=fF hl;rw[<-c.sc]at hl;exact EZ l.own l.fv c.nd k1 hl c.cm l.pi l.pg l.pq l.pe l.fvk l.fr (MU c.kd hl hp ha) l.kd l.nd l.nm l.fold
noncomputable instance[CI T (Mz f)][CG T (go g)][CQ T (nW q)][CE T (eo a)]:CU T (so (aN (bE n l f g q a) (gN i))):=NN (Mz f) (go g) (nW q) (eo a) n l i λk j h e d b=>wO (uV k j h e d b) sF
def On(I:Jd TI)(G:Jd TG)(Y:Jd TS)[v:CI T I][y:CG T G][m:CS T Y](k:∀{K E wi g t},I K E wi->G K E g->Y K E t->S K E (KG wi g t)):CU T S where
 chk Γ s:=Γ.fa&&(Ie s).any λz=>v.chk Γ (z.1,z.2.1)&&y.chk Γ z.1&&m.chk Γ z.2.2
 ok c h:=by rw[Tu]at h;obtain⟨z,q,a⟩:=cb h.2;obtain⟨_,rfl⟩:=Dc q;simp only[Tu]at a;obtain⟨t,⟨i,e⟩,f⟩:=v.ok c a.1.1;obtain⟨l,⟨d,_⟩,b⟩:=y.ok c a.1.2;obtain⟨j,k3,k4⟩:=m.ok c a.2;exact⟨_,J6 (c.po h.1) c.cm i d k3 (yC e),k f b k4⟩
noncomputable instance[CI T (io f)][CG T (go g)][CS T (so b)]:CU T (so (hG f g b)):=On (io f) (go g) (so b) K0
def gm(M:Md)(N:ck Str)(st:Wo)(lv top:Nat)(rz:Bool):Gm:=⟨M,N,(az st).names,lv,rz,Ld,J2 (az st).names,top⟩
def Rb(N ps:ck Str)(sc:V5):Bool:=decide (sc.kind=.function)&& !sc.isCoroutine&& !sc.isGenerator&&decide N.Nodup&&decide (N.take ps.length=ps)&&ps.all (λx=>sc.names.lookup x==ax .local||sc.names.lookup x==ax .cell)&&sc.names.all (λy=> !(y.2==.free))
theorem Ds{N ps:ck Str}{sc:V5}(h:Rb N ps sc=Ld):V1 N ps sc:=by
 unfold Rb at h;simp only[Tu,decide_eq_true_eq,UX]at h;obtain⟨⟨⟨⟨⟨⟨l,k⟩,j⟩,i⟩,g⟩,f⟩,d⟩:=h;refine⟨l,k,j,i,g,λx b=>?_,λy a e=>?_⟩
 .have:=Vy.mp f x b;rw[Vt]at this;exact this.imp fF fF
 .have:=Vy.mp d y a;rw[e]at this;cases this
section
variable{P:Ug}{w:Ux}{K:cL}{mg:Str->cv Tw}{base:Heap}{f:TM}{Y:U3}{M:Md}{Z x:Str}{N ps:ck Str}{k n top:Nat}{st:Wo}
def WD(T:ck Fd)(S:Jd TS)[c:CS T S](M:Md)(N ps:ck Str)(st:Wo)(k top:Nat)(rz:Bool):Bool:=Rb N ps (az st)&&c.chk (gm M N st k top rz) (dr st)
theorem S9(a:acC K mg M)(fs:∀i Y,i<top->T[i]?=ax Y->Y P w K mg base)(S:V1 N ps (az st)){Wc A outer s H E}(b:Wj k (A.deeper (UA Z (az st) s.heap.objs.size f Wc))):Ct T (gm M N st k top Tx) (gx kS P w K mg base N Z (az st) f Wc A outer s H E).nox E:=
 ⟨rfl,S.nd,rfl,S.kind,rfl,b,λ_=>acP.never,λz=>ZA z,λ_ _=>rfl,a,fs⟩
theorem S8(a:acC K mg M)(fs:∀i Y,i<top->T[i]?=ax Y->Y P w K mg base)(S:V1 N ps (az st)){Wc A outer s H E}(b:Wj k (A.deeper (UA Z (az st) s.heap.objs.size f Wc))):Ct T (gm M N st k top Ld) (gx (L4.nU P w) P w K mg base N Z (az st) f Wc A outer s H E) E:=
 ⟨rfl,S.nd,rfl,S.kind,rfl,b,λ_=>acP.leaving,λ_=>⟨_,_,_,_,_,_,_,_,_,rfl⟩,λ_ _=>rfl,a,fs⟩
theorem Wb{g:FS}{b:FN}[c:CS T (so g)](d:acC K mg M)(fs:∀i Y,i<top->T[i]?=ax Y->Y P w K mg base)(F:ZE K x Z st f Y)(h:WD T (so g) M N ps st k top Tx=Ld)(hn:ps.length=n:=by rfl)(j:b=bN N.length g:=by rfl):FnOk P w K mg base kS (k+1) f Y ps (sI K n b):=by have h:=(Tu _ _).mp h;have S:=Ds h.1;exact Rq F S hn rfl j λl A a s H E e=>c.ok (S9 d fs S e) h.2
theorem adu{g:FS}{b:FN}[c:CS T (so g)](d:acC K mg M)(fs:∀i Y,i<top->T[i]?=ax Y->Y P w K mg base)(F:ZE K x Z st f Y)(h:WD T (so g) M N ps st k top Ld=Ld)(hn:ps.length=n:=by rfl)(j:b=bN N.length g:=by rfl):FnOk P w K mg base (L4.nU P w) (k+1) f Y ps (sI K n b):=by have h:=(Tu _ _).mp h;have S:=Ds h.1;exact L4.So F S hn rfl j λl A a s H E e=>c.ok (S8 d fs S e) h.2
end
section
variable{T:ck Fd}{P:Ug}{w:Ux}{K:cL}{mg:Str->cv Tw}{base:Heap}
theorem fs0:∀i fd,i<0->T[i]?=ax fd->fd P w K mg base:=λ_ _ h=>a7 h (Xt _)
theorem Xp{n:Nat}{x:Fd}(h:∀i fd,i<n->T[i]?=ax fd->fd P w K mg base)(e:T[n]?=ax x)(a:x P w K mg base):∀i fd,i<n+1->T[i]?=ax fd->fd P w K mg base:=λi fd hi q=>by
 rcases Nat.lt_succ_iff_lt_or_eq.mp hi with z|rfl
 .exact h i fd z q
 .rw[e]at q;cases q;exact a
theorem Qk{α:Type}{R:Str->α->Prop}{y:Str}{e:α}{l:ck (Str×α)}(h:R y e)(r:∀x d,l.lookup x=ax d->R x d):∀x d,((y,e)::l).lookup x=ax d->R x d:=λx d q=>by
 rw[UN]at q;split at q
 .rename_i z;rw[beq_iff_eq]at z;cases q;rw[z];exact h
 .exact r x d q
abbrev Mp(K:cL)(mg:Str->cv Tw):Str->D->Prop:=λx d=>∃v u,mg x=ax u/\RelV v u/\∀O H,DV O K H v d
theorem csN:∀x d,([]:ck (Str×D)).lookup x=ax d->Mp K mg x d:=λ_ _ h=>nomatch h
theorem csC{y:Str}{e:D}{l:ck (Str×D)}(h:Mp K mg y e)(r:∀x d,l.lookup x=ax d->Mp K mg x d):∀x d,((y,e)::l).lookup x=ax d->Mp K mg x d:=Qk h r
theorem csI{x:Str}{i:Int}{t:Tok}(h:mg x=ax (.int i t)):Mp K mg x (.int i):=⟨.int i,_,h,⟨_,rfl⟩,λ_ _=>.int i⟩
theorem csT{x y:Str}{t:Tok}(h:mg x=ax (.str y t)):Mp K mg x (.str y):=⟨.str y,_,h,⟨_,rfl⟩,λ_ _=>.str y⟩
theorem clN:∀C L,([]:ck (Str×ck Str)).lookup C=ax L->Og K C L:=λ_ _ h=>nomatch h
abbrev SQ(K:cL)(mg:Str->cv Tw)(x:Str):Prop:=∃C,T9 K T5 x=ax (ax (.ref C))/\mg x=ax (.ref C)/\W3 K C MR "ValueError.__new__"=Ld
theorem exN:∀x∈([]:ck Str),SQ K mg x:=λ_ h=>nomatch h
end
end CC
set_option warn.classDefReducibility false
namespace CC
open PySem L2 L3 L10
variable{T:ck Fd}
def Q7(n:String):Bool:=n== "int"||n== "bool"||n== "str"||n== "list"||n== "tuple"
theorem Kp{n:String}(h:Q7 n=Ld):(n= "int"\/n= "bool"\/n= "str"\/n= "list"\/n= "tuple")/\UK (Str.ofString n)=ax (.type n):=by unfold Q7 at h;simp only[Vt,beq_iff_eq]at h;rcases h with(((rfl|rfl)|rfl)|rfl)|rfl<;>exact⟨by simp,rfl⟩
noncomputable instance[x:CE T (eo a)]:CE T (eo (oY n a)) where
 chk Γ e:=(Ak Γ "isinstance" e).any λy=>match y.2.1 with
  |[b]=>(vN b).any (λz=>z.1==Str.ofString n)&&blt Γ (Str.ofString n)&&Q7 n&&x.chk Γ y.1
  |_=>Tx
 ok {Γ X E e} c h:=by
  obtain⟨⟨e,l,K,J⟩,q,i⟩:=cb h;obtain⟨rfl,g,f⟩:=lF q
  match l,f,i with
  |[b],f,i=>simp only[Tu]at i;obtain⟨⟨⟨d,B⟩,A⟩,w⟩:=i;obtain⟨z,m,d⟩:=cb d;have j:=qw m;obtain⟨k,I⟩:=z;have d:=beq_iff_eq.mp d;have d:k=_:=d;subst d;have j:b=_:=j;subst j;obtain⟨p,o⟩:=Kp A;obtain⟨H,F,G,C⟩:=mQ c B;obtain⟨t,u,r⟩:=x.ok c w;simp only[UR,Tu]at f;exact⟨_,sY c g bx (.inl ⟨_,rfl⟩) Ae (by simp only[UR,Tu];exact f) (au u (au (ym (v:=.ty _) H F o rfl C G) bj (kT f.2.1)) (kT f.1)),JN p r⟩
noncomputable instance:BOp nt:=Ko .Pow ⟨_,JM,F8⟩
noncomputable instance[z:CE T (eo a)]:CE T (eo (zy a)) where
 chk Γ e:=(PK e).any λy=>(match y.1 with|.Not=>Ld|_=>Tx)&&z.chk Γ y.2
 ok c h:=by obtain⟨⟨o,e⟩,q,b⟩:=cb h;obtain⟨_,rfl⟩:=xq q;rw[Tu]at b;obtain⟨t,f,d⟩:=z.ok c b.2;cases o<;>first|exact⟨_,JY f,IS d⟩|cases b.1
end CC
set_option warn.classDefReducibility false
namespace CC
open PySem L2 L3 L10
variable{T:ck Fd}{A B C J:Jd TE}{U Z:Jd TA}{Q R:Jd TT}
end CC
set_option warn.classDefReducibility false
namespace CC
open PySem L2 L3 L10
variable{T:ck Fd}{A B C J:Jd TE}{U Z:Jd TA}{Q R:Jd TT}
class IOp (f:D->D->cv RV) where
 op:adO
 ok:∀{X:Cx},∃ti,Sx X op ti/\jY X.K ti f
def vD:D->V
 |.int i=>.int i
 |_=>.VX
class api (l:ck D):Prop where
 h:∀K O H,VH O K H (l.map vD) l
abbrev Rj(lv:Nat)(C:Str)(ps:ck Str)(n:Nat)(F:Aq):Fd:=λP w K b a=>Hh P w K b a (L4.nU P w) lv C ps (Mw K n F)
class FKE (T:ck Fd) (C:Str) (F:Aq) (n:Nat) where
 i:Nat
 lv:Nat
 ps:ck Str
 h:T[i]?=ax (Rj lv C ps n F)
abbrev fdX(lv:Nat)(x f:Str):Fd:=λP w K d b=>∃(C B fI:TM) (oI:Obj) (a:U3) (ps:ck Str),L9.XC K C B fI/\K.lookup fI=ax oI/\Wx K (.ref fI)=Ld/\FnOk P w K d b kS lv fI a ps (L9.oV C f)/\Binds K a ps []/\T9 K T5 x=ax (ax (.ref C))/\d x=ax (.ref C)
class FX (T:ck Fd) (x f:Str) where
 i:Nat
 lv:Nat
 h:T[i]?=ax (fdX lv x f)
end CC
set_option warn.classDefReducibility false
namespace CC
open PySem L2 L3 L10
variable{T:ck Fd}{A B C J:Jd TE}{U Z:Jd TA}{Q R:Jd TT}
noncomputable instance[CE T (eo a)][CE T (eo b)]:CE T (eo (Mr a b)):=OP .Or (eo a) (eo b) MX Oz
noncomputable instance:MS vF:=⟨"find",⟨_,_,PySem.F.slot_str_find,PySem.F.type_str_find,E1,EA⟩⟩
noncomputable instance[CE T (eo a)]:CE T (eo (Ai i a)):=Oi "pop" PySem.F.slot_list_pop PySem.F.type_list_pop BX (Aa i) (vJ i) (eo a) (λc h=>⟨_,pH c h,rfl⟩) λh k=>by cases h;exact JC k
noncomputable instance[x:CE T (eo a)][y:CE T (eo b)]:CE T (eo (zm i a b)) where
 chk Γ e:=(PL "insert" e).any λw=>Aa i Γ w.1&&match w.2.1 with
  |[e,f]=>x.chk Γ e&&y.chk Γ f
  |_=>Tx
 ok {Γ X E e} c h:=by
  obtain⟨⟨b,l,p,q⟩,w,k⟩:=cb h;obtain⟨rfl,r,o,d,j⟩:=xn w;rw[Tu]at k;obtain⟨m,g⟩:=k;have z:=pH c m
  match l,d,j,g with
  |[e,f],d,j,g=>have d:[e,f].all lh=Ld:=d;rw[Tu]at g;obtain⟨tb,v,b2⟩:=x.ok c g.1;obtain⟨G,u,t⟩:=y.ok c g.2;have n:[f].all lh=Ld:=(Tu _ _▸d:_/\_).2;exact⟨_,vA WM Z4 PySem.F.type_list_insert zQ z (au v (au u bj (g8 n)) (g8 d)) (kW r) (uk d j) o (g8 d) (l7 d),Jk b2 t⟩
noncomputable instance[u:CA T (ao a)]:CE T (eo (L9.l6 a)) where
 chk Γ e:=(Ak Γ "len" e).any λy=>y.2.1.isEmpty&&(Ak Γ "set" y.1).any λz=>u.chk Γ (z.1::z.2.1)
 ok {Γ X E e} c h:=by obtain⟨⟨e,l,r,p⟩,q,f⟩:=cb h;obtain⟨rfl,g,d⟩:=lF q;simp only[Tu,Vm]at f;obtain⟨rfl,n⟩:=f;obtain⟨y,i,m⟩:=cb n;obtain⟨z,o,b⟩:=lF i;have z:e=_:=z;subst z;obtain⟨t,k,j⟩:=u.ok c m;exact⟨_,sY c g Dm (.inl ⟨_,rfl⟩) L9.uP d (au (sY c o L9.Ni (.inr ⟨_,rfl⟩) (L9.ze c.cm) b k) bj (g8 d)),L9.zg j⟩
noncomputable instance{k f:Str}[o:FX T k f][x:CE T (eo a)]:CU T (so (L9.fV k f a)) where
 chk Γ s:=Γ.rz&&(KU s).any λe=>(N6 Γ o.i (o.lv+1) k e).any λy=>y.2.1.isEmpty&&x.chk Γ y.1
 ok {Γ X E s} c h:=by rw[Tu]at h;obtain⟨O,M⟩:=h;obtain⟨e,q,L⟩:=cb M;obtain⟨_,rfl⟩:=yS q;obtain⟨⟨e0,l,p1,p2⟩,v,b⟩:=cb L;obtain⟨rfl,g,hi,H,m⟩:=sV v;simp only[Tu,Vm]at b;obtain⟨rfl,b⟩:=b;obtain⟨u,P,_⟩:=pY c (x:=k) g;obtain⟨C,B,fI,oI,S,ps,I,F,G,FI,Y,w,z⟩:=c.fs _ _ hi o.h;obtain⟨t,r,K⟩:=x.ok c b;have p:=c.rm.mono H;obtain⟨N,n,d,f,cd,A,j,s0,H0,e⟩:=c.px O;refine⟨_,?_,L9.Ad w K⟩;rw[e]at u r p⊢;exact L9.rM I F G FI Y p u z (au r bj (g8 m)) P (g8 m) (l7 m)
abbrev agA(lv:Nat)(x f g:Str):Fd:=λP w K d b=>∃(C B fI:TM) (oI:Obj) (a:U3) (ps:ck Str),L9.XC K C B fI/\K.lookup fI=ax oI/\Wx K (.ref fI)=Ld/\FnOk P w K d b kS lv fI a ps (L9.oX C f g)/\Binds K a ps []/\T9 K T5 x=ax (ax (.ref C))/\d x=ax (.ref C)
class FX2 (T:ck Fd) (x f g:Str) where
 i:Nat
 lv:Nat
 h:T[i]?=ax (agA lv x f g)
noncomputable instance{k f g:Str}[o:FX2 T k f g][u:CA T (ao a)]:CU T (so (L9.fT k f g a)) where
 chk Γ s:=Γ.rz&& !(f==g)&&(KU s).any λe=>(N6 Γ o.i (o.lv+1) k e).any λy=>u.chk Γ (y.1::y.2.1)
 ok {Γ X E s} c h:=by simp only[Tu,UX]at h;obtain⟨⟨P,O⟩,M⟩:=h;obtain⟨e,q,L⟩:=cb M;obtain⟨_,rfl⟩:=yS q;obtain⟨y,r,K⟩:=cb L;obtain⟨rfl,g,hi,G,m⟩:=sV r;obtain⟨p,S,_⟩:=pY c (x:=k) g;obtain⟨C,B,fI,oI,Y,ps,H,z,F,FI,bI,v,w⟩:=c.fs _ _ hi o.h;obtain⟨t,n,I⟩:=u.ok c K;have l:=c.rm.mono G;obtain⟨N,j,b,f,cd,A,d,s0,H0,e⟩:=c.px P;refine⟨_,?_,L9.wR O v I⟩;rw[e]at p n l⊢;exact L9.rM H z F FI bI l p w n S (g8 m) (l7 m)
end CC
set_option warn.classDefReducibility false
namespace CC
open PySem L2 L3 L10
variable{T:ck Fd}{A B C J:Jd TE}{U Z:Jd TA}{Q R:Jd TT}
end CC
set_option warn.classDefReducibility false
namespace CC
open PySem L2 L3 L10
variable{T:ck Fd}
end CC
set_option warn.classDefReducibility false
namespace CC
open PySem L2 L3 L10
variable{T:ck Fd}{A B:Jd TE}
end CC
local macro_rules| `(tactic|fail "nm")=> `(tactic|first|((simp only[acX,acY]);rfl)|rfl)| `(tactic|fail "evf")=> `(tactic|first|with_reducible assumption|change L3.wm _ _|change L3.Dv _ _|change L3.iO _ _|change L3.li _ _|change L3.uA _ _|change L3.Dt _ _|change L3.wN _ _|change L3.A4 _ _|change L3.gC _ _|change L3.kP _ _|change L3.adC _ _|change L3.adf _ _|change L3.aiz _ _|change L3.aiN _ _|change L3.ais _ _|change L3.ahW _ _|change L3.aie _ _|change L3.ahn _ _|change L3.aiq _ _|change L3.agl _ _|change L3.agy _ _|change L3.ah7 _ _|change L3.aji _ _|change L3.iV|change L3.qU|change L3.Fg|change L3.nr|change L3.wf|change L3.C2|change L3.mM _|change L3.adi _|(with_reducible rfl))| `(tactic|fail "ev")=> `(tactic|first
 |change L3.av
 |((with_reducible apply L3.af);rfl)
 |((with_reducible apply L3.bQ);rfl)
 |change L3.ai
 |change L3.lZ
 |((with_reducible apply L3.aO);(·fail "ev");(·fail "ev");(·rfl);(·rfl);(·fail "evf"))
 |((with_reducible apply L3.Ed);(·fail "ev");(·rfl);(·rfl))
 |((with_reducible apply L3.ad);(·fail "ev");(·fail "ev"))
 |((with_reducible apply L3.aw);(·fail "ev");(·rfl))
 |((with_reducible apply L3.bC);(·fail "ev");(·rfl);(·first|fail "evf"|rfl))
 |((with_reducible apply L3.eH);(·fail "ev");(·rfl);(·rfl);(·with_reducible assumption))
 |((with_reducible apply L3.gy);(·fail "ev");(·rfl);(·exact Uj rfl))
 |((with_reducible apply L3.lM);(·fail "ev");(·rfl);(·exact Uj rfl))
 |((with_reducible apply L3.K8);(·fail "ev");(·rfl);(·rfl))
 |((with_reducible apply L3.lQ);(·fail "ev");(·rfl))
 |((with_reducible apply L3.yj);(·fail "ev");(·fail "ev");(·fail "ev");(·rfl);(·first|with_reducible assumption|rfl))
 |((with_reducible apply L3.b6);(·fail "ev"))
 |((with_reducible apply L3.bR);(·fail "ev");(·intro _;fail "ev"))
 |((with_reducible apply L3.bu);(·fail "ev");(·intro _;fail "ev"))
 |((with_reducible apply L3.ED);(·fail "ev"))
 |((with_reducible apply L3.mz);(·fail "ev");(·intro _;fail "ev"))
 |((with_reducible apply L3.xh);(·fail "ev");(·intro _;fail "ev"))
 |((with_reducible apply L3.iv);(·fail "ev");(·rfl);(·first|with_reducible assumption|rfl))
 |((with_reducible apply L3.dc);(·fail "ev");(·rfl);(·rfl))
 |((with_reducible apply L3.uw);(·fail "ev");(·rfl);(·rfl))
 |((with_reducible apply L3.iP);(·rfl);(·fail "ev");(·rfl);(·rfl);(·first|with_reducible assumption|(simp only[Vu,TJ,L3.bS] at*;ext));(·fail "nm"))
 |((with_reducible apply L3.Dq);(·rfl);(·fail "ev");(·rfl);(·rfl);(·with_reducible assumption);(·with_reducible assumption);(·with_reducible assumption);(·fail "nm"))
 |((with_reducible apply L3.fy);(·fail "ev");(·rfl);(·fail "nm"))
 |((with_reducible apply L3.gF);(·fail "ev"))
 |((with_reducible apply L3.xD);(·fail "ev");(·rfl)))
local macro_rules| `(tactic|fail "evb")=> `(tactic|first
 |((with_reducible apply L3.aQ);(·fail "ev");(·fail "ev");(·rfl);(·rfl);(·fail "evf"))
 |((with_reducible apply L3.gn);(·fail "ev");(·rfl);(·rfl);(·with_reducible assumption))
 |((with_reducible apply L3.tV);(·fail "ev");(·rfl);(·first|fail "evf"|rfl))
 |fail "ev")
local macro_rules| `(tactic|fail "ev")=> `(tactic|first
 |with_reducible assumption
 |((with_reducible apply L3.mz);(·fail "ev");(·intro _;fail "evb"))
 |((with_reducible apply L3.xh);(·fail "ev");(·intro _;fail "evb"))
 |((with_reducible apply L3.gZ);(·fail "ev");(·fail "ev");(·fail "ev");(·rfl);(·rfl);(·rfl);(·fail "evf");(·intro _;fail "evf"))
 |((with_reducible apply L3.yX);(·fail "ev");(·rfl);(·rfl);(·rfl)))
local macro_rules| `(tactic|fail "go")=> `(tactic|first
 |((with_reducible apply L3.aM);(·fail "ev");(·rfl);(·fail "nm");try fail "go")
 |((with_reducible apply L3.lV);(·fail "ev");try fail "go")
 |((with_reducible apply L3.eG);try fail "go")
 |((with_reducible apply L3.ay);try fail "go")
 |((with_reducible apply L3.aW);(·fail "ev");(·rfl))
 |((with_reducible apply L3.aP);(·fail "ev"))
 |((with_reducible apply L3.Bp);(·fail "ev");(·rfl);(·fail "nm"))
 |((with_reducible apply L3.gJ);(·fail "ev"))
 |((with_reducible apply L3.aR);(·fail "ev");(·rfl))
 |((with_reducible apply L3.eh);(·fail "ev"))
 |(with_reducible apply L3.cV))
local macro_rules| `(tactic|fail "evp")=> `(tactic|((apply Eq.trans);(·fail "ev");(·rfl)))
local macro_rules(kind:=«term{_}»)|`({$a})=>`(L3.aa $a L3.ae)|`({$a,$b})=>`(L3.aa $a (L3.aa $b L3.ae))|`({$a,$b,$c})=>`(L3.aa $a (L3.aa $b (L3.aa $c L3.ae)))|`({$a,$b,$c,$d})=>`(L3.aa $a (L3.aa $b (L3.aa $c (L3.aa $d L3.ae))))
local macro_rules|`(~~~$n)=>`(L3.pC (.int $n))
local macro_rules|`(-($x))=>`(Option.some (.fz $x))
namespace K24
open PySem L2 L3
def gQ:FS:=(aL (ah aG (ah bq (ke ur (ac 0) (bK (ac 1)) (bK (ah bq (ac 1) (~~~1)))) (b7 {~~~0})) (~~~0)))
def bO:FN:=bN 2 gQ
def dD:FS:=(aj (aN (ah bq (ah br (ac 0) (~~~1000000007)) (ah fE (~~~13) (ac 1))) (gN 2))
 (aj (aN (ah br (ah bq (ah bq (ah fE (ac 2) (ah bq (ah bq (ac 2) (ah fE (ac 1) (ac 1))) (~~~11))) (ah fE (~~~40487) (ac 1))) (~~~7)) (~~~1000000033)) (gN 2))
 (aL (ah bT (ah br (ah bq (ah fE (ac 2) (ah bq (ah bT (ac 2) (~~~7)) (~~~31))) (~~~90001)) (~~~999999937)) (~~~3)))))
def cy:FN:=bN 3 dD
def dj:FS:=(aj (aN (b7 ae) (gN 2))
 (aj (aN (b8 jp {ac 0,ah sP (~~~0) (ac 0)}) (gN 3))
 (aj (hG (hV d8 {ac 1}) (gN 4) (aj (aN (~~~0) (gN 5))
 (aj (hG (hV d8 {~~~3}) (gN 6) (aN (ah bq (ah fE (ac 5) (ah nt (~~~10) (~~~8))) (ah br (aK cy 2 {ac 0,ah bq (ah fE (~~~3) (ac 4)) (ac 6)}) (ah nt (~~~10) (~~~8)))) (gN 5)))
 (aj (ce (di (ag (ah oO (ac 3) (~~~0))) (iR (ag (ah nc (ac 0) (~~~0))) (ag (ah Eh (ac 0) (ah nt (~~~10) (~~~18)))))) (aj (aN (ah br (ac 3) (ah nt (~~~10) (~~~24))) (gN 5))
 (aN (ah bT (ac 3) (ah nt (~~~10) (~~~24))) (gN 3))) aC)
 (cj (iU 2 (ac 5)))))))
 (aL (ac 2)))))
def gG:FN:=bN 7 dj
def eY:FS:=(aL (ah AJ (pC (.str "abcdefghijklmnopqrstuvwxyz")) (ah br (ac 0) (~~~26))))
def bp:FN:=bN 1 eY
def cR:FS:=(aj (aN (ah br (ac 0) (~~~6)) (gN 3))
 (aj (aN (aK bp 1 {ah bT (ac 0) (~~~6)}) (gN 4))
 (aj (aN (ah bq (~~~1) (ah br (ah bT (ac 0) (~~~156)) (b8 jp {~~~1,ah sP (ac 2) (~~~1)}))) (gN 5))
 (aj (aN (bM {pC (.str "letter"),ac 4}) (gN 6))
 (aj (ce (iR (ag (ah bV (ac 3) (~~~1))) (di (ag (ah bV (ac 3) (~~~2))) (ag (ah bV (ac 1) (~~~0))))) (aN (bM {pC (.str "none")}) (gN 6)) (ce (ag (ah bV (ac 3) (~~~2))) (aN (bM {pC (.str "below")}) (gN 6)) (ce (di (ag (ah oO (ac 3) (~~~2))) (ag (ah oO (ac 2) (~~~1)))) (aN (ah aG (b7 {bM {pC (.str "layer"),ac 5},bM {pC (.str "tap"),ac 4,ac 5},bM {pC (.str "once"),ac 5}}) (ah sP (ac 3) (~~~3))) (gN 6)) aC)))
 (aL (ac 6)))))))
def cS:FN:=bN 7 cR
def cN:FS:=(aj (aN (ah bq (~~~1) (ah br (ah aG (ac 0) (~~~0)) (~~~5))) (gN 1))
 (aj (aN (ah bq (~~~1) (ah br (ah bT (ah aG (ac 0) (~~~0)) (~~~5)) (~~~3))) (gN 2))
 (aj (aN (b7 ae) (gN 3))
 (aj (hG (hV d8 {ac 2}) (gN 4) (cj (iU 3 (b8 iJ {bE 1 [0,4,2] (hV d8 {ac 1}) (gN 0) aU (aK cS 3 {ah aG (ac 1) (ah bq (ah bq (~~~1) (ah fE (~~~5) (ac 2))) (ac 0)),ac 2,ac 3})}))))
 (aj (aN (bE 1 [3] (hV d8 {ac 1}) (gN 0) (ag (ah bV (ah aG (ah aG (ah aG (ac 1) (~~~0)) (ac 0)) (~~~0)) (pC (.str "letter")))) (ac 0)) (gN 5))
 (aj (aN (b7 ae) (gN 6))
 (aj (hG (hW (ke ur (ac 0) (bK (~~~16)) (bK (ah bq (~~~16) (ah br (ah bT (ah aG (ac 0) (~~~0)) (~~~60)) (~~~5)))))) (gN 7) (aj (aN (b8 iJ {bE 1 [7] (lu 5) (gN 0) (ag (ah bV (ah br (ah bT (ac 1) (ah aG (b7 (aa (~~~1) {~~~2,~~~4,~~~8,~~~16})) (ac 0))) (~~~2)) (~~~1))) (ac 0)}) (gN 8))
 (ce (di (ag (ah oO (b8 bF {ac 8}) (~~~1))) (ag (ah jM (ac 8) (bE 1 [] (lu 6) (gN 0) aU (ah aG (ac 0) (~~~0)))))) (cj (iU 6 (bM {ac 8,aK bp 1 {ah bT (ac 7) (~~~32)}}))) aC)))
 (aL (bM {ac 1,b8 iJ {ac 3},b8 iJ {ac 6},ah bq (~~~1) (ah br (ah bT (ah aG (ac 0) (~~~0)) (~~~15)) (~~~4))})))))))))
def fw:FN:=bN 9 cN
def fG:FS:=(aj (ce (iR (ag (ah nc (ac 0) (~~~0))) (ag (ah Eh (ac 0) (ah nt (~~~10) (~~~18))))) (aL (b8 jp {ac 0,ah sP (~~~0) (ac 0)})) aC)
 (aL (aK cy 2 {aK cy 2 {ac 0,ac 1},~~~3})))
def bP:FN:=bN 2 fG
def dP:FS:=(aj (aN (ah br (ac 0) (~~~8)) (gN 3))
 (aj (aN (aK bp 1 {ah bT (ac 0) (~~~8)}) (gN 4))
 (aj (ce (iR (ag (ah nc (ac 3) (~~~3))) (di (ag (ah bV (ac 2) (~~~1))) (ag (ah nc (ac 3) (~~~7))))) (aL (bM {pC (.str "letter"),ac 4})) aC)
 (aj (aN (ah bq (~~~1) (ah br (ah bT (ac 0) (~~~208)) (b8 jp {~~~1,ah sP (ac 2) (~~~1)}))) (gN 5))
 (aj (ce (ag (ah bV (ac 3) (~~~3))) (aL (bM {pC (.str "layer"),ac 5})) aC)
 (aj (ce (ag (ah bV (ac 3) (~~~4))) (aL (bM {pC (.str "tap"),ac 4,ac 5})) aC)
 (aj (ce (ag (ah bV (ac 3) (~~~5))) (aL (bM {pC (.str "once"),ac 5})) aC)
 (aj (ce (di (ag (ah bV (ac 3) (~~~6))) (ag (ah oO (ac 1) (~~~0)))) (aL (bM {pC (.str "below")})) aC)
 (aL (bM {pC (.str "none")}))))))))))
def dI:FN:=bN 6 dP
def gB:FS:=(aj (aN (aK bO 2 {ac 0,ac 1}) (gN 2))
 (aj (ce (iR (ag (ah nc (ac 2) (~~~0))) (ag (ah Eh (ac 2) (ah nt (~~~10) (~~~18))))) (aL (aK fw 1 {aK gG 2 {ac 2,~~~20}})) aC)
 (aj (aN (aK bP 2 {ac 2,ac 1}) (gN 2))
 (aj (aN (ah bV (ah br (ah bT (ac 2) (~~~60)) (~~~4)) (~~~1)) (gN 3))
 (aj (aN (ah aG (b7 {ah bq (~~~1) (ah br (ac 2) (~~~5)),ah bq (~~~3) (ah br (ac 2) (~~~3))}) (b8 xt {ac 3})) (gN 4))
 (aj (aN (b7 ae) (gN 5))
 (aj (hG (hV d8 {ah bq (~~~1) (ah br (ah bT (ac 2) (~~~5)) (~~~3))}) (gN 6) (aj (aN (bE 1 [0,1,6] (hV d8 {ac 4}) (gN 0) aU (aK bP 2 {aK bO 2 {ac 1,ah bq (ah bq (ah bq (ac 2) (~~~1)) (ah fE (~~~5) (ac 3))) (ac 0)},ah bq (ah fE (~~~5) (ac 3)) (ac 0)})) (gN 7))
 (aj (cj (iU 5 (b8 iJ {bE 1 [6,2] (hW (ac 7)) (gN 0) aU (aK dI 3 {ac 0,ac 1,ah bq (~~~1) (ah br (ah bT (ac 2) (~~~5)) (~~~3))})})))
 (ce (di (ag (ac 3)) (ag (ah bV (ac 6) (~~~0)))) (aN (b7 {b8 iJ {bE 1 [] (hW (ac 7)) (gN 0) aU (bM {pC (.str "letter"),aK bp 1 {ah bT (ac 0) (~~~8)}})}}) (gN 5)) aC))))
 (aj (aN (bE 1 [5] (hV d8 {ac 4}) (gN 0) (ag (ah bV (ah aG (ah aG (ah aG (ac 1) (~~~0)) (ac 0)) (~~~0)) (pC (.str "letter")))) (ac 0)) (gN 8))
 (aj (aN (b7 ae) (gN 9))
 (aj (hG (hV d8 {ah aG (b7 {ah br (aK bP 2 {aK bO 2 {ac 0,ah bq (ac 1) (~~~16)},~~~16}) (~~~5),ah bq (~~~1) (ah br (ah bT (ac 2) (~~~240)) (~~~4))}) (b8 xt {ac 3})}) (gN 10) (aj (aN (aK bP 2 {aK bO 2 {ac 0,ah bq (ah bq (ac 1) (~~~17)) (ac 10)},ah bq (~~~17) (ac 10)}) (gN 11))
 (aj (aN (b8 iJ {bE 1 [11] (lu 8) (gN 0) (ag (ah bV (ah br (ah bT (ac 1) (ah aG (b7 (aa (~~~1) {~~~2,~~~4,~~~8,~~~16})) (ac 0))) (~~~2)) (~~~1))) (ac 0)}) (gN 12))
 (aj (ce (ag (ac 3)) (aN (ah aG (b7 {bM {~~~0,~~~1},bM {~~~1,~~~2},bM {~~~0,~~~1,~~~2},bM {~~~0,ah sP (ac 4) (~~~1)}}) (ah br (ah bq (ac 10) (ah bT (ac 2) (~~~960))) (~~~4))) (gN 12)) aC)
 (ce (di (ag (ah oO (b8 bF {ac 12}) (~~~1))) (ag (ah jM (ac 12) (bE 1 [] (lu 9) (gN 0) aU (ah aG (ac 0) (~~~0)))))) (cj (iU 9 (bM {ac 12,aK bp 1 {ah bT (ac 11) (~~~32)}}))) aC)))))
 (aL (bM {ac 4,b8 iJ {ac 5},b8 iJ {ac 9},ah bq (~~~1) (ah br (ah bT (ac 2) (~~~15)) (~~~4))}))))))))))))
def jO:FN:=bN 13 gB
def gU:FS:=(aj (ce (ag (ah bV (ah aG (ac 0) (~~~0)) (pC (.str "letter")))) (aL (ah aG (ac 0) (~~~1))) aC)
 (aj (ce (ag (ah bV (ah aG (ac 0) (~~~0)) (pC (.str "tap")))) (aL (ah eB (ah eB (ah aG (ac 0) (~~~1)) (pC (.str ">"))) (b8 mY {ah aG (ac 0) (~~~2)}))) aC)
 (aL (ah eB (MA [(lD.str "layer",lD.str ">"),(lD.str "once",lD.str "~"),(lD.str "none",lD.str "."),(lD.str "below",lD.str "_")] (ah aG (ac 0) (~~~0))) (nA ie (pC (.str "")) {bE 1 [] (hW (ke ur (ac 0) (bK (~~~1)) cH)) (gN 0) aU (b8 mY {ac 0})})))))
def gO:FN:=bN 1 gU
def g7:FS:=(aj (aN (b7 {ah eB (ah eB (ah eB (pC (.str "keys ")) (b8 mY {ah aG (ac 0) (~~~0)})) (pC (.str " wait "))) (b8 mY {ah aG (ac 0) (~~~3)})}) (gN 1))
 (aj (hG (hW (ah aG (ac 0) (~~~1))) (gN 2) (cj (iU 1 (ah eB (pC (.str "layer ")) (nA ie (pC (.str " ")) {bE 1 [] (hW (ac 2)) (gN 0) aU (aK gO 1 {ac 0})})))))
 (aj (hG (hW (ah aG (ac 0) (~~~2))) (gT 2 (l9 (gN 3) (l9 (gN 4) wu))) (cj (iU 1 (ah eB (ah eB (ah eB (pC (.str "chord ")) (nA ie (pC (.str "+")) {bE 1 [] (hW (ac 3)) (gN 0) aU (b8 mY {ac 0})})) (pC (.str " "))) (ac 4)))))
 (aL (nA ie (pC (.str "\n")) {ac 1})))))
def ja:FN:=bN 5 g7
def cZ:FS:=(aj (aN (pC (.str "0123 ab>~._+z\nkeA-\t")) (gN 3))
 (aj (aN (ah br (ac 1) (ah bq (b8 nI {ac 0}) (~~~1))) (gN 4))
 (aj (aN (ah AJ (ac 3) (ah br (ac 2) (~~~19))) (gN 5))
 (aj (aN (ah br (ah bT (ac 2) (~~~19)) (~~~6)) (gN 6))
 (aj (ce (ag (ah bV (ac 6) (~~~0))) (aL (ah eB (ke aX (ac 0) cH (bK (ac 4))) (ke aX (ac 0) (bK (ah bq (ac 4) (~~~1))) cH))) aC)
 (aj (ce (ag (ah bV (ac 6) (~~~1))) (aL (ah eB (ah eB (ke aX (ac 0) cH (bK (ac 4))) (ke aX (ac 0) (bK (ac 4)) (bK (ah bq (ac 4) (~~~1))))) (ke aX (ac 0) (bK (ac 4)) cH))) aC)
 (aj (ce (ag (ah bV (ac 6) (~~~2))) (aL (ah eB (ah eB (ke aX (ac 0) cH (bK (ac 4))) (ac 5)) (ke aX (ac 0) (bK (ac 4)) cH))) aC)
 (aj (ce (ag (ah bV (ac 6) (~~~3))) (aL (ah eB (ah eB (ke aX (ac 0) cH (bK (ac 4))) (ac 5)) (ke aX (ac 0) (bK (ah bq (ac 4) (~~~1))) cH))) aC)
 (aj (aN (nA de (ac 0) {pC (.str "\n")}) (gN 7))
 (aj (aN (ah br (ac 1) (b8 bF {ac 7})) (gN 4))
 (aj (ce (ag (ah bV (ac 6) (~~~4))) (cj (zm 7 (ah br (ah bT (ac 2) (~~~114)) (ah bq (b8 bF {ac 7}) (~~~1))) (ah aG (ac 7) (ac 4)))) (cj (zm 7 (ah br (ah bT (ac 2) (~~~228)) (b8 bF {ac 7})) (Ai 7 (ac 4)))))
 (aL (nA ie (pC (.str "\n")) {ac 7})))))))))))))
def d6:FN:=bN 8 cZ
def dH:FS:=(aj (ce (iR (ag (ah jM (b8 nI {ac 0}) (b7 {~~~1,~~~2}))) (di (ag (ah bV (b8 nI {ac 0}) (~~~2))) (ag (ah bV (ah AJ (ac 0) (~~~0)) (pC (.str "0")))))) (aL (pC .none)) aC)
 (aj (ce (d9 (ag (b8 mV {bE 1 [] (km (ac 0)) (gN 0) aU (cx rg rg (pC (.str "0")) (ac 0) (pC (.str "9")))}))) (aL (pC .none)) aC)
 (aL (b8 vG {ac 0}))))
def bJ:FN:=bN 1 dH
def c8:FS:=(aL (j8 (ah bV (b8 nI {ac 0}) (~~~1)) (cx rg rg (pC (.str "a")) (ac 0) (pC (.str "z")))))
def a9:FN:=bN 1 c8
def gh:FS:=(aj (ce (ag (ah iY (ac 0) (b7 {pC (.str "."),pC (.str "_")}))) (aL (ah aG (b7 {bM {pC (.str "none")},bM {pC (.str "below")}}) (b8 xt {ah bV (ac 0) (pC (.str "_"))}))) aC)
 (aj (ce (ag (aK a9 1 {ac 0})) (aL (bM {pC (.str "letter"),ac 0})) aC)
 (aj (aN (nA vF (ac 0) {pC (.str ">")}) (gN 1))
 (aj (aN (ke aX (ac 0) cH (bK (b8 jp {~~~0,ac 1}))) (gN 2))
 (aj (aN (aK bJ 1 {ke aX (ac 0) (bK (ah bq (ac 1) (~~~1))) cH}) (gN 3))
 (aj (ce (di (ag (ah bV (ke aX (ac 0) cH (bK (~~~1))) (pC (.str "~")))) (ag (ah nc (ac 1) (~~~0)))) (aj (aN (aK bJ 1 {ke aX (ac 0) (bK (~~~1)) cH}) (gN 3))
 (aN (pC (.str "~")) (gN 2))) aC)
 (aj (ce (iR (ag (ah jd (ac 3) (pC .none))) (iR (di (ag (ah iG (ac 2) (pC (.str "")))) (di (ag (ah iG (ac 2) (pC (.str "~")))) (d9 (ag (aK a9 1 {ac 2}))))) (di (ag (ah bV (ac 2) (pC (.str "~")))) (ag (ah Eh (ac 1) (~~~0)))))) (aL (pC .none)) aC)
 (aj (ce (di (ag (ah nc (ac 1) (~~~0))) (ag (ah iG (ac 2) (pC (.str "~"))))) (aL (pC .none)) aC)
 (aj (ce (ag (ah bV (ac 2) (pC (.str "~")))) (aL (bM {pC (.str "once"),ac 3})) aC)
 (aj (ce (ag (ah bV (ac 2) (pC (.str "")))) (aL (bM {pC (.str "layer"),ac 3})) aC)
 (aL (bM {pC (.str "tap"),ac 2,ac 3}))))))))))))
def fX:FN:=bN 4 gh
def gr:FS:=(aj (ce (ag (ac 1)) (aj (ce (iR (ag (ah iG (b8 bF {ac 0}) (~~~4))) (iR (ag (ah iG (ah aG (ac 0) (~~~0)) (pC (.str "keys")))) (ag (ah iG (ah aG (ac 0) (~~~2)) (pC (.str "wait")))))) (aL (pC .none)) aC)
 (aL (b8 iJ {b7 {aK bJ 1 {ah aG (ac 0) (~~~1)},aK bJ 1 {ah aG (ac 0) (~~~3)}}}))) aC)
 (aj (ce (ag (ah bV (ah aG (ac 0) (~~~0)) (pC (.str "layer")))) (aL (b8 iJ {bE 1 [] (hW (ke ur (ac 0) (bK (~~~1)) cH)) (gN 0) aU (aK fX 1 {ac 0})})) aC)
 (aj (ce (iR (ag (ah iG (ah aG (ac 0) (~~~0)) (pC (.str "chord")))) (iR (ag (ah iG (b8 bF {ac 0}) (~~~3))) (d9 (ag (aK a9 1 {ah aG (ac 0) (~~~2)}))))) (aL (pC .none)) aC)
 (aL (b8 iJ {bE 1 [] (hW (nA de (ah aG (ac 0) (~~~1)) {pC (.str "+")})) (gN 0) aU (aK bJ 1 {ac 0})})))))
def fA:FN:=bN 2 gr
def dX:FS:=(aj (aN (bE 1 [] (hW (nA de (ac 0) {pC (.str "\n")})) (gN 0) aU (nA de (ac 0) {pC (.str " ")})) (gN 1))
 (aj (aN (b7 ae) (gN 2))
 (aj (aN (b7 ae) (gN 3))
 (aj (hG (hV d8 {b8 bF {ac 1}}) (gN 4) (aj (aN (aK fA 2 {ah aG (ac 1) (ac 4),ah bV (ac 4) (~~~0)}) (gN 5))
 (aj (ce (iR (ag (ah jd (ac 5) (pC .none))) (iR (ag (ah iY (pC .none) (ac 5))) (ag (ah bV (b8 bF {ac 5}) (~~~0))))) (aL (bM {~~~2,ac 4,pC .none})) aC)
 (ce (di (ag (ah oO (ac 4) (~~~0))) (ag (ah bV (ah aG (ah aG (ac 1) (ac 4)) (~~~0)) (pC (.str "layer"))))) (aj (ce (ag (ah oO (b8 bF {ac 3}) (~~~0))) (aL (bM {~~~2,ac 4,pC .none})) aC)
 (cj (iU 2 (ac 5)))) (ce (ag (ah oO (ac 4) (~~~0))) (cj (iU 3 (bM {ac 5,ah aG (ah aG (ac 1) (ac 4)) (~~~2)}))) aC)))))
 (aj (aN (aK fA 2 {ah aG (ac 1) (~~~0),pC (.bool Ld)}) (gT 2 (l9 (gN 6) (l9 (gN 7) wu))))
 (aL (bM {ac 6,b8 iJ {ac 2},b8 iJ {ac 3},ac 7})))))))
def cA:FN:=bN 8 dX
def fO:FS:=(aj (ce (di (ag (ah iY (ah aG (ac 0) (~~~0)) (b7 {pC (.str "letter"),pC (.str "tap")}))) (d9 (ag (aK a9 1 {ah aG (ac 0) (~~~1)})))) (aL (pC (.bool Tx))) aC)
 (aj (ce (di (ag (ah iY (ah aG (ac 0) (~~~0)) (b7 {pC (.str "layer"),pC (.str "tap"),pC (.str "once")}))) (iR (ag (ah nc (ah aG (ac 0) (B9 qL (~~~1))) (~~~1))) (ag (ah Eh (ah aG (ac 0) (B9 qL (~~~1))) (ac 2))))) (aL (pC (.bool Tx))) aC)
 (aL (Mr (ah iG (ah aG (ac 0) (~~~0)) (pC (.str "below"))) (ah oO (ac 1) (~~~0))))))
def iq:FN:=bN 3 fO
def cQ:FS:=(aj (aN (ah aG (ac 0) (ac 1)) (gT 2 (l9 (gN 4) (l9 (gN 5) wu))))
 (aj (ce (iR (d9 (ag (aK a9 1 {ac 5}))) (iR (ag (ah nc (b8 bF {ac 4}) (~~~2))) (iR (ag (ah iG (b8 zj {ac 4}) (b8 L9.mh {ac 4}))) (ag (ah nc (L9.l6 {ac 4}) (b8 bF {ac 4})))))) (aL (pC (.bool Tx))) aC)
 (aj (ce (d9 (ag (b8 mV {bE 1 [3] (hW (ac 4)) (gN 0) aU (ah iY (ac 0) (ac 1))}))) (aL (pC (.bool Tx))) aC)
 (aL (ah jM (ac 4) (bE 1 [] (hW (ke Fz (ac 0) cH (bK (ac 1)))) (gN 0) aU (ah aG (ac 0) (~~~0))))))))
def dA:FN:=bN 6 cQ
def iQ:FS:=(aj (aN (ac 0) (gT 4 (l9 (gN 1) (l9 (gN 2) (l9 (gN 3) (l9 (gN 4) wu))))))
 (aj (ce (iR (ag (ah jM (ac 1) (b7 (aa (~~~1) {~~~2,~~~3,~~~4,~~~5})))) (iR (ag (ah jM (b8 bF {ac 2}) (b7 {~~~1,~~~2,~~~3}))) (iR (ag (ah oO (b8 bF {ac 3}) (~~~4))) (ag (ah jM (ac 4) (b7 {~~~1,~~~2,~~~3,~~~4})))))) (aL (bM {~~~0,pC .none,pC .none})) aC)
 (aj (hG (hV d8 {b8 bF {ac 2}}) (gN 5) (aj (ce (ag (ah iG (b8 bF {ah aG (ac 2) (ac 5)}) (ac 1))) (aL (bM {~~~0,ac 5,pC .none})) aC)
 (hG (hV d8 {ac 1}) (gN 6) (ce (d9 (ag (aK iq 3 {ah aG (ah aG (ac 2) (ac 5)) (ac 6),ac 5,b8 bF {ac 2}}))) (aL (bM {~~~0,ac 5,ac 6})) aC))))
 (aj (aN (bE 1 [2] (hV d8 {ac 1}) (gN 0) (ag (ah bV (ah aG (ah aG (ah aG (ac 1) (~~~0)) (ac 0)) (~~~0)) (pC (.str "letter")))) (ac 0)) (gN 7))
 (aj (hG (hV d8 {b8 bF {ac 3}}) (gN 8) (ce (d9 (ag (aK dA 4 {ac 3,ac 8,ac 1,ac 7}))) (aL (bM {~~~1,ac 8,pC .none})) aC))
 (aL (pC .none)))))))
def gu:FN:=bN 9 iQ
def eK:FS:=(aj (ce (iR (d9 (ag (cx qJ qJ (~~~1) (b8 nI {ac 0}) (~~~2)))) (d9 (ag (b8 mV {bE 1 [] (km (ac 0)) (gN 0) aU (ah J9 (ac 0) (pC (.str "0123456789")))})))) (aL (pC .none)) aC)
 (aj (ce (di (ag (ah bV (b8 nI {ac 0}) (~~~2))) (ag (ah bV (ah AJ (ac 0) (~~~0)) (pC (.str "0"))))) (aL (pC .none)) aC)
 (aL (b8 vG {ac 0}))))
def bG:FN:=bN 1 eK
def iM:FS:=(aj (ce (ag (ah iY (pC .none) (ac 0))) (aL (pC .none)) aC)
 (aL (b8 iJ {ac 0})))
def ci:FN:=bN 1 iM
def dW:FS:=(aj (ce (iR (ag (ah iG (b8 bF {ac 0}) (~~~4))) (iR (ag (ah iG (ah aG (ac 0) (~~~0)) (pC (.str "keys")))) (ag (ah iG (ah aG (ac 0) (~~~2)) (pC (.str "wait")))))) (aL (pC .none)) aC)
 (aL (aK ci 1 {b7 {aK bG 1 {ah aG (ac 0) (~~~1)},aK bG 1 {ah aG (ac 0) (~~~3)}}})))
def dJ:FN:=bN 1 dW
def fH:FS:=(aL (j8 (ah bV (b8 nI {ac 0}) (~~~1)) (cx rg rg (pC (.str "a")) (ac 0) (pC (.str "z")))))
def b9:FN:=bN 1 fH
def dQ:FS:=(aj (ce (ag (ah bV (ac 0) (pC (.str ".")))) (aL (bM {pC (.str "none")})) aC)
 (aj (ce (ag (ah bV (ac 0) (pC (.str "_")))) (aL (bM {pC (.str "below")})) aC)
 (aj (ce (ag (aK b9 1 {ac 0})) (aL (bM {pC (.str "letter"),ac 0})) aC)
 (aj (ce (ag (nA kG (ac 0) {pC (.str "~")})) (aL (aK ci 1 {b7 {pC (.str "once"),aK bG 1 {ke aX (ac 0) (bK (~~~1)) cH}}})) aC)
 (aj (ce (ag (nA kG (ac 0) {pC (.str ">")})) (aL (aK ci 1 {b7 {pC (.str "layer"),aK bG 1 {ke aX (ac 0) (bK (~~~1)) cH}}})) aC)
 (aj (ce (di (ag (aK b9 1 {ke aX (ac 0) cH (bK (~~~1))})) (ag (ah bV (ke aX (ac 0) (bK (~~~1)) (bK (~~~2))) (pC (.str ">"))))) (aL (aK ci 1 {b7 {pC (.str "tap"),ah AJ (ac 0) (~~~0),aK bG 1 {ke aX (ac 0) (bK (~~~2)) cH}}})) aC)
 (aL (pC .none))))))))
def dY:FN:=bN 1 dQ
def fM:FS:=(aj (ce (iR (ag (ah nc (b8 bF {ac 0}) (~~~2))) (ag (ah iG (ah aG (ac 0) (~~~0)) (pC (.str "layer"))))) (aL (pC .none)) aC)
 (aL (aK ci 1 {bE 1 [] (hW (ke ur (ac 0) (bK (~~~1)) cH)) (gN 0) aU (aK dY 1 {ac 0})})))
def gl:FN:=bN 1 fM
def eU:FS:=(aL (aK ci 1 {bE 1 [] (hW (nA de (ac 0) {ac 1})) (gN 0) aU (aK bG 1 {ac 0})}))
def gL:FN:=bN 2 eU
def fQ:FS:=(aj (ce (iR (ag (ah iG (b8 bF {ac 0}) (~~~3))) (iR (ag (ah iG (ah aG (ac 0) (~~~0)) (pC (.str "chord")))) (d9 (ag (aK b9 1 {ah aG (ac 0) (~~~2)}))))) (aL (pC .none)) aC)
 (aj (aN (aK gL 2 {ah aG (ac 0) (~~~1),pC (.str "+")}) (gN 1))
 (aj (ce (ag (ah jd (ac 1) (pC .none))) (aL (pC .none)) aC)
 (aL (bM {ac 1,ah aG (ac 0) (~~~2)})))))
def fL:FN:=bN 2 fQ
def gv:FS:=(aj (aN (ah aG (ac 0) (~~~0)) (gN 3))
 (aj (ce (ag (ah bV (ac 3) (pC (.str "below")))) (aL (ah iG (ac 1) (~~~0))) aC)
 (aj (ce (di (ag (ah iY (ac 3) (bM {pC (.str "letter"),pC (.str "tap")}))) (d9 (ag (aK b9 1 {ah aG (ac 0) (~~~1)})))) (aL (pC (.bool Tx))) aC)
 (aj (ce (ag (ah iY (ac 3) (bM {pC (.str "layer"),pC (.str "tap"),pC (.str "once")}))) (aL (cx qJ nc (~~~1) (ah aG (ac 0) (B9 qL (~~~1))) (ac 2))) aC)
 (aL (pC (.bool Ld)))))))
def gq:FN:=bN 4 gv
def kN:FS:=(aL (b8 mV {bE 2 [] (zP {ac 0,ke ur (ac 0) (bK (~~~1)) cH}) (gT 2 (l9 (gN 0) (l9 (gN 1) wu))) aU (ah nc (ac 0) (ac 1))}))
def mJ:FN:=bN 1 kN
def cX:FS:=(aj (ce (iR (ag (ah nc (b8 bF {ac 1}) (~~~2))) (d9 (ag (aK mJ 1 {ac 1})))) (aL (pC (.bool Tx))) aC)
 (aL (b8 mV {bE 1 [0] (hW (ac 1)) (gN 0) aU (j8 (cx qJ nc (~~~0) (ac 0) (ah aG (ac 1) (~~~0))) (ah bV (ah aG (ah aG (ah aG (ah aG (ac 1) (~~~1)) (~~~0)) (ac 0)) (~~~0)) (pC (.str "letter"))))})))
def cW:FN:=bN 2 cX
def bZ:FS:=(aj (ce (iR (d9 (ag (cx qJ qJ (~~~1) (ah aG (ac 0) (~~~0)) (~~~5)))) (d9 (ag (cx qJ qJ (~~~1) (b8 bF {ah aG (ac 0) (~~~1)}) (~~~3))))) (L9.fT "NoBed" "layer" "key" {pC .none,pC .none}) aC)
 (ce (iR (ag (ah oO (b8 bF {ah aG (ac 0) (~~~2)}) (~~~4))) (d9 (ag (cx qJ qJ (~~~1) (ah aG (ac 0) (~~~3)) (~~~4))))) (L9.fT "NoBed" "layer" "key" {pC .none,pC .none}) aC))
def cY:FN:=bN 1 bZ
def cB:FS:=(aj (aN (ah aG (ah aG (ac 0) (~~~1)) (ac 1)) (gN 2))
 (aj (ce (ag (ah iG (b8 bF {ac 2}) (ah aG (ac 0) (~~~0)))) (L9.fT "NoBed" "layer" "key" {ac 1,pC .none}) aC)
 (hG (L3.ph {ac 2}) (gT 2 (l9 (gN 3) (l9 (gN 4) wu))) (ce (d9 (ag (aK gq 3 {ac 4,ac 1,b8 bF {ah aG (ac 0) (~~~1)}}))) (L9.fT "NoBed" "layer" "key" {ac 1,ac 3}) aC))))
def c7:FN:=bN 5 cB
def cz:FS:=(aj (aN (ah aG (ah aG (ah aG (ac 0) (~~~2)) (ac 1)) (~~~0)) (gN 2))
 (aj (ce (iR (d9 (ag (aK b9 1 {ah aG (ah aG (ah aG (ac 0) (~~~2)) (ac 1)) (~~~1)}))) (d9 (ag (aK cW 2 {ac 0,ac 2})))) (L9.fV "NoChord" "place" (ac 1)) aC)
 (ce (ag (ah iY (ac 2) (bE 1 [] (hW (ke Fz (ah aG (ac 0) (~~~2)) cH (bK (ac 1)))) (gN 0) aU (ah aG (ac 0) (~~~0))))) (L9.fV "NoChord" "place" (ac 1)) aC)))
def fY:FN:=bN 3 cz
def d7:FS:=(aj (cj (jU cY 1 {ac 0}))
 (aj (hG (hV d8 {b8 bF {ah aG (ac 0) (~~~1)}}) (gN 1) (cj (jU c7 2 {ac 0,ac 1})))
 (aj (hG (hV d8 {b8 bF {ah aG (ac 0) (~~~2)}}) (gN 2) (cj (jU fY 2 {ac 0,ac 2})))
 (aL (ac 0)))))
def cF:FN:=bN 3 d7
def db:FS:=(aj (aN (nA de (ac 0) {pC (.str "\n")}) (gN 1))
 (aj (aN (aK dJ 1 {nA de (ah aG (ac 1) (~~~0)) {pC (.str " ")}}) (gN 2))
 (aj (ce (ag (ah jd (ac 2) (pC .none))) (L9.fV "NoText" "row" (~~~0)) aC)
 (aj (aN (b7 ae) (gN 3))
 (aj (aN (b7 ae) (gN 4))
 (aj (hG (nF {ke Fz (ac 1) (bK (~~~1)) cH}) (gT 2 (l9 (gN 5) (l9 (gN 6) wu))) (aj (aN (nA de (ac 6) {pC (.str " ")}) (gN 7))
 (aj (aN (aK gl 1 {ac 7}) (gN 8))
 (aj (aN (aK fL 1 {ac 7}) (gN 9))
 (ce (di (ag (ah qM (ac 8) (pC .none))) (ag (ah bV (ac 4) (b7 ae)))) (cj (iU 3 (ac 8))) (ce (ag (ah qM (ac 9) (pC .none))) (cj (iU 4 (ac 9))) (L9.fV "NoText" "row" (ac 5))))))))
 (aL (jU cF 1 {bM {ah aG (ac 2) (~~~0),b8 iJ {ac 3},b8 iJ {ac 4},ah aG (ac 2) (~~~1)}}))))))))
def bw:FN:=bN 10 db
def aA:FN
 |[b]=>(match bw [b]with
  |.er x=>if x.cls= "NoBed" then(match x.fs with
    |[(g,k),(f,l)]=>if g= "key"/\f= "layer"/\L9.nw k=Ld/\L9.nw l=Ld then .ok (.fz (.tuple [.int 0,l,k]))else .bad
    |_=>.bad)
   else if x.cls= "NoChord" then(match x.fs with
    |[(f,d)]=>if f= "place"/\L9.nw d=Ld then .ok (.fz (.tuple [.int 1,d,.none]))else .bad
    |_=>.bad)
   else if x.cls= "NoText" then(match x.fs with
    |[(f,d)]=>if f= "row"/\L9.nw d=Ld then .ok (.fz (.tuple [.int 2,d,.none]))else .bad
    |_=>.bad)else .bad
  |.ok (.fz d)=>.ok (.fz d)
  |_=>.bad)
 |_=>.bad
def fU:FS:=(aL (j8 (oY "int" (ac 0)) (zy (oY "bool" (ac 0)))))
def ij:FN:=bN 1 fU
def aJ(R:FN):FS:=(aj (ce (ag (oY "tuple" (ac 1))) (aj (ce (iR (d9 (ag (oY "tuple" (ac 0)))) (ag (ah iG (b8 bF {ac 0}) (b8 bF {ac 1})))) (aL (pC (.bool Tx))) aC)
 (aL (b8 mV {bE 2 [] (zP {ac 0,ac 1}) (gT 2 (l9 (gN 0) (l9 (gN 1) wu))) aU (aK R 2 {ac 0,ac 1})}))) aC)
 (aj (ce (ag (oY "str" (ac 1))) (aL (j8 (oY "str" (ac 0)) (ah bV (ac 0) (ac 1)))) aC)
 (aL (j8 (aK ij 1 {ac 0}) (ah bV (ac 0) (ac 1))))))
def eO:FN:=Mb
def eX:FN:=bN 2 (aJ eO)
def eN:FN:=bN 2 (aJ eX)
def eP:FN:=bN 2 (aJ eN)
def eJ:FN:=bN 2 (aJ eP)
def eV:FN:=bN 2 (aJ eJ)
def bH:FN:=bN 2 (aJ eV)
def vx:FS:=(aj (aN (aK jO 2 {ac 0,~~~7}) (gN 1))
 (aj (aN (aK ja 1 {ac 1}) (gN 2))
 (aj (aN (ac 2) (gN 3))
 (aj (aN (aK bP 2 {aK bO 2 {ac 0,~~~0},~~~30}) (gN 4))
 (aj (hG (hV d8 {ah br (ac 4) (~~~4)}) (gN 5) (aj (aN (aK bP 2 {aK bO 2 {ac 0,ah bq (~~~2) (ah fE (~~~2) (ac 5))},ah bq (~~~35) (ac 5)}) (gN 6))
 (aN (aK d6 3 {ac 3,aK bP 2 {aK bO 2 {ac 0,ah bq (~~~1) (ah fE (~~~2) (ac 5))},ah bq (~~~31) (ac 5)},ac 6}) (gN 3))))
 (aj (ce (ag (ah bV (ah br (ah bT (ac 4) (~~~4)) (~~~4)) (~~~3))) (aj (aN (b7 (aa (pC (.str "")) {pC (.str "keys"),pC (.str "keys 1 wait 1"),pC (.str "keys 1 wait 1\nlayer"),pC (.str "keys 1 wait 1\nlayer ")})) (gN 7))
 (aj (aN (ah bq (ac 7) (b7 {pC (.str "keys 1 wait 1\nlayer a\n")})) (gN 7))
 (aj (aN (ah bq (ac 7) (b7 {pC (.str "keys 01 wait 1\nlayer a"),pC (.str "keys 1 wait 5\nlayer a"),pC (.str "keys 1 wait 1\nchord 0 a\nlayer a")})) (gN 7))
 (aj (aN (ah bq (ac 7) (b7 {pC (.str "keys 1 wait 1\nlayer a\nchord 0 a"),pC (.str "keys 1 wait 1\nlayer >1"),pC (.str "keys 1 wait 1\nlayer _")})) (gN 7))
 (aj (aN (ah bq (ac 7) (b7 {pC (.str "keys 1 wait 1\nlayer a>"),pC (.str "keys 1 wait 1\nlayer ~"),pC (.str "keys 1 wait 1\nlayer a>1\nlayer _")})) (gN 7))
 (aj (aN (ah bq (ac 7) (b7 {pC (.str "keys 2 wait 1\nlayer a b\nchord 1+0 c"),pC (.str "keys 2 wait 1\nlayer a b\nchord 0+ c")})) (gN 7))
 (aj (aN (ah bq (ac 7) (b7 {pC (.str "keys 2 wait 1\nlayer a b\nchord 0+1 C"),pC (.str "keys 1 wait 100\nlayer a")})) (gN 7))
 (aj (aN (ah bq (ac 7) (b7 {pC (.str "keys 10 wait 1\nlayer a"),pC (.str "keys 1 wait 1\nlayer a>100\nlayer b")})) (gN 7))
 (aj (aN (ah bq (ac 7) (b7 {pC (.str "keys 2 wait 1\nlayer a b\nchord 0+1 c\nchord 0+1 d")})) (gN 7))
 (aj (aN (ah bq (ac 7) (b7 {pC (.str "keys 2 wait 1\nlayer a _\nlayer a")})) (gN 7))
 (aN (ah aG (ac 7) (ah br (ah bT (ac 4) (~~~16)) (~~~23))) (gN 3)))))))))))) aC)
 (aj (aN (aK cA 1 {ac 3}) (gN 8))
 (aj (ce (ag (ah bV (b8 bF {ac 8}) (~~~4))) (aj (aN (aK gu 1 {ac 8}) (gN 9))
 (aj (ce (ag (ah jd (ac 9) (pC .none))) (aL (j8 (aK bH 2 {aK aA 1 {ac 3},ac 8}) (aK bH 2 {aK aA 1 {ac 2},ac 1}))) aC)
 (aN (ac 9) (gN 8)))) aC)
 (aL (j8 (ah bV (aK aA 1 {ac 3}) (ac 8)) (aK bH 2 {aK aA 1 {ac 2},ac 1})))))))))))
def F_law:FN:=bN 10 vx
end K24
namespace K24
open PySem L2 L3 L10
def pB(ns:ck Int)(lo hi:cv Int):ck Int:=(ns.drop (HT.sIx ns.length 0 lo)).take (HT.sIx ns.length ns.length hi - HT.sIx ns.length 0 lo)
theorem jC(ns:ck Int)(k:Int)(f:0<=k)(e:ns.length<=63):∃c:Int,bO [.list (ns.map .int),.int k]=.ok (.fz (.int c)):=by
 unfold bO gQ;have b:ur (.list (ns.map .int)) (ax k) (ax (k+1))=ax (.ow (iX (ns.map .int) (ax k) (ax (k+1)))):=rfl;have d:iX (ns.map lD.int) (ax k) (ax (k+1))=(pB ns (ax k) (ax (k+1))).map .int:=by unfold iX pB;rw[Tv,YV,X4]
 rw[d]at b;have a:(pB ns (ax k) (ax (k+1))).length<=63:=by unfold pB;rw[Uq,UB];ext
 generalize pB ns (ax k) (ax (k+1))=cs at b a;have g:bq (.list (cs.map .int)) (.list [.int 0])=ax (.ow (cs.map .int++[.int 0])):=by show(if(cs.map lD.int).length+1<=1000000 then _ else _)=_;rw[Tv,ak (by ext)]
 cases cs with
 |nil=>have e3:aG (.list (([]:ck Int).map lD.int++[.int 0])) (.int 0)=-(.int 0):=nr;exact⟨0,aY (ρ:=[-(.list (ns.map .int)),-(.int k)]) rfl (aR (by fail "ev") rfl rfl)⟩
 |cons c r=>have e3:aG (.list ((c::r).map lD.int++[.int 0])) (.int 0)=-(.int c):=nr;exact⟨c,aY (ρ:=[-(.list (ns.map .int)),-(.int k)]) rfl (aR (by fail "ev") rfl rfl)⟩
theorem lC(c s:Int)(n:0<=s)(m:s<=1000):∃r:Int,0<=r/\cy [.int c,.int s]=.ok (.fz (.int r)):=by unfold cy dD;have h:0<=c % 1000000007/\c % 1000000007<1000000007:=⟨Vi _ (by decide),VA _ (by decide)⟩;have g:br (.int c) (.int 1000000007)=-(.int (c % 1000000007)):=cC (by decide);have l:fE (.int 13) (.int s)=-(.int (13*s)):=gY ⟨by ext,by ext⟩;generalize c % 1000000007=x at h g;have e:fE (.int s) (.int s)=-(.int (s*s)):=gY ⟨by ext,by ext⟩;generalize s*s=ss at e;have d:fE (.int (x+13*s)) (.int (x+13*s+ss+11))=-(.int ((x+13*s)*(x+13*s+ss+11))):=gY ⟨by ext,by ext⟩;generalize (x+13*s)*(x+13*s+ss+11)=y at d;have k:fE (.int 40487) (.int s)=-(.int (40487*s)):=gY ⟨by ext,by ext⟩;have b2:0<=(y+40487*s+7) % 1000000033/\(y+40487*s+7) % 1000000033<1000000033:=⟨Vi _ (by decide),VA _ (by decide)⟩;have b:br (.int (y+40487*s+7)) (.int 1000000033)=-(.int ((y+40487*s+7) % 1000000033)):=cC (by decide);generalize (y+40487*s+7) % 1000000033=z at b2 b;have j:bT (.int z) (.int 7)=-(.int (z/7)):=cI ⟨by ext,by ext⟩;have a:fE (.int z) (.int (z/7+31))=-(.int (z*(z/7+31))):=gY ⟨by ext,by ext⟩;generalize z*(z/7+31)=u at a;have b3:0<=(u+90001) % 999999937:=Vi _ (by decide);have i:br (.int (u+90001)) (.int 999999937)=-(.int ((u+90001) % 999999937)):=cC (by decide);have f:bT (.int ((u+90001) % 999999937)) (.int 3)=-(.int ((u+90001) % 999999937/3)):=cI ⟨by ext,by ext⟩;refine⟨(u+90001) % 999999937/3,by ext,aY (ρ:=[-(.int c),-(.int s),CL]) rfl (dG (fC (by fail "ev") rfl (dG (fC (by fail "ev") rfl (aR (by fail "ev") rfl rfl)))))⟩
theorem DT(c:Int):0<=if 0 - c>c then 0 - c else c:=by split<;>ext
theorem jL(c s:Int)(f:0<=s)(d:s<=1000):∃r:Int,0<=r/\bP [.int c,.int s]=.ok (.fz (.int r)):=by
 unfold bP fG;obtain⟨r,j,er⟩:=lC c s f d;obtain⟨q,b,eq⟩:=lC r 3 (by decide) (by decide);have i:jp [.int c,.int (0 - c)]=-(.int (if 0 - c>c then 0 - c else c)):=rfl;have a:=DT c;generalize (if 0 - c>c then 0 - c else c)=mx at i a;obtain⟨rv,e,t⟩:=ko (ds:=[.int c,.int s]) (ρ:=[-(.int c),-(.int s)]) (n:=2) (g:=fG) (T:=λv=>∃r:Int,0<=r/\v=.fz (.int r)) rfl
  (dG (eh (by fail "ev") (λ_=>aR (by fail "ev") rfl ⟨mx,a,rfl⟩) (λ_=>cV (aR (by fail "ev") rfl ⟨q,b,rfl⟩))))
 obtain⟨r,h,rfl⟩:=t;exact⟨r,h,e⟩
theorem zU(c:Int):∃xs:ck Int,xs.length=20/\(∀x∈xs,0<=x)/\gG [.int c,.int 20]=.ok (.ow (xs.map .int)):=by
 have q:=DT c;have M:jp [.int c,.int (0 - c)]=-(.int (if 0 - c>c then 0 - c else c)):=rfl;generalize (if 0 - c>c then 0 - c else c)=mx at M q;have Q:=Q6;have C:=Pp;have B:d8 [.int 20]=ax (cG (Uo 20)):=ka (n:=20) (by decide) (by decide);have P:d8 [.int 3]=ax (cG (Uo 3)):=ka (n:=3) (by decide) (by decide);obtain⟨rv,e,xs,p,K,rfl⟩:=ko (ds:=[.int c,.int 20]) (ρ:=[-(.int c),-(.int 20),CL,CL,CL,CL,CL]) (n:=7) (g:=dj) (T:=λv=>∃xs:ck Int,xs.length=20/\(∀x∈xs,0<=x)/\v=.ow (xs.map .int)) rfl (by
  unfold dj;fail "go"
  with_reducible apply fW (λi ρ=>∃(xs:ck Int) (l:Int) (f b a:cv PV),ρ=[-(.int c),-(.int 20),ax (.ow (xs.map .int)),-(.int l),f,b,a]/\xs.length=i/\(∀x∈xs,0<=x)/\0<=l)
  .fail "ev"
  .exact⟨[],mx,CL,CL,CL,rfl,rfl,λx h=>(by cases h),q⟩
  .rintro i d ρ hi ⟨xs,l,f,b,a,rfl,hxl,hx,hl⟩
   obtain⟨k,A,rfl⟩:=fk hi;have O:k<20:=Ur.mp (Uk A);have N:i<20:=by have:=(TN.mp A).1;simpa using this
   refine⟨_,rfl,?_⟩;fail "go"
   with_reducible apply fW (λi ρ=>∃(x:Int) (a:cv PV),ρ=[-(.int c),-(.int 20),ax (.ow (xs.map .int)),-(.int l),-(nd k),-(.int x),a]/\0<=x)
   .fail "ev"
   .exact⟨0,a,rfl,by decide⟩
   .rintro j d ρ J ⟨x,a,rfl,hx0⟩;obtain⟨u,o,rfl⟩:=fk J;have I:u<3:=Ur.mp (Uk o);obtain⟨r,X,er⟩:=lC c (3*(k:Int)+(u:Int)) (by ext) (by ext);have U:fE (.int 3) (nd k)=-(.int (3*(k:Int))):=gY ⟨by ext,by ext⟩;have S:fE (.int x) (.int (10^8))=-(.int (x*10^8)):=BN ⟨by decide,by decide⟩;have G:br (.int r) (.int (10^8))=-(.int (r % 10^8)):=cC (by decide);have t:0<=r % 10^8:=Vi _ (by decide);refine⟨_,rfl,?_⟩;fail "go";refine⟨x*10^8+r % 10^8,_,rfl,?_⟩;have:0<=x*10^8:=Int.mul_nonneg hx0 (by decide);ext
   .rintro ρ ⟨x,a,rfl,hx0⟩
    have G:br (.int l) (.int (10^24))=-(.int (l % 10^24)):=cC (by decide);have R:bT (.int l) (.int (10^24))=-(.int (l/10^24)):=cI ⟨by decide,by decide⟩;have t:0<=l % 10^24:=Vi _ (by decide);have F:0<=l/10^24:=Int.ediv_nonneg hl (by decide)
    have m:∀(x l:Int) (a:cv PV),0<=x->0<=l->Go (cj (iU 2 (ac 5)) [-(.int c),-(.int 20),ax (.ow (xs.map .int)),-(.int l),-(nd k),-(.int x),a])
      (λρ=>∃(xs:ck Int) (l:Int) (f b a:cv PV),ρ=[-(.int c),-(.int 20),ax (.ow (xs.map .int)),-(.int l),f,b,a]/\xs.length=i+1/\(∀x∈xs,0<=x)/\0<=l)
      (λρ=>∃(xs:ck Int) (l:Int) (f b a:cv PV),ρ=[-(.int c),-(.int 20),ax (.ow (xs.map .int)),-(.int l),f,b,a]/\xs.length=i+1/\(∀x∈xs,0<=x)/\0<=l)
      (λv=>∃xs:ck Int,xs.length=20/\(∀x∈xs,0<=x)/\v=.ow (xs.map .int)):=λx l a L p=>by
     have w:(xs.map lD.int).length<1000000:=by rw[Tv];ext
     refine gJ (by fail "ev") ⟨xs++[x],l,_,_,_,by rw[UY];rfl,by rw[T4,hxl];rfl,λy H=>?_,p⟩;rcases Uy.mp H with z|z
     .exact hx y z
     .rw[TX.mp z];exact L
    have E:=C2;fail "go"
    .intro _;fail "go";exact m _ _ _ t F
    .intro _;exact ay (m _ _ _ hx0 hl)
  .rintro ρ ⟨xs,l,f,b,a,rfl,hxl,hx,hl⟩;exact aR (by fail "ev") rfl ⟨xs,hxl,hx,rfl⟩)
 exact⟨xs,p,K,e⟩
def jz(c:Nat):Str:=⟨#[97+c]⟩
inductive Mn where
 |UP (c:Nat)
 |Vh (n:Int)
 |XF (c:Nat) (n:Int)
 |once (n:Int)
 |none
 |below
def mD:Mn->D
 |.UP c=>.tuple [.str "letter",.str (jz c)]
 |.Vh n=>.tuple [.str "layer",.int n]
 |.XF c n=>.tuple [.str "tap",.str (jz c),.int n]
 |.once n=>.tuple [.str "once",.int n]
 |.none=>.tuple [.str "none"]
 |.below=>.tuple [.str "below"]
def VM(L nL:Int):Mn->Prop
 |.UP c=>c<26
 |.Vh n=>1<=n/\n<nL
 |.XF c n=>c<26/\1<=n/\n<nL
 |.once n=>1<=n/\n<nL
 |.none=>True
 |.below=>L≠0
def Mn.isL:Mn->Bool
 |.UP _=>Ld
 |_=>Tx
theorem kE(x:Int)(h:0<=x):∃c:Nat,c<26/\bp [.int x]=.ok (.fz (.str (jz c))):=by
 unfold bp eY;have d:0<=x % 26/\x % 26<26:=⟨Vi _ (by decide),VA _ (by decide)⟩;have f:br (.int x) (.int 26)=-(.int (x % 26)):=cC (by decide);have a:∀c,c<26->(("abcdefghijklmnopqrstuvwxyz":Str).cps.toList)[c]?=ax (97+c):=by left
 have b:("abcdefghijklmnopqrstuvwxyz":Str).length<=1000000:=by left
 have e:AJ (.str "abcdefghijklmnopqrstuvwxyz") (.int (x % 26))=-(.str (jz (x % 26).toNat)):=by show(if("abcdefghijklmnopqrstuvwxyz":Str).length<=1000000 then(mL ("abcdefghijklmnopqrstuvwxyz":Str).cps.toList (x % 26)).map (λc=>RV.fz (.str ⟨#[c]⟩))else CL)=_;rw[ak b,oE d.1 (a (x % 26).toNat (by ext))];rfl
 exact⟨(x % 26).toNat,by ext,aY (ρ:=[-(.int x)]) rfl (aR (by fail "ev") rfl rfl)⟩
theorem uM(x k nL:Int)(h:0<=x)(b:0<k/\k<2^128)(hn:1<=nL):∃t:Int,1<=t/\(2<=nL->t<nL)/\True/\
  bT (.int x) (.int k)=-(.int (x/k))/\jp [.int 1,.int (nL - 1)]=-(.int (if nL - 1>1 then nL - 1 else 1))/\br (.int (x/k)) (.int (if nL - 1>1 then nL - 1 else 1))=-(.int (t - 1))/\bq (.int 1) (.int (t - 1))=-(.int t):=by
 have a:0<if nL - 1>1 then nL - 1 else 1:=by split<;>ext
 have e:0<=(x/k) % (if nL - 1>1 then nL - 1 else 1):=Vi _ (by ext);have b2:(x/k) % (if nL - 1>1 then nL - 1 else 1)<(if nL - 1>1 then nL - 1 else 1):=VA _ a;refine⟨1+(x/k) % (if nL - 1>1 then nL - 1 else 1),by ext,λd=>?_,trivial,cI b,rfl,?_,?_⟩
 .split at b2<;>split<;>ext
 .rw[cC a];congr 3;ext
 .rw[wm];congr 3;ext
theorem xE(x L nL:Int)(h:0<=x)(H:0<=L)(hn:1<=nL):∃m,VM L nL m/\dI [.int x,.int L,.int nL]=.ok (.fz (mD m)):=by
 have o:0<=x % 8/\x % 8<8:=⟨Vi _ (by decide),VA _ (by decide)⟩;have l:br (.int x) (.int 8)=-(.int (x % 8)):=cC (by decide);have G:bT (.int x) (.int 8)=-(.int (x/8)):=cI ⟨by decide,by decide⟩;obtain⟨c,f,I⟩:=kE (x/8) (by ext);obtain⟨t,d,b,_,F,E,C,B⟩:=uM x 208 nL h ⟨by decide,by decide⟩ hn;generalize x % 8=s at o l;have e4:∀a:Int,bV (.int s) (.int a)=-(.bool (decide (s=a))):=λa=>gC _ _;obtain⟨rv,e,m,hm,rfl⟩:=ko (ds:=[.int x,.int L,.int nL]) (ρ:=[-(.int x),-(.int L),-(.int nL),CL,CL,CL]) (n:=6) (g:=dP) (T:=λv=>∃m,VM L nL m/\v=.fz (mD m)) rfl (by
  refine dG (fC (by fail "ev") rfl (dG (fC (by fail "ev") rfl (dG (eh (by fail "ev") (λ_=>aR (by fail "ev") rfl ⟨.UP c,f,rfl⟩) (λq=>cV ?_))))));have A:¬s<3:=by intro z;rw[a4 z]at q;cases q
  have y:¬(nL=1/\s<7):=by rintro⟨j,i⟩;rw[a4 j,a4 i,U7,V4]at q;cases q
  refine dG (fC (by fail "ev") rfl (dG (eh (by fail "ev") (λq=>aR (by fail "ev") rfl ⟨.Vh t,⟨d,b ?_⟩,rfl⟩) (λw=>cV ?_))))
  .have:=a6 q;ext
  refine dG (eh (by fail "ev") (λq=>aR (by fail "ev") rfl ⟨.XF c t,⟨f,d,b ?_⟩,rfl⟩) (λu=>cV ?_))
  .have:=a6 q;ext
  refine dG (eh (by fail "ev") (λq=>aR (by fail "ev") rfl ⟨.once t,⟨d,b ?_⟩,rfl⟩) (λr=>cV ?_))
  .have:=a6 q;ext
  refine dG (eh (by fail "ev") (λq=>aR (by fail "ev") rfl ⟨.below,?_,rfl⟩) (λp=>cV (aR (by fail "ev") rfl ⟨.none,True.intro,rfl⟩)))
  .have k:=(Tu _ _▸q:_/\_).2;have:=a6 k;show L≠0;ext)
 exact⟨m,hm,e⟩
theorem qY(x L nL:Int)(h:0<=x)(C:0<=L)(hn:1<=nL):∃m,VM L nL m/\cS [.int x,.int L,.int nL]=.ok (.fz (mD m)):=by
 have q:0<=x % 6/\x % 6<6:=⟨Vi _ (by decide),VA _ (by decide)⟩;have p:br (.int x) (.int 6)=-(.int (x % 6)):=cC (by decide);have B:bT (.int x) (.int 6)=-(.int (x/6)):=cI ⟨by decide,by decide⟩;obtain⟨c,l,E⟩:=kE (x/6) (by ext);obtain⟨t,b,a,_,A,y,w,u⟩:=uM x 156 nL h ⟨by decide,by decide⟩ hn;generalize x % 6=s at q p;obtain⟨rv,e,m,hm,rfl⟩:=ko (ds:=[.int x,.int L,.int nL]) (ρ:=[-(.int x),-(.int L),-(.int nL),CL,CL,CL,CL]) (n:=7) (g:=cR) (T:=λv=>∃m,VM L nL m/\v=.fz (mD m)) rfl (by
  refine dG (fC (by fail "ev") rfl (dG (fC (by fail "ev") rfl (dG (fC (by fail "ev") rfl (dG (fC (by fail "ev") rfl (dG ?_))))))));refine eh (by fail "ev") (λ_=>fC (by fail "ev") rfl (aR (by fail "ev") rfl ⟨.none,True.intro,rfl⟩)) (λj=>?_);refine eh (by fail "ev") (λi=>fC (by fail "ev") rfl (aR (by fail "ev") rfl ⟨.below,?_,rfl⟩)) (λi=>?_)
  .have d:=a6 i;show L≠0;intro z;rw[a4 d,a4 z,U7,V4]at j;cases j
  refine eh (by fail "ev") (λf=>?_) (λf=>cV (aR (by fail "ev") rfl ⟨.UP c,l,rfl⟩));have z:=(Tu _ _▸f:_/\_);have r:=a6 z.1;have d:=a6 z.2;have o:s=3\/s=4\/s=5:=by ext
  rcases o with rfl|rfl|rfl
  .have k:aG (.list [.tuple [.str "layer",.int t],.tuple [.str "tap",.str (jz c),.int t],.tuple [.str "once",.int t]]) (.int (3 - 3))=-(.tuple [.str "layer",.int t]):=jZ (by decide) rfl;exact fC (by fail "ev") rfl (aR (by fail "ev") rfl ⟨.Vh t,⟨b,a (by ext)⟩,rfl⟩)
  .have k:aG (.list [.tuple [.str "layer",.int t],.tuple [.str "tap",.str (jz c),.int t],.tuple [.str "once",.int t]]) (.int (4 - 3))=-(.tuple [.str "tap",.str (jz c),.int t]):=jZ (by decide) rfl;exact fC (by fail "ev") rfl (aR (by fail "ev") rfl ⟨.XF c t,⟨l,b,a (by ext)⟩,rfl⟩)
  .have k:aG (.list [.tuple [.str "layer",.int t],.tuple [.str "tap",.str (jz c),.int t],.tuple [.str "once",.int t]]) (.int (5 - 3))=-(.tuple [.str "once",.int t]):=jZ (by decide) rfl;exact fC (by fail "ev") rfl (aR (by fail "ev") rfl ⟨.once t,⟨b,a (by ext)⟩,rfl⟩))
 exact⟨m,hm,e⟩
structure Bd where
 n:Int
 ls:ck (ck Mn)
 cs:ck (ck Nat×Nat)
 wt:Int
def qK(l:ck Mn):D:=.tuple (l.map mD)
def WD(c:ck Nat×Nat):D:=.tuple [.tuple (cG c.1),.str (jz c.2)]
def bD(b:Bd):D:=.tuple [.int b.n,.tuple (b.ls.map qK),.tuple (b.cs.map WD),.int b.wt]
def VL(n nL:Int)(ls:ck (ck Mn)):Prop:=∀(i:Nat) l,ls[i]?=ax l->(l.length:Int)=n/\∀m∈l,VM i nL m
def vX(a:ck Mn)(k:Nat):Bool:=(a[k]?.map Mn.isL).getD Tx
def VC(a:ck Mn)(c:ck Nat×Nat):Prop:=2<=c.1.length/\c.1.Pairwise (·<·)/\(∀k∈c.1,vX a k=Ld)/\c.2<26
structure VB(b:Bd):Prop where
 n1:1<=b.n
 n5:b.n<=5
 l1:1<=b.ls.length
 l3:b.ls.length<=3
 vl:VL b.n b.ls.length b.ls
 c4:b.cs.length<=4
 vc:∀c∈b.cs,VC (b.ls.headD []) c
 cu:b.cs.Pairwise λa c=>a.1≠c.1
 w1:1<=b.wt
 w4:b.wt<=4
def wd:Mn->Str
 |.UP _=> "letter"
 |.Vh _=> "layer"
 |.XF _ _=> "tap"
 |.once _=> "once"
 |.none=> "none"
 |.below=> "below"
theorem Ij(m:Mn):aG (mD m) (.int 0)=-(.str (wd m)):=by cases m<;>exact iV
theorem rZ(m:Mn):bV (.str (wd m)) (.str "letter")=-(.bool m.isL):=by
 cases m with
 |UP c=>exact pO (a:= "letter") (by left)
 |Vh n=>exact eS (a:= "layer") (by left) (by left) (by left)
 |XF c n=>exact eS (a:= "tap") (by left) (by left) (by left)
 |once n=>exact eS (a:= "once") (by left) (by left) (by left)
 |none=>exact eS (a:= "none") (by left) (by left) (by left)
 |below=>exact eS (a:= "below") (by left) (by left) (by left)
theorem mZ{ft:FT}{cs:aD}(p:Nat->Bool)(xs:ck Nat)(f:xs.length<=1000000)(g:bX cs=cs)(h:∀x∈xs,ft (-(nd x)::cs)=.ok (p x,-(nd x)::cs)):g9 (cf (gN 0) ft (ac 0) (cG xs) (CL::cs) [])=.ok (cG (xs.filter p)):=by
 rw[F6 (λρ=>∃o,ρ=o::cs) (λd=>match d with|.int i=>if p i.toNat=Ld then ax (.int i)else CL|_=>CL) ⟨CL,rfl⟩ (by rw[bS];exact f) ?_,JX (p:=p) xs λx _=>by rfl];rintro d j ρ ⟨o,rfl⟩;obtain⟨x,e,rfl⟩:=TZ.mp j;refine⟨-(nd x)::cs,?_,_,rfl⟩;show ju _ _ _ (nd x) (o::cs)=.ok ((if p ((x:Nat):Int).toNat=Ld then ax (nd x)else CL),-(nd x)::cs);rw[UI];have b:bX (ax (PV.fz (nd x))::cs)=-(nd x)::cs:=by show rq _::bX cs=_;rw[g];rfl
 have a:=h x e;cases q:p x with
 |true=>rw[q]at a;rw[ak rfl];exact lY rfl a rfl rfl b
 |false=>rw[q]at a;rw[ar Tz];exact Rf rfl a b
def pw(k:Nat):Int:=match k with
 |0=>1
 |1=>2
 |2=>4
 |3=>8
 |_=>16
theorem NG(k:Nat)(h:k<5):aG (.list [.int 1,.int 2,.int 4,.int 8,.int 16]) (nd k)=-(.int (pw k))/\0<pw k/\pw k<2^128:=by
 have:k=0\/k=1\/k=2\/k=3\/k=4:=by ext
 rcases this with rfl|rfl|rfl|rfl|rfl<;>exact⟨PM rfl,by decide,by decide⟩
def sX(x:Int)(k:Nat):Bool:=decide (x/pw k % 2=1)
def ia(n:Int)(a:ck Mn):ck Nat:=(Uo n.toNat).filter (vX a)
theorem vn{n:Int}{a:ck Mn}(h:n<=5):∀k∈ia n a,k<5:=λk b=>by have:=Ur.mp (VJ.mp b).1;ext
theorem r8{n:Int}{a:ck Mn}(h:n<=5):(ia n a).length<=5:=by have b:=List.length_filter_le (vX a) (Uo n.toNat);rw[Ul]at b;unfold ia;ext
theorem vi{n:Int}{a:ck Mn}{r:ck (ck Mn)}(g:0<=n)(f:n<=5)(e:(a.length:Int)=n):g9 (cf (gN 0) (ag (ah bV (ah aG (ah aG (ah aG (ac 1) (~~~0)) (ac 0)) (~~~0)) (pC (.str "letter")))) (ac 0) (cG (Uo n.toNat)) [CL,-(.list ((a::r).map qK))] [])=.ok (cG (ia n a)):=by
 refine mZ (vX a) _ (by rw[Ul];ext) rfl λx d=>?_;have d:=Ur.mp d;have b:x<a.length:=by ext
 have i:aG (.list ((a::r).map qK)) (.int 0)=-(qK a):=nr;have h:aG (qK a) (nd x)=-(mD a[x]):=Aj (by rw[TU,TF b];rfl);have e3:=Ij a[x];have e4:=rZ a[x];have e5:vX a x=a[x].isL:=by unfold vX;rw[TF b];rfl
 rw[e5];fail "ev"
theorem xW{ps:ck Nat}{x:Int}(a:∀k∈ps,k<5)(e:ps.length<=5):g9 (cf (gN 0) (ag (ah bV (ah br (ah bT (ac 1) (ah aG (b7 (aa (~~~1) {~~~2,~~~4,~~~8,~~~16})) (ac 0))) (~~~2)) (~~~1))) (ac 0) (cG ps) [CL,-(.int x)] [])=.ok (cG (ps.filter (sX x))):=by refine mZ (sX x) _ (by ext) rfl λk b=>?_;obtain⟨f,d,e3⟩:=NG k (a k b);have e4:bT (.int x) (.int (pw k))=-(.int (x/pw k)):=cI ⟨d,e3⟩;have e5:br (.int (x/pw k)) (.int 2)=-(.int (x/pw k % 2)):=cC (by decide);have e6:bV (.int (x/pw k % 2)) (.int 1)=-(.bool (sX x k)):=gC _ _;fail "ev"
def DY(a:ck (ck Nat)):ck D:=a.map λK=>.tuple (cG K)
theorem ub:∀Ks:ck (ck Nat),lD.canLayAll0 (DY Ks)=Ld
 |[]=>rfl
 |K::r=>by show(lD.canLayAll0 (cG K)&&lD.canLayAll0 (DY r))=Ld;rw[sg,ub r];rfl
theorem sC(s:ck Nat):∀Ks:ck (ck Nat),((DY Ks).any λe=>lD.eqv e (.tuple (cG s)))=decide (s∈Ks)
 |[]=>rfl
 |K::r=>by
  show(lD.eqvAll (cG K) (cG s)||(DY r).any λe=>lD.eqv e (.tuple (cG s)))=_;rw[sC s r,y4]
  grind
theorem FQ(s:ck Nat)(a:ck (ck Nat)):jM (.tuple (cG s)) (.list (DY a))=-(.bool (!decide (s∈a))):=by show(if(jP (.tuple (cG s))&&lD.canLayAll0 (DY a))=Ld then _ else _)=_;rw[Bu,ub,U7,ak rfl,sC]
theorem Ac(cs:ck (ck Nat×Nat))(k:cs.length<=1000)(fe:FE)(cp:aD)(b:bX cp=cp)(a:∀c,fe (-(WD c)::cp)=.ok (.fz (.tuple (cG c.1)),-(WD c)::cp)):g9 (cf (gN 0) aU fe (cs.map WD) (CL::cp) [])=.ok (DY (cs.map (·.1))):=by
 obtain⟨xs,h,g,f⟩:=dR (gt:=gN 0) (ft:=aU) (fe:=fe) (ds:=cs.map WD) (ρ:=CL::cp) (λρ=>∃o,ρ=o::cp) (λi x=>∃c,cs[i]?=ax c/\x=.tuple (cG c.1)) ⟨CL,rfl⟩ (by rw[Tv];ext) (by
  rintro i d hi ρ ⟨o,rfl⟩;rw[TU]at hi;cases q:cs[i]? with
  |none=>rw[q]at hi;cases hi
  |some c=>
   rw[q]at hi;cases hi;have j:bX (ax (PV.fz (WD c))::cp)=-(WD c)::cp:=by show rq _::bX cp=_;rw[b];rfl
   exact⟨_,_,lY rfl rfl (a c) rfl j,⟨_,rfl⟩,c,rfl,rfl⟩)
 rw[h];congr 1;refine XU λi=>?_;unfold DY;rw[TU,TU];cases q:xs[i]? with
 |none=>
  have:cs.length<=i:=by have:=WE.mp q;rw[g,Tv]at this;exact this
  rw[Wr this];rfl
 |some x=>obtain⟨c,e,rfl⟩:=f i x q;rw[e];rfl
theorem pp{ρ:aD}{a b c:Nat}{s:ck Nat}{cs:ck (ck Nat×Nat)}{x:Int}{N C:aD->Prop}{T:RV->Prop}(ha:ρ[a]?=ax (-(.tuple (cG s))))(g:ρ[b]?=ax (ax (.ow (cs.map WD))))(o:ρ[c]?=ax (-(.int x)))(y:0<=x)(n:cs.length<=1000)
  (r:N ρ) (p:∀l,l<26->2<=s.length->s∉cs.map (·.1)->N (ρ.set b (ax (.ow ((cs++[(s,l)]).map WD))))):
  Go (ce (di (ag (ah oO (b8 bF {ac a}) (~~~1))) (ag (ah jM (ac a) (bE 1 [] (lu b) (gN 0) aU (ah aG (ac 0) (~~~0)))))) (cj (iU b (bM {ac a,aK bp 1 {ah bT (ac c) (~~~32)}}))) aC ρ) N C T:=by
 have e:ac a ρ=.ok (.fz (.tuple (cG s)),ρ):=af ha;have j:ac c ρ=.ok (.fz (.int x),ρ):=af o;have h:bE 1 [] (lu b) (gN 0) aU (ah aG (ac 0) (~~~0)) ρ=.ok (.ow (DY (cs.map (·.1))),ρ):=bg (by unfold lu;rw[g];rfl) rfl (Ac cs n _ [] rfl λc=>aO (rv:=.fz (.tuple (cG c.1))) (af rfl) av rfl rfl iV);have t:=FQ s (cs.map (·.1));have v:oO (nd (cG s).length) (.int 1)=-(.bool (decide ((1:Int)<((cG s).length:Nat)))):=rfl;have w:bT (.int x) (.int 32)=-(.int (x/32)):=cI ⟨by decide,by decide⟩;obtain⟨l,i,u⟩:=kE (x/32) (by ext);refine eh (b:=decide ((1:Int)<((cG s).length:Nat))&& !decide (s∈cs.map (·.1))) (ρ1:=ρ) (bR (aw (aO (bC (ad e ai) rfl (mM _)) av rfl rfl v) rfl) λ_=>aw (aO e h rfl rfl t) rfl) (λq=>?_) λ_=>cV r;have f:=(Tu _ _▸q:_/\_);have m:=a6 f.1;rw[bS]at m;have k:s∉cs.map (·.1):=λz=>by rw[a4 z]at f;cases f.2
 refine gJ (pv:=.fz .none) (ρ1:=ρ.set b (ax (.ow ((cs++[(s,l)]).map WD)))) (iP (d:=WD (s,l)) (ds:=cs.map WD) (ρ2:=ρ) g (gy (ad e (ad (eH (ad (aO j av rfl rfl w) ai) rfl rfl u) ai)) rfl (by show 2<=1000;decide)) rfl g (by rw[Tv];ext) (by rw[UY];rfl)) (p l i (by ext) k)
theorem js{n i k:Nat}(h:(Uo n)[i]?=ax k):k=i/\i<n:=by obtain⟨b,a⟩:=TN.mp h;rw[Y2]at a;rw[Ul]at b;exact⟨a.symm,b⟩
theorem y9{xs:ck Int}{i:Int}(a:0<=i)(h:i.toNat<xs.length):aG (.list (xs.map .int)) (.int i)=-(.int xs[i.toNat]):=jZ a (by rw[TU,TF h];rfl)
theorem VL.snoc{n nL:Int}{ls:ck (ck Mn)}{a:ck Mn}(h:VL n nL ls)(d:(a.length:Int)=n)(b:∀m∈a,VM ls.length nL m):VL n nL (ls++[a]):=by
 intro i l hi;rw[List.getElem?_append]at hi;split at hi
 .exact h i l hi
 .rename_i hn
  have e:i=ls.length:=by have:=(TN.mp hi).1;rw[US]at this;ext
  subst e;rw[agf]at hi;cases hi;exact⟨d,b⟩
theorem HA{k:Nat}{nL:Int}{a:ck Mn}(h:∀(i:Nat) m,a[i]?=ax m->VM k nL m):∀m∈a,VM k nL m:=λm hm=>by obtain⟨i,hi⟩:=Ve.mp hm;exact h i m hi
theorem Cp{n:Int}{a:ck Mn}{x:Int}(h:2<=((ia n a).filter (sX x)).length){l:Nat}(b:l<26):VC a ((ia n a).filter (sX x),l):=by
 refine⟨h,?_,λk d=>?_,b⟩
 .exact ZO _ (ZO _ List.pairwise_lt_range)
 .exact(VJ.mp (VJ.mp d).1).2
theorem sU{a:ck Mn}{cs:ck (ck Nat×Nat)}{c:ck Nat×Nat}(f:∀c∈cs,VC a c)(e:VC a c):∀d∈cs++[c],VC a d:=λd b=>by
 rcases Uy.mp b with z|z
 .exact f d z
 .rw[TX.mp z];exact e
theorem uo{cs:ck (ck Nat×Nat)}{s:ck Nat}{l:Nat}(f:cs.Pairwise λa c=>a.1≠c.1)(e:s∉cs.map (·.1)):(cs++[(s,l)]).Pairwise λa c=>a.1≠c.1:=by refine List.pairwise_append.mpr ⟨f,aaW _ _,λa ha b d=>?_⟩;rw[TX.mp d];exact λz=>e (TZ.mpr ⟨a,ha,z⟩)
theorem vq(xs:ck Int)(P:xs.length=20)(H:∀x∈xs,0<=x):∃b,VB b/\fw [.list (xs.map .int)]=.ok (.fz (bD b)):=by
 have e0:aG (.list (xs.map .int)) (.int 0)=-(.int xs[0]):=y9 (i:=0) (by decide) (by rw[P];decide);have G:0<=xs[0]:=H _ (Vz _);generalize xs[0]=x0 at e0 G;have m1:br (.int x0) (.int 5)=-(.int (x0 % 5)):=cC (by decide);have m2:bT (.int x0) (.int 5)=-(.int (x0/5)):=cI ⟨by decide,by decide⟩;have m3:br (.int (x0/5)) (.int 3)=-(.int (x0/5 % 3)):=cC (by decide);have m4:bT (.int x0) (.int 60)=-(.int (x0/60)):=cI ⟨by decide,by decide⟩;have m5:br (.int (x0/60)) (.int 5)=-(.int (x0/60 % 5)):=cC (by decide);have m6:bT (.int x0) (.int 15)=-(.int (x0/15)):=cI ⟨by decide,by decide⟩;have m7:br (.int (x0/15)) (.int 4)=-(.int (x0/15 % 4)):=cC (by decide);obtain⟨n,hn⟩:∃n,n=1+x0 % 5:=⟨_,rfl⟩;obtain⟨p,K⟩:∃n,n=1+x0/5 % 3:=⟨_,rfl⟩;have a1:bq (.int 1) (.int (x0 % 5))=-(.int n):=by rw[hn];rfl
 have a2:bq (.int 1) (.int (x0/5 % 3))=-(.int p):=by rw[K];rfl
 have w:1<=n/\n<=5:=by ext
 have U:1<=p/\p<=3:=by ext
 have rn:d8 [.int p]=ax (cG (Uo p.toNat)):=ka (by ext) (by ext);have rk:d8 [.int n]=ax (cG (Uo n.toNat)):=ka (by ext) (by ext);have N:(pB xs (ax 16) (ax (16+x0/60 % 5))).length<=4:=by
  unfold pB;rw[Uq,UB,P];have:HT.sIx 20 0 (ax 16)=16:=by decide
  ext
 have A:∀x∈pB xs (ax 16) (ax (16+x0/60 % 5)),0<=x:=λx h=>H x (Xk (WA h));have I:ur (.list (xs.map .int)) (ax 16) (ax (16+x0/60 % 5))=ax (.ow ((pB xs (ax 16) (ax (16+x0/60 % 5))).map .int)):=by show ax (RV.ow (iX _ _ _))=_;unfold iX pB;rw[Tv,YV,X4]
 generalize pB xs (ax 16) (ax (16+x0/60 % 5))=ct at N A I;obtain⟨rv,e,b,hb,rfl⟩:=ko (ds:=[.list (xs.map .int)]) (ρ:=[-(.list (xs.map .int)),CL,CL,CL,CL,CL,CL,CL,CL]) (n:=9) (g:=cN) (T:=λv=>∃b,VB b/\v=.fz (bD b)) rfl (by
  unfold cN;fail "go"
  with_reducible apply fW (λi ρ=>∃(u:ck (ck Mn)) (B:cv PV),ρ=[-(.list (xs.map .int)),-(.int n),-(.int p),ax (.ow (u.map qK)),B,CL,CL,CL,CL]/\u.length=i/\VL n p u)
  .fail "ev"
  .exact⟨[],CL,rfl,rfl,λi l h=>by simp at h⟩
  .rintro i d ρ hi ⟨u,B,rfl,hls,hv⟩
   obtain⟨k,hk,rfl⟩:=fk hi;obtain⟨rfl,Z⟩:=js hk;obtain⟨R,c1,c2,c3⟩:=dR (gt:=gN 0) (ft:=aU) (fe:=aK cS 3 {ah aG (ac 1) (ah bq (ah bq (~~~1) (ah fE (~~~5) (ac 2))) (ac 0)),ac 2,ac 3}) (ds:=cG (Uo n.toNat)) (ρ:=[CL,-(.list (xs.map .int)),-(nd k),-(.int p)])
    (λρ=>∃o,ρ=[o,-(.list (xs.map .int)),-(nd k),-(.int p)]) (λ_ x=>∃m,x=mD m/\VM k p m) ⟨CL,rfl⟩ (by rw[bS,Ul];ext) (by rintro j d hj ρ ⟨o,rfl⟩;obtain⟨y,Y,rfl⟩:=fk hj;obtain⟨rfl,X⟩:=js Y;have m8:fE (.int 5) (nd k)=-(.int (5*(k:Int))):=gY ⟨by decide,by decide⟩;have e1:=y9 (xs:=xs) (i:=1+5*(k:Int)+(y:Int)) (by ext) (by ext);obtain⟨m,hm,em⟩:=qY _ k p (H _ (Vz (show(1+5*(k:Int)+(y:Int)).toNat<xs.length by ext))) (by ext) U.1;exact⟨_,_,lY rfl rfl (by fail "ev") rfl rfl,⟨_,rfl⟩,m,rfl,hm⟩)
   obtain⟨S,rfl,L⟩:=me (f:=mD) (Q:=λ_ m=>VM k p m) R 0 (by simpa using c3);rw[Tv,bS,Ul]at c2;have z:(u.map qK).length<1000000:=by rw[Tv];ext
   refine⟨_,rfl,gJ (pv:=.fz .none) (iP rfl (bC (ad (bg (by fail "ev") rfl c1) ai) rfl rfl) rfl rfl z rfl) ⟨u++[S],_,by rw[UY];rfl,by rw[T4,hls];rfl,hv.snoc (by ext) (by rw[hls];exact HA λi m h=>L i m h)⟩⟩
  .rintro ρ ⟨u,B,rfl,hls,hv⟩
   rw[bS,Ul]at hls;cases u with
   |nil=>rw[Vu]at hls;ext
   |cons t r=>
    have M:=(hv 0 t rfl).1;refine aM (bg (by fail "ev") rfl (vi (r:=r) (by ext) w.2 M)) rfl (by fail "nm") ?_;fail "go"
    with_reducible apply fW (λi ρ=>∃(cs:ck (ck Nat×Nat)) (E C:cv PV),ρ=[-(.list (xs.map .int)),-(.int n),-(.int p),-(.list ((t::r).map qK)),B,ax (.ow (cG (ia n t))),ax (.ow (cs.map WD)),E,C]/\cs.length<=i/\(∀c∈cs,VC t c)/\cs.Pairwise λa c=>a.1≠c.1)
    .fail "ev"
    .exact⟨[],CL,CL,rfl,TQ _,λc h=>(by cases h),Xi⟩
    .rintro i d ρ hi ⟨cs,E,C,rfl,hcs,hvc,hcu⟩
     rw[TU]at hi;cases q:ct[i]? with
     |none=>rw[q]at hi;cases hi
     |some x=>rw[q]at hi;cases hi;have F:0<=x:=A x (Uk q);have hil:=(TN.mp q).1;refine⟨_,rfl,aM (bC (ad (bg rfl rfl (xW (x:=x) (vn w.2) (r8 w.2))) ai) rfl rfl) rfl (by fail "nm") ?_⟩;refine pp (s:=(ia n t).filter (sX x)) (cs:=cs) (x:=x) rfl rfl rfl F (by ext) ⟨cs,_,_,rfl,by ext,hvc,hcu⟩ λl O h2 J=>⟨cs++[((ia n t).filter (sX x),l)],_,_,rfl,by rw[T4,US];ext,sU hvc (Cp h2 O),uo hcu J⟩
    .rintro ρ ⟨cs,E,C,rfl,hcs,hvc,hcu⟩
     rw[Tv]at hcs;fail "go";refine⟨⟨n,t::r,cs,1+x0/15 % 4⟩,⟨w.1,w.2,by show 1<=r.length+1;ext,by show(t::r).length<=3;ext,?_,by show cs.length<=4;ext,hvc,hcu,by show 1<=1+x0/15 % 4;ext,by show 1+x0/15 % 4<=4;ext⟩,rfl⟩;have:(((t::r).length:Nat):Int)=p:=by ext
     show VL n (((t::r).length:Nat):Int) (t::r);rw[this];exact hv)
 exact⟨b,hb,e⟩
theorem Hn{a b:Int}(r:Bool):aG (.list [.int a,.int b]) (.int (if r then 1 else 0))=-(.int (if r=Ld then b else a)):=by
 cases r with
 |true=>exact wf
 |false=>exact nr
def Dg(l:ck Mn):Prop:=∀m∈l,m.isL=Ld
theorem EB{l:ck Mn}(h:Dg l){k:Nat}(a:k<l.length):vX l k=Ld:=by unfold vX;rw[TF a];exact h _ (Vz a)
theorem Dy{n:Int}{d:ck Mn}(h:(d.length:Int)=n)(l:3<=n)(e:n<=5)(ha:Dg d){j:Int}(m:0<=j)(i:j<4):∃s:ck Nat,aG (.list [.tuple [.int 0,.int 1],.tuple [.int 1,.int 2],.tuple [.int 0,.int 1,.int 2],.tuple [.int 0,.int (n - 1)]]) (.int j)=-(.tuple (cG s))/\
  2<=s.length/\s.Pairwise (·<·)/\∀k∈s,vX d k=Ld:=by
 have ok:∀k:Nat,(k:Int)<n->vX d k=Ld:=λk a=>EB ha (by ext);have f:j=0\/j=1\/j=2\/j=3:=by ext
 rcases f with rfl|rfl|rfl|rfl
 .refine⟨[0,1],jZ (by decide) rfl,by decide,by decide,λk a=>ok k ?_⟩;simp only[TL,TY,or_false]at a;ext
 .refine⟨[1,2],jZ (by decide) rfl,by decide,by decide,λk a=>ok k ?_⟩;simp only[TL,TY,or_false]at a;ext
 .refine⟨[0,1,2],jZ (by decide) rfl,by decide,by decide,λk a=>ok k ?_⟩;simp only[TL,TY,or_false]at a;ext
 .refine⟨[0,(n - 1).toNat],jZ (by decide) ?_,by show 2<=2;decide,?_,λk a=>ok k ?_⟩
  .show ax (lD.tuple [.int 0,.int (n - 1)])=ax (.tuple [.int ((0:Nat):Int),.int ((n - 1).toNat:Int)]);rw[show((n - 1).toNat:Int)=n - 1 by ext];rfl
  .refine Vj.mpr ⟨λb g=>?_,aaW _ _⟩;rw[TX.mp g];ext
  .simp only[TL,TY,or_false]at a;ext
theorem wM(rs:ck Int)(k:∀r∈rs,0<=r)(u:rs.length<=5):∃ms:ck Mn,g9 (cf (gN 0) aU (bM {pC (.str "letter"),aK bp 1 {ah bT (ac 0) (~~~8)}}) (rs.map .int) [CL] [])=.ok (ms.map mD)/\ms.length=rs.length/\Dg ms/\∀(L nL:Int),∀m∈ms,VM L nL m:=by
 obtain⟨h,n,g,l⟩:=dR (gt:=gN 0) (ft:=aU) (fe:=bM {pC (.str "letter"),aK bp 1 {ah bT (ac 0) (~~~8)}}) (ds:=rs.map .int) (ρ:=[CL])
  (λρ=>∃o,ρ=[o]) (λ_ x=>∃m,x=mD m/\∃c,c<26/\m=Mn.UP c) ⟨CL,rfl⟩ (by rw[Tv];ext) (by
   rintro j d b ρ ⟨o,rfl⟩;rw[TU]at b;cases q:rs[j]? with
   |none=>rw[q]at b;cases b
   |some r=>rw[q]at b;cases b;have t:=k r (Uk q);have p:bT (.int r) (.int 8)=-(.int (r/8)):=cI ⟨by decide,by decide⟩;obtain⟨c,e,v⟩:=kE (r/8) (by ext);exact⟨_,_,lY rfl rfl (by fail "ev") rfl rfl,⟨_,rfl⟩,.UP c,rfl,c,e,rfl⟩)
 obtain⟨ms,rfl,a⟩:=me (f:=mD) (Q:=λ_ m=>∃c,c<26/\m=Mn.UP c) h 0 (by simpa using l);refine⟨ms,n,by rw[Tv,Tv]at g;exact g,λm hm=>?_,λL nL m hm=>?_⟩
 .obtain⟨i,hi⟩:=Ve.mp hm;obtain⟨c,_,rfl⟩:=a i m hi;rfl
 .obtain⟨i,hi⟩:=Ve.mp hm;obtain⟨c,e,rfl⟩:=a i m hi;exact e
theorem IG(ns:ck Int)(C:ns.length<=63)(a:Int)(ha:0<=a)(ha2:a<=100):∃b,VB b/\jO [.list (ns.map .int),.int a]=.ok (.fz (bD b)):=by
 obtain⟨c,hc⟩:=jC ns a ha C;obtain⟨xs,x1,x2,x3⟩:=zU c;obtain⟨b0,hb0,eb0⟩:=vq xs x1 x2;obtain⟨w,hw,ew⟩:=jL c a ha (by ext);have p18:=C2;have m1:bT (.int w) (.int 60)=-(.int (w/60)):=cI ⟨by decide,by decide⟩;have m2:br (.int (w/60)) (.int 4)=-(.int (w/60 % 4)):=cC (by decide);obtain⟨p,agw⟩:∃b:Bool,b=decide (w/60 % 4=1):=⟨_,rfl⟩;have m3:bV (.int (w/60 % 4)) (.int 1)=-(.bool p):=by rw[agw];exact gC _ _
 have m4:br (.int w) (.int 5)=-(.int (w % 5)):=cC (by decide);have m5:br (.int w) (.int 3)=-(.int (w % 3)):=cC (by decide);have i1:xt [.bool p]=-(.int (if p then 1 else 0)):=rfl;obtain⟨n,hn⟩:∃n:Int,n=if p=Ld then 3+w % 3 else 1+w % 5:=⟨_,rfl⟩
 have i2:aG (.list [.int (1+w % 5),.int (3+w % 3)]) (.int (if p then 1 else 0))=-(.int n):=by rw[hn];exact Hn p
 have K:1<=n/\n<=5:=by rw[hn];split<;>ext
 have n3:p=Ld->3<=n:=λz=>by rw[hn,ak z];ext
 have m6:bT (.int w) (.int 5)=-(.int (w/5)):=cI ⟨by decide,by decide⟩;have m7:br (.int (w/5)) (.int 3)=-(.int (w/5 % 3)):=cC (by decide);obtain⟨u,hnL⟩:∃n,n=1+w/5 % 3:=⟨_,rfl⟩;have a2:bq (.int 1) (.int (w/5 % 3))=-(.int u):=by rw[hnL];rfl
 have l1:1<=u/\u<=3:=by ext
 have rn:d8 [.int u]=ax (cG (Uo u.toNat)):=ka (by ext) (by ext);have rk:d8 [.int n]=ax (cG (Uo n.toNat)):=ka (by ext) (by ext);have m8:bT (.int w) (.int 15)=-(.int (w/15)):=cI ⟨by decide,by decide⟩;have m9:br (.int (w/15)) (.int 4)=-(.int (w/15 % 4)):=cC (by decide);have m10:bT (.int w) (.int 240)=-(.int (w/240)):=cI ⟨by decide,by decide⟩;have m11:br (.int (w/240)) (.int 4)=-(.int (w/240 % 4)):=cC (by decide);have m12:bT (.int w) (.int 960)=-(.int (w/960)):=cI ⟨by decide,by decide⟩;obtain⟨c16,apx⟩:=jC ns (a+16) (by ext) C;obtain⟨B,anp,ans⟩:=jL c16 16 (by decide) (by decide);have m13:br (.int B) (.int 5)=-(.int (B % 5)):=cC (by decide);obtain⟨L,O⟩:∃n:Int,n=if p=Ld then 1+w/240 % 4 else B % 5:=⟨_,rfl⟩
 have i3:aG (.list [.int (B % 5),.int (1+w/240 % 4)]) (.int (if p then 1 else 0))=-(.int L):=by rw[O];exact Hn p
 have c4:0<=L/\L<=4:=by rw[O];split<;>ext
 have rc:d8 [.int L]=ax (cG (Uo L.toNat)):=ka (by ext) (by ext);obtain⟨rv,e,b,hb,rfl⟩:=ko (ds:=[.list (ns.map .int),.int a]) (ρ:=[-(.list (ns.map .int)),-(.int a),CL,CL,CL,CL,CL,CL,CL,CL,CL,CL,CL]) (n:=13) (g:=gB) (T:=λv=>∃b,VB b/\v=.fz (bD b)) rfl (by
  unfold gB;fail "go"
  .intro _;fail "go";exact⟨b0,hb0,rfl⟩
  intro _;fail "go"
  with_reducible apply fW (λi ρ=>∃(A:ck (ck Mn)) (U S:cv PV),ρ=[-(.list (ns.map .int)),-(.int a),-(.int w),-(.bool p),-(.int n),ax (.ow (A.map qK)),U,S,CL,CL,CL,CL,CL]/\A.length=i/\VL n u A/\(p=Ld->∀l,A.head? =ax l->Dg l))
  .fail "ev"
  .exact⟨[],CL,CL,rfl,rfl,λi l h=>by simp at h,λ_ l h=>by simp at h⟩
  .rintro i d ρ hi ⟨A,U,S,rfl,hls,hv,hh⟩
   obtain⟨k,hk,rfl⟩:=fk hi;obtain⟨rfl,hkl⟩:=js hk;have mk:fE (.int 5) (nd k)=-(.int (5*(k:Int))):=gY ⟨by decide,by decide⟩;obtain⟨ys,c1,c2,c3⟩:=dR (gt:=gN 0) (ft:=aU) (fe:=aK bP 2 {aK bO 2 {ac 1,ah bq (ah bq (ah bq (ac 2) (~~~1)) (ah fE (~~~5) (ac 3))) (ac 0)},ah bq (ah fE (~~~5) (ac 3)) (ac 0)}) (ds:=cG (Uo n.toNat)) (ρ:=[CL,-(.list (ns.map .int)),-(.int a),-(nd k)])
    (λρ=>∃o,ρ=[o,-(.list (ns.map .int)),-(.int a),-(nd k)]) (λ_ x=>∃r:Int,x=.int r/\0<=r) ⟨CL,rfl⟩ (by rw[bS,Ul];ext) (by rintro j d I ρ ⟨o,rfl⟩;obtain⟨y,hy,rfl⟩:=fk I;obtain⟨rfl,hyl⟩:=js hy;obtain⟨cc,hcc⟩:=jC ns (a+1+5*(k:Int)+(y:Int)) (by ext) C;obtain⟨ww,Y,eww⟩:=jL cc (5*(k:Int)+(y:Int)) (by ext) (by ext);exact⟨_,_,lY rfl rfl (by fail "ev") rfl rfl,⟨_,rfl⟩,ww,rfl,Y⟩)
   obtain⟨X,rfl,hrs⟩:=me (f:=lD.int) (Q:=λ_ r=>(0:Int)<=r) ys 0 (by simpa using c3);have N:∀r∈X,0<=r:=λr hr=>by obtain⟨i,hi⟩:=Ve.mp hr;exact hrs i r hi
   rw[Tv,bS,Ul]at c2;obtain⟨zs,d1,d2,d3⟩:=dR (gt:=gN 0) (ft:=aU) (fe:=aK dI 3 {ac 0,ac 1,ah bq (~~~1) (ah br (ah bT (ac 2) (~~~5)) (~~~3))}) (ds:=X.map .int) (ρ:=[CL,-(nd k),-(.int w)])
    (λρ=>∃o,ρ=[o,-(nd k),-(.int w)]) (λ_ x=>∃m,x=mD m/\VM k u m) ⟨CL,rfl⟩ (by rw[Tv];ext) (by
     rintro j d I ρ ⟨o,rfl⟩;rw[TU]at I;cases q:X[j]? with
     |none=>rw[q]at I;cases I
     |some r=>rw[q]at I;cases I;obtain⟨m,hm,em⟩:=xE r k u (N r (Uk q)) (by ext) l1.1;exact⟨_,_,lY rfl rfl (by fail "ev") rfl rfl,⟨_,rfl⟩,m,rfl,hm⟩)
   obtain⟨ms,rfl,hms⟩:=me (f:=mD) (Q:=λ_ m=>VM k u m) zs 0 (by simpa using d3);rw[Tv,Tv]at d2;obtain⟨qs,q1,q2,q3,q4⟩:=wM X N (by ext);have P:(A.map qK).length<1000000:=by rw[Tv];ext
   have Z:VL n u (A++[ms]):=hv.snoc (by ext) (by rw[hls];exact HA λi m h=>hms i m h);refine⟨_,rfl,aM (bg (by fail "ev") rfl c1) rfl (by fail "nm") (lV (pv:=.fz .none) (iP rfl (bC (ad (bg rfl rfl d1) ai) rfl rfl) rfl rfl P rfl) ?_)⟩;refine eh (b:=p&&decide ((k:Int)=0)) (by fail "ev") (λq=>?_) (λq=>cV ⟨A++[ms],_,_,by rw[UY];rfl,by rw[T4,hls];rfl,Z,λz l hl=>?_⟩)
   .have q':=(Tu _ _▸q:_/\_)
    have hk0:=a6 q'.2;refine fC (lM (ad (bC (ad (bg rfl rfl q1) ai) rfl rfl) ai) rfl (by show 1<=1000;decide)) rfl ⟨[qs],_,_,rfl,by show 1=k+1;ext,?_,λ_ l hl=>by cases hl;exact q3⟩;intro i l hi;have:i=0:=by have:=(TN.mp hi).1;rw[US]at this;ext
    subst this;cases hi;exact⟨by ext,λm hm=>q4 _ _ m hm⟩
   .cases A with
    |cons t r=>exact hh z l (by simpa using hl)
    |nil=>rw[Vu]at hls;rw[z,a4 (by ext)]at q;cases q
  .rintro ρ ⟨A,U,S,rfl,hls,hv,hh⟩
   rw[bS,Ul]at hls;cases A with
   |nil=>rw[Vu]at hls;ext
   |cons t r=>
    have R:=(hv 0 t rfl).1;have abQ:p=Ld->Dg t:=λz=>hh z t rfl;refine aM (bg (by fail "ev") rfl (vi (r:=r) (by ext) K.2 R)) rfl (by fail "nm") ?_;fail "go"
    with_reducible apply fW (λi ρ=>∃(cs:ck (ck Nat×Nat)) (G F E:cv PV),ρ=[-(.list (ns.map .int)),-(.int a),-(.int w),-(.bool p),-(.int n),-(.list ((t::r).map qK)),U,S,ax (.ow (cG (ia n t))),ax (.ow (cs.map WD)),G,F,E]/\cs.length<=i/\(∀c∈cs,VC t c)/\cs.Pairwise λa c=>a.1≠c.1)
    .fail "ev"
    .exact⟨[],CL,CL,CL,rfl,TQ _,λc h=>(by cases h),Xi⟩
    .rintro i d ρ hi ⟨cs,G,F,E,rfl,hcs,hvc,hcu⟩
     obtain⟨k,hk,rfl⟩:=fk hi;obtain⟨rfl,hkl⟩:=js hk;obtain⟨cc,hcc⟩:=jC ns (a+17+(k:Int)) (by ext) C;obtain⟨x,M,ex⟩:=jL cc (17+(k:Int)) (by ext) (by ext);refine⟨_,rfl,aM (by fail "ev") rfl (by fail "nm") (aM (bC (ad (bg rfl rfl (xW (x:=x) (vn K.2) (r8 K.2))) ai) rfl rfl) rfl (by fail "nm") ?_)⟩;refine aP (b:=p) (by fail "ev") (λq=>?_) (λq=>ay ?_)
     .have b4:0<=((k:Int)+w/960) % 4/\((k:Int)+w/960) % 4<4:=⟨Vi _ (by decide),VA _ (by decide)⟩;have m14:br (.int ((k:Int)+w/960)) (.int 4)=-(.int (((k:Int)+w/960) % 4)):=cC (by decide);obtain⟨s,s1,s2,s3,s4⟩:=Dy R (n3 q) K.2 (abQ q) b4.1 b4.2;refine aM (by fail "ev") rfl (by fail "nm") ?_;exact pp (s:=s) (cs:=cs) (x:=x) rfl rfl rfl M (by ext) ⟨cs,_,_,_,rfl,by ext,hvc,hcu⟩ λl J h2 H=>⟨cs++[(s,l)],_,_,_,rfl,by rw[T4,US];ext,sU hvc ⟨s2,s3,s4,J⟩,uo hcu H⟩
     .exact pp (s:=(ia n t).filter (sX x)) (cs:=cs) (x:=x) rfl rfl rfl M (by ext) ⟨cs,_,_,_,rfl,by ext,hvc,hcu⟩ λl J h2 H=>⟨cs++[((ia n t).filter (sX x),l)],_,_,_,rfl,by rw[T4,US];ext,sU hvc (Cp h2 J),uo hcu H⟩
    .rintro ρ ⟨cs,G,F,E,rfl,hcs,hvc,hcu⟩
     rw[bS,Ul]at hcs;fail "go";refine⟨⟨n,t::r,cs,1+w/15 % 4⟩,⟨K.1,K.2,by show 1<=r.length+1;ext,by show(t::r).length<=3;ext,?_,by show cs.length<=4;ext,hvc,hcu,by show 1<=1+w/15 % 4;ext,by show 1+w/15 % 4<=4;ext⟩,rfl⟩;have:(((t::r).length:Nat):Int)=u:=by ext
     show VL n (((t::r).length:Nat):Int) (t::r);rw[this];exact hv)
 exact⟨b,hb,e⟩
def tx(l:ck Nat):Str:=⟨l.toArray⟩
theorem lA(a b:ck Nat):tx a++tx b=tx (a++b):=by show(⟨a.toArray++b.toArray⟩:Str)=⟨(a++b).toArray⟩;rw[List.append_toArray]
theorem dU(l:ck Nat):(tx l).length=l.length:=by rfl
theorem i9{l:ck Nat}(h:∀c∈l,c<1114112):lD.strOk (tx l)=Ld:=by show l.toArray.all (λc=>decide (c<0x110000))=Ld;rw[<-ac7,Vy];exact λc a=>a4 (h c a)
theorem C6{a b:ck Nat}(h:tx a=tx b):a=b:=ey (λz:Str=>z.cps.toList) h
theorem pX(z:Str):tx z.cps.toList=z:=rfl
theorem mK{l:ck Nat}(h:l.length<=1000):nI [.str (tx l)]=-(.int (l.length:Int)):=by show(if(tx l).length<=1000000 then ax (RV.fz (.int ((tx l).length:Int)))else CL)=_;rw[dU,ak (by ext)]
theorem kA{a b:ck Nat}(h:a.length+b.length<=1000):eB (.str (tx a)) (.str (tx b))=-(.str (tx (a++b))):=by show(if(tx a).length+(tx b).length<=1000000 then ax (RV.fz (.str (tx a++tx b)))else CL)=_;rw[dU,dU,ak (by ext),lA]
def kD(ks:ck Int):D:=.tuple (ks.map .int)
abbrev ap(l:ck Nat):D:=.str (tx l)
theorem sA{α:Type}{f g:α->D}{gt:FG}{fe:FE}{a:aD}(I:aD->Prop)(xs:ck α)(r:xs.length<=1000000)(p:I a)(j:∀x∈xs,∀ρ,I ρ->∃ρ',ju gt aU fe (f x) ρ=.ok (ax (g x),ρ')/\I ρ'):g9 (cf gt aU fe (xs.map f) a [])=.ok (xs.map g):=by
 obtain⟨h,o,n,m⟩:=dR (gt:=gt) (ft:=aU) (fe:=fe) (ds:=xs.map f) (ρ:=a) I (λi y=>∃x,xs[i]?=ax x/\y=g x) p (by simp_all) (by
  intro i d hi ρ k;rw[TU]at hi;cases q:xs[i]? with
  |none=>simp_all
  |some x=>
   obtain rfl:d=f x:=by simp_all
   obtain⟨ρ',e,b⟩:=j x (Uk q) ρ k;exact⟨_,_,e,b,x,rfl,rfl⟩)
 rw[o];congr 1;refine XU λi=>?_;rw[TU];cases q:h[i]? with
 |none=>
  have:xs.length<=i:=by have:=WE.mp q;rw[n,Tv]at this;exact this
  rw[Wr this];rfl
 |some y=>obtain⟨x,l,rfl⟩:=m i y q;rw[l];rfl
theorem ip{α:Type}{f g:α->D}{fe:FE}{cp:aD}(xs:ck α)(b:xs.length<=1000000)(e:bX cp=cp)(d:∀x∈xs,fe (-(f x)::cp)=.ok (.fz (g x),-(f x)::cp)):g9 (cf (gN 0) aU fe (xs.map f) (CL::cp) [])=.ok (xs.map g):=by
 refine sA (λρ=>∃o,ρ=o::cp) xs b ⟨CL,rfl⟩ ?_;rintro x a ρ ⟨o,rfl⟩;have h:bX (ax (PV.fz (f x))::cp)=-(f x)::cp:=by show rq _::bX cp=_;rw[e];rfl
 exact⟨_,lY rfl rfl (d x a) rfl h,_,rfl⟩
theorem uI(p:α->Bool):∀l:ck α,on (l.map λc=>lD.bool (p c))=ax (l.map p)
 |[]=>rfl
 |c::r=>by show(on (r.map λc=>lD.bool (p c))).map (p c::·)=_;rw[uI p r];rfl
theorem j4(p:α->Bool)(l:ck α):mV [.list (l.map λc=>lD.bool (p c))]=-(.bool (l.all p)):=by show(on _).map (λbs=>RV.fz (.bool (bs.all id)))=_;rw[uI];simp_all
theorem pA:∀ns:ck Int,oy (ns.map lD.int)=ax ns
 |[]=>rfl
 |n::r=>by show(oy (r.map lD.int)).map (n::·)=_;rw[pA r];rfl
theorem uU{fe:FE}{ρ ρ1:aD}{pv:PV}{z:Str}(h:fe ρ=.ok (pv,ρ1))(a:rj pv=ax z):km fe ρ=.ok (lK z,ρ1):=by unfold km;rw[h,fo];dsimp only;rw[a];rfl
def CW(c:Nat):Bool:=decide (97<=c)&&decide (c<=122)
theorem Qy(c:Nat):rg (.str "a") (.str (tx [c]))=-(.bool (decide (97<=c))):=by show ax (RV.fz (.bool (!decide ([c]<("a":Str).cps.toList))))=_;rw[show("a":Str).cps.toList=[97] by left];congr 3;rw[<-decide_not];apply decide_eq_decide.mpr;rw[W6];simp
theorem Rg(c:Nat):rg (.str (tx [c])) (.str "z")=-(.bool (decide (c<=122))):=by show ax (RV.fz (.bool (!decide (("z":Str).cps.toList<[c]))))=_;rw[show("z":Str).cps.toList=[122] by left];congr 3;rw[<-decide_not];apply decide_eq_decide.mpr;rw[W6];simp
def nq(ks:ck Int):Bool:=(ks.zip (ks.drop 1)).all λp=>decide (p.1<p.2)
theorem uL:∀a b:ck Int,jW (a.map .int) (b.map .int)=(a.zip b).map λp=>lD.tuple [.int p.1,.int p.2]
 |[],b=>by cases b<;>rfl
 |x::r,[]=>rfl
 |x::r,y::t=>by show lD.tuple [.int x,.int y]::jW (r.map .int) (t.map .int)=_;rw[uL r t];rfl
theorem AL{ks:ck Int}(h:1<=ks.length):ur (kD ks) (ax 1) CL=-(kD (ks.drop 1)):=by
 have a:HT.sIx ks.length 0 (ax 1)=1:=by have:=HT.sIx_nat ks.length 0 1;rw[show((1:Nat):Int)=1 from rfl]at this;ext
 show(if dL (ks.map lD.int).length (ax 1) CL=Ld then CL else ax (RV.fz (.tuple (iX (ks.map lD.int) (ax 1) CL))))=_;have w:dL (ks.map lD.int).length (ax 1) CL=Tx:=by unfold dL;rw[Tv,a];exact a5 λz=>by cases z.1
 rw[w,ar Tz];unfold iX kD;rw[Tv,a,HT.sIx_none,<-X4,Va (by rw[Tv,UB];ext)]
theorem Py(ks:ck Int):bF [kD ks]=-(.int (ks.length:Int)):=by show ax (RV.fz (.int ((ks.map lD.int).length:Int)))=_;rw[Tv]
theorem uj:∀(l:ck D) (k i:Nat) (d:D),(aZ k l)[i]?=ax d->∃x,l[i]?=ax x/\d=.tuple [nd (k+i),x]
 |[],_,_,_,h=>by cases h
 |x::r,k,0,d,h=>by cases h;exact⟨x,rfl,rfl⟩
 |x::r,k,i+1,d,h=>by obtain⟨y,b,a⟩:=uj r (k+1) i d h;exact⟨y,b,by rw[a,show k+1+i=k+(i+1) by ext]⟩
theorem ib{N:Nat}{g:FS}{ds:ck D}{x:Xc}{ρ:aD}(a:ds.map (λd=>-(d))++T1 (N - ds.length) CL=ρ)(h:g ρ=.er x):bN N g ds=.er x:=by unfold bN;rw[a,h];rfl
theorem j6{f g:FS}{ρ:aD}{x:Xc}(h:f ρ=.er x):aj f g ρ=.er x:=by unfold aj;rw[h];rfl
theorem kX{c f:Str}{fe:FE}{ρ ρ1:aD}{pv:PV}{d:D}(b:fe ρ=.ok (pv,ρ1))(hd:jb ρ1 pv=ax d)(a:L9.nw d=Ld):L9.fV c f fe ρ=.er ⟨c,[(f,d)]⟩:=by unfold L9.fV;rw[b,fo];dsimp only;rw[hd];show(if L9.nw d=Ld then _ else _)=_;rw[ak a]
theorem p7{gt:FG}{b:FS}{x:Xc}(I:Nat->aD->Prop):∀(k s:Nat) (ds:ck D) (ρ:aD),k<ds.length->I s ρ->(∀i d ρ,i<k->ds[i]?=ax d->I (s+i) ρ->∃ρ1 ρ2,gt (.fz d) ρ=.ok ρ1/\b ρ1=.ok (.nx ρ2)/\I (s+i+1) ρ2)->
  (∀d ρ,ds[k]?=ax d->I (s+k) ρ->∃ρ1,gt (.fz d) ρ=.ok ρ1/\b ρ1=.er x)->ot gt b ds ρ=.er x
 |_,_,[],_,hk,_,_,_=>a7 hk (Xt _)
 |0,s,d::r,ρ,_,h0,_,hx=>by obtain⟨ρ1,h,g⟩:=hx d ρ rfl h0;show(gt (.fz d) ρ).bind _=_;rw[h,fo,g,Res.aea]
 |k+1,s,d::r,ρ,hk,h0,hs,hx=>by obtain⟨ρ1,ρ2,h,g,l⟩:=hs 0 d ρ (by ext) rfl h0;show(gt (.fz d) ρ).bind _=_;rw[h,fo,g,fo];refine p7 I k (s+1) r ρ2 (by rw[TJ]at hk;ext) l (λi j a hi e f=>?_) λj a e f=>hx j a e (by rw[show s+(k+1)=s+1+k by ext];exact f);have:=hs (i+1) j a (by ext) e (by rw[show s+(i+1)=s+1+i by ext];exact f);rw[show s+(i+1)+1=s+1+i+1 by ext]at this;exact this
theorem tq(a b:ck Nat):lD.eqv (.str (tx a)) (.str (tx b))=decide (a=b):=by show decide (tx a=tx b)=_;exact decide_eq_decide.mpr ⟨C6,λh=>by rw[h]⟩
theorem sL:∀{L:ck (ck Nat)},(∀l∈L,∀c∈l,c<1114112)->lD.canLayAll0 (L.map λl=>lD.str (tx l))=Ld
 |[],_=>rfl
 |l::r,h=>by show(lD.strOk (tx l)&&lD.canLayAll0 (r.map λl=>lD.str (tx l)))=Ld;rw[i9 (h l TC),sL λm hm=>h m (TH _ hm)];rfl
theorem tj(w:ck Nat):∀L:ck (ck Nat),((L.map λl=>lD.str (tx l)).any λe=>lD.eqv e (.str (tx w)))=decide (w∈L)
 |[]=>rfl
 |l::r=>by
  rw[Ub,Xb,tj w r,tq];by_cases h:l=w
  .subst h;simp
  .have:¬w=l:=λz=>h z.symm;simp[h,this]
theorem Ma{w:ck Nat}{L:ck (ck Nat)}(a:∀c∈w,c<1114112)(b:∀l∈L,∀c∈l,c<1114112):iY (.str (tx w)) (.list (L.map λl=>lD.str (tx l)))=-(.bool (decide (w∈L))):=by show(if((lD.strOk (tx w)&&decide (0<=64))&&lD.canLayAll0 (L.map λl=>lD.str (tx l)))=Ld then ax (RV.fz (.bool ((L.map λl=>lD.str (tx l)).any λe=>lD.eqv e (.str (tx w)))))else CL)=_;rw[i9 a,sL b,tj];rfl
theorem DP:∀(l acc:ck Int),(l.foldl Uw acc).length<=acc.length+l.length
 |[],acc=>TQ _
 |x::r,acc=>by
  rw[WO];have h:=DP r (Uw acc x);have a:(Uw acc x).length<=acc.length+1:=by
   unfold Uw;split
   .omega
   .rw[T4,US];exact TQ _
  rw[TJ];ext
theorem vT:∀(l acc:ck Int),(l.foldl Uw acc).length=acc.length+l.length->l.Nodup/\∀x∈l,x∉acc
 |[],acc,_=>⟨List.nodup_nil,λx h=>by cases h⟩
 |x::r,acc,h=>by
  rw[WO]at h;by_cases q:acc.any (·==x)=Ld
  .have e:Uw acc x=acc:=by unfold Uw;rw[ak q]
   rw[e,TJ]at h;have:=DP r acc;ext
  .have e:Uw acc x=acc++[x]:=by unfold Uw;rw[ar q]
   rw[e,TJ]at h;obtain⟨f,b⟩:=vT r (acc++[x]) (by rw[T4,US];ext);have d:x∉acc:=λz=>q (adG.mpr ⟨x,z,ez x⟩);refine⟨Wk.mpr ⟨λz=>b x z (Ud _ TC),f⟩,λy a=>?_⟩;rcases TL.mp a with rfl|a
   .exact d
   .exact λz=>b y a (VF _ z)
theorem og:∀(l acc:ck Int),l.Nodup->(∀x∈l,x∉acc)->(l.foldl Uw acc).length=acc.length+l.length
 |[],acc,_,_=>rfl
 |x::r,acc,h,hd=>by
  obtain⟨f,d⟩:=Wk.mp h;have b:=hd x TC;have e:Uw acc x=acc++[x]:=by unfold Uw;rw[ar λz=>?_];obtain⟨y,a,e⟩:=adG.mp z;rw[eq_of_beq e]at a;exact b a
  rw[WO,e,og r _ d λy a z=>?_,T4,US,TJ]
  .omega
  .rcases Uy.mp z with z|z
   .exact hd y (TH _ a) z
   .rw[TX.mp z]at a;exact f a
theorem J5(ks:ck Int):L9.zc ks<=ks.length:=by have:=DP ks [];unfold L9.zc;simpa using this
theorem yJ(ks:ck Int):L9.zc ks=ks.length↔ks.Nodup:=by
 unfold L9.zc;constructor
 .exact λh=>(vT ks [] (by simpa using h)).1
 .exact λh=>by simpa using og ks [] h λ_ _ z=>by cases z
theorem mo:∀ks:ck Int,nq ks=Ld↔ks.Pairwise (·<·)
 |[]=>by simp[nq]
 |[a]=>by simp[nq]
 |a::b::r=>by
  have i:=mo (b::r);have e:nq (a::b::r)=(decide (a<b)&&nq (b::r)):=rfl;rw[e,Tu,decide_eq_true_iff,i];constructor
  .rintro⟨g,f⟩
   refine Vj.mpr ⟨λx d=>?_,f⟩;rcases TL.mp d with rfl|d
   .exact g
   .exact Int.lt_trans g ((Vj.mp f).1 x d)
  .exact λh=>have z:=Vj.mp h;⟨z.1 b TC,z.2⟩
theorem OV{ks:ck Int}(e:ks.Pairwise (·<=·))(d:ks.Nodup):ks.Pairwise (·<·):=(e.and d).imp λ⟨a,b⟩=>by ext
theorem Hg:∀ks:ck Int,lD.canLayAll0 (ks.map lD.int)=Ld
 |[]=>rfl
 |k::r=>by show(Ld&&lD.canLayAll0 (r.map lD.int))=Ld;rw[Hg r];rfl
theorem CP:∀ks:ck Int,lD.depthAll (ks.map lD.int)=0
 |[]=>rfl
 |k::r=>by show max 0 (lD.depthAll (r.map lD.int))=0;rw[CP r];rfl
theorem GD:∀a b:ck Int,lD.eqvAll (a.map lD.int) (b.map lD.int)=decide (a=b)
 |[],[]=>rfl
 |[],_::_=>rfl
 |_::_,[]=>rfl
 |x::r,y::t=>by show(decide (x=y)&&lD.eqvAll (r.map lD.int) (t.map lD.int))=_;rw[GD r t];by_cases h:x=y<;>by_cases g:r=t<;>simp[h,g]
theorem Cb(a b:ck Int):iG (.list (a.map .int)) (.list (b.map .int))=-(.bool (!decide (a=b))):=by
 unfold iG;have d:jP (.list (a.map lD.int))=Ld:=by show(lD.canLayAll0 (a.map lD.int)&&decide (lD.depthAll (a.map lD.int)+1<=64))=Ld;rw[Hg,CP];rfl
 rw[d,show lD.canLay0 (.list (b.map lD.int))=Ld from Hg b,U7,ak rfl,show lD.eqv (.list (a.map lD.int)) (.list (b.map lD.int))=_ from GD a b]
inductive Mg where
 |UP (s:ck Nat)
 |Vh (n:Int)
 |XF (s:ck Nat) (n:Int)
 |once (n:Int)
 |none
 |below
def mG:Mg->D
 |.UP s=>.tuple [.str "letter",ap s]
 |.Vh n=>.tuple [.str "layer",.int n]
 |.XF s n=>.tuple [.str "tap",ap s,.int n]
 |.once n=>.tuple [.str "once",.int n]
 |.none=>.tuple [.str "none"]
 |.below=>.tuple [.str "below"]
structure Gb where
 n:Int
 ls:ck (ck Mg)
 cs:ck (ck Int×ck Nat)
 wt:Int
def cU(l:ck Mg):D:=.tuple (l.map mG)
def cn(c:ck Int×ck Nat):D:=.tuple [kD c.1,ap c.2]
def gD(b:Gb):D:=.tuple [.int b.n,.tuple (b.ls.map cU),.tuple (b.cs.map cn),.int b.wt]
def HH(s:ck Nat):Prop:=s.length<=10/\∀c∈s,c<1114112
def MF:Mg->Prop
 |.UP s=>HH s
 |.XF s _=>HH s
 |_=>True
structure GF(k:Nat)(b:Gb):Prop where
 ll:b.ls.length<=3+k
 lm:∀l∈b.ls,l.length<=5+k/\∀m∈l,MF m
 cl:b.cs.length<=5+k
 cm:∀c∈b.cs,c.1.length<=5+min k 50/\HH c.2
def cK(s:ck Nat):Bool:=decide ((s.length:Int)=1)&&s.all CW
theorem re{c:Nat}{fa:FE}{ρ:aD}(h:fa ρ=.ok (.fz (ap [c]),ρ)):cx rg rg (pC (.str "a")) fa (pC (.str "z")) ρ=.ok (.fz (.bool ([c].all CW)),ρ):=by
 have e:[c].all CW=(decide (97<=c)&&decide (c<=122)):=by show(CW c&&Ld)=_;rw[YW];rfl
 rw[e];exact gZ (dy:=ap [c]) av h av rfl rfl rfl (Qy c) λ_=>Rg c
theorem tw{s:ck Nat}(h:((s.length:Nat):Int)=1):∃c,s=[c]:=by
 match s,h with
 |[c],_=>exact⟨c,rfl⟩
 |[],h=>cases h
 |_::_::_,h=>rw[TJ,TJ]at h;ext
theorem gS{s:ck Nat}(h:s.length<=1000):b9 [ap s]=.ok (.fz (.bool (cK s))):=by have d:=mK h;refine aY (ρ:=[-(ap s)]) rfl ?_;unfold fH;refine aR (mz (a:=decide ((s.length:Int)=1)) (b:=s.all CW) (aw (aQ (dx:=.int (s.length:Int)) (dy:=.int 1) (bC (rv:=.fz (.int (s.length:Int))) (ad (af rfl) ai) rfl d) av rfl rfl (gC _ _)) rfl) λq=>?_) rfl rfl;obtain⟨c,rfl⟩:=tw (a6 q);exact re (af rfl)
theorem fK{s:ck Nat}(h:s.length<=1000):a9 [ap s]=.ok (.fz (.bool (cK s))):=by have d:=mK h;refine aY (ρ:=[-(ap s)]) rfl ?_;unfold c8;refine aR (mz (a:=decide ((s.length:Int)=1)) (b:=s.all CW) (aw (aQ (dx:=.int (s.length:Int)) (dy:=.int 1) (bC (rv:=.fz (.int (s.length:Int))) (ad (af rfl) ai) rfl d) av rfl rfl (gC _ _)) rfl) λq=>?_) rfl rfl;obtain⟨c,rfl⟩:=tw (a6 q);exact re (af rfl)
def qp:Mg->Str
 |.UP _=> "letter"
 |.Vh _=> "layer"
 |.XF _ _=> "tap"
 |.once _=> "once"
 |.none=> "none"
 |.below=> "below"
def b2:Mg->Bool
 |.UP _=>Ld
 |.XF _ _=>Ld
 |_=>Tx
def b3:Mg->Bool
 |.Vh _=>Ld
 |.XF _ _=>Ld
 |.once _=>Ld
 |_=>Tx
def bB:Mg->Bool
 |.below=>Ld
 |_=>Tx
def sG:Mg->ck Nat
 |.UP s=>s
 |.XF s _=>s
 |_=>[]
def nG:Mg->Int
 |.Vh n=>n
 |.XF _ n=>n
 |.once n=>n
 |_=>0
theorem Hb(m:Mg):aG (mG m) (.int 0)=-(.str (qp m)):=by cases m<;>exact iV
theorem RO{m:Mg}(h:b2 m=Ld):aG (mG m) (.int 1)=-(ap (sG m)):=by cases m<;>first|exact qU|cases h
theorem Rt{m:Mg}(h:b3 m=Ld):aG (mG m) (.int (-1))=-(.int (nG m)):=by cases m<;>first|rfl|cases h
theorem OL{a:Str}(ha:lD.strOk a=Ld):iG (.str a) (.str a)=-(.bool Tx):=by unfold iG;rw[show jP (.str a)=Ld by unfold jP;rw[show lD.canLay0 (.str a)=Ld from ha];rfl,show lD.canLay0 (.str a)=Ld from ha,U7,ak rfl,show lD.eqv (.str a) (.str a)=(a==a)from rfl,ez];rfl
theorem vf{a b:Str}(ha:lD.strOk a=Ld)(d:lD.strOk b=Ld)(h:(a==b)=Tx):iG (.str a) (.str b)=-(.bool Ld):=by unfold iG;rw[show jP (.str a)=Ld by unfold jP;rw[show lD.canLay0 (.str a)=Ld from ha];rfl,show lD.canLay0 (.str b)=Ld from d,U7,ak rfl,show lD.eqv (.str a) (.str b)=(a==b)from rfl,h];rfl
theorem Co{a b c:Str}{v:Bool}(ha:lD.strOk a=Ld)(e:lD.strOk b=Ld)(d:lD.strOk c=Ld)(h:(b==a||c==a)=v):iY (.str a) (.tuple [.str b,.str c])=-(.bool v):=by rw[Qf ha e d,h]
theorem Bj{a b c e:Str}{v:Bool}(ha:lD.strOk a=Ld)(g:lD.strOk b=Ld)(f:lD.strOk c=Ld)(d:lD.strOk e=Ld)(h:(b==a||(c==a||e==a))=v):iY (.str a) (.tuple [.str b,.str c,.str e])=-(.bool v):=by rw[Qh ha g f d,h]
theorem El:∀m:Mg,bV (.str (qp m)) (.str "below")=-(.bool (bB m))
 |.UP _=>eS (a:= "letter") (by left) (by left) (by left)
 |.Vh _=>eS (a:= "layer") (by left) (by left) (by left)
 |.XF _ _=>eS (a:= "tap") (by left) (by left) (by left)
 |.once _=>eS (a:= "once") (by left) (by left) (by left)
 |.none=>eS (a:= "none") (by left) (by left) (by left)
 |.below=>pO (a:= "below") (by left)
theorem Ec:∀m:Mg,iG (.str (qp m)) (.str "below")=-(.bool (!bB m))
 |.UP _=>vf (a:= "letter") (by left) (by left) (by left)
 |.Vh _=>vf (a:= "layer") (by left) (by left) (by left)
 |.XF _ _=>vf (a:= "tap") (by left) (by left) (by left)
 |.once _=>vf (a:= "once") (by left) (by left) (by left)
 |.none=>vf (a:= "none") (by left) (by left) (by left)
 |.below=>OL (a:= "below") (by left)
theorem HU:∀m:Mg,iY (.str (qp m)) (.tuple [.str "letter",.str "tap"])=-(.bool (b2 m))
 |.UP _=>Co (a:= "letter") (v:=Ld) (by left) (by left) (by left) (by left)
 |.Vh _=>Co (a:= "layer") (v:=Tx) (by left) (by left) (by left) (by left)
 |.XF _ _=>Co (a:= "tap") (v:=Ld) (by left) (by left) (by left) (by left)
 |.once _=>Co (a:= "once") (v:=Tx) (by left) (by left) (by left) (by left)
 |.none=>Co (a:= "none") (v:=Tx) (by left) (by left) (by left) (by left)
 |.below=>Co (a:= "below") (v:=Tx) (by left) (by left) (by left) (by left)
theorem Iy:∀m:Mg,iY (.str (qp m)) (.tuple [.str "layer",.str "tap",.str "once"])=-(.bool (b3 m))
 |.UP _=>Bj (a:= "letter") (v:=Tx) (by left) (by left) (by left) (by left) (by left)
 |.Vh _=>Bj (a:= "layer") (v:=Ld) (by left) (by left) (by left) (by left) (by left)
 |.XF _ _=>Bj (a:= "tap") (v:=Ld) (by left) (by left) (by left) (by left) (by left)
 |.once _=>Bj (a:= "once") (v:=Ld) (by left) (by left) (by left) (by left) (by left)
 |.none=>Bj (a:= "none") (v:=Tx) (by left) (by left) (by left) (by left) (by left)
 |.below=>Bj (a:= "below") (v:=Tx) (by left) (by left) (by left) (by left) (by left)
theorem JS(m:Mg):iY (.str (qp m)) (.list [.str "letter",.str "tap"])=-(.bool (b2 m)):=HU m
theorem IM(m:Mg):iY (.str (qp m)) (.list [.str "layer",.str "tap",.str "once"])=-(.bool (b3 m)):=Iy m
def pI(m:Mg)(L nL:Int):Bool:=if bB m=Ld then !decide (L=0)else !(b2 m&& !cK (sG m))&&(!b3 m||(decide (1<=nG m)&&decide (nG m<nL)))
theorem MF.s{m:Mg}(h:MF m)(a:b2 m=Ld):HH (sG m):=by cases m<;>first|exact h|cases a
theorem wH{L nL:Int}{m:Mg}(h:MF m):gq [mG m,.int L,.int nL]=.ok (.fz (.bool (pI m L nL))):=by
 have l:=Hb m;have k:=El m;have f:=HU m;have e:=Iy m;refine aY (ρ:=[-(mG m),-(.int L),-(.int nL),CL]) rfl ?_;unfold gv;refine aM (pv:=.fz (.str (qp m))) (ρ3:=[-(mG m),-(.int L),-(.int nL),-(.str (qp m))]) (aO (rv:=.fz (.str (qp m))) (af rfl) av rfl rfl l) rfl rfl ?_;unfold pI;refine aP (b:=bB m) (aw (aQ (af rfl) av rfl rfl k) rfl) (λq=>?_) λq=>ay ?_
 .rw[ak q];exact aW (pv:=.fz (.bool (!decide (L=0)))) (aQ (af rfl) av rfl rfl (kP _ _)) rfl rfl
 rw[q,ar Tz]
 have n:(di (ag (ah iY (ac 3) (bM {pC (.str "letter"),pC (.str "tap")}))) (d9 (ag (aK b9 1 {ah aG (ac 0) (~~~1)})))) [-(mG m),-(.int L),-(.int nL),-(.str (qp m))]
   =.ok (b2 m&& !cK (sG m),[-(mG m),-(.int L),-(.int nL),-(.str (qp m))]):=by
  refine bR (aw (aQ (dx:=.str (qp m)) (dy:=.tuple [.str "letter",.str "tap"]) (af rfl) (gy (ds:=[.str "letter",.str "tap"]) (ad av (ad av ai)) rfl (Uj rfl)) rfl rfl f) rfl) λz=>?_;have g:=RO z;have j:=gS (s:=sG m) (by have:=(h.s z).1;ext);exact b6 (aw (gn (ds:=[ap (sG m)]) (ad (aO (rv:=.fz (ap (sG m))) (af rfl) av rfl rfl g) ai) rfl rfl j) rfl)
 refine aP n (λd=>?_) λd=>ay ?_
 .rw[d];exact aW (pv:=.fz (.bool Tx)) av rfl rfl
 rw[d];refine aP (b:=b3 m) (aw (aQ (dx:=.str (qp m)) (dy:=.tuple [.str "layer",.str "tap",.str "once"]) (af rfl) (gy (ds:=[.str "layer",.str "tap",.str "once"]) (ad av (ad av (ad av ai))) rfl (Uj rfl)) rfl rfl e) rfl) (λa=>?_) λa=>ay ?_
 .have i:=Rt a;rw[a];exact aW (pv:=.fz (.bool (decide (1<=nG m)&&decide (nG m<nL)))) (gZ (dy:=.int (nG m)) av (aO (rv:=.fz (.int (nG m))) (af rfl) (Ed (rv:=.fz (.int (-1))) av rfl rfl) rfl rfl i) (af rfl) rfl rfl rfl (li _ _) λ_=>iO _ _) rfl rfl
 .rw[a];exact aR (pv:=.fz (.bool Ld)) av rfl rfl
theorem uK{L nL:Int}(v:0<=L){m:Mg}(h:MF m):iq [mG m,.int L,.int nL]=.ok (.fz (.bool (pI m L nL))):=by
 have r:=Hb m;have p:=Ec m;have k:=JS m;have j:=IM m;refine aY (ρ:=[-(mG m),-(.int L),-(.int nL)]) rfl ?_;unfold fO;have f:(ah aG (ac 0) (~~~0)) [-(mG m),-(.int L),-(.int nL)]=.ok (.fz (.str (qp m)),[-(mG m),-(.int L),-(.int nL)]):=aO (rv:=.fz (.str (qp m))) (af rfl) av rfl rfl r
 have u:(di (ag (ah iY (ah aG (ac 0) (~~~0)) (b7 {pC (.str "letter"),pC (.str "tap")}))) (d9 (ag (aK a9 1 {ah aG (ac 0) (~~~1)})))) [-(mG m),-(.int L),-(.int nL)]
   =.ok (b2 m&& !cK (sG m),[-(mG m),-(.int L),-(.int nL)]):=by
  refine bR (aw (aQ (dx:=.str (qp m)) (dy:=.list [.str "letter",.str "tap"]) f (lM (ds:=[.str "letter",.str "tap"]) (ad av (ad av ai)) rfl (Uj rfl)) rfl rfl k) rfl) λz=>?_;have l:=RO z;have o:=fK (s:=sG m) (by have:=(h.s z).1;ext);exact b6 (aw (gn (ds:=[ap (sG m)]) (ad (aO (rv:=.fz (ap (sG m))) (af rfl) av rfl rfl l) ai) rfl rfl o) rfl)
 have e:bB m=Ld->b2 m=Tx:=λz=>by cases m<;>first|rfl|cases z
 have d:bB m=Ld->b3 m=Tx:=λz=>by cases m<;>first|rfl|cases z
 unfold pI;refine aP u (λb=>?_) λb=>ay ?_
 .refine aW (pv:=.fz (.bool Tx)) (rv:=.fz (.bool Tx)) av rfl ?_
  cases q:bB m with
  |true=>rw[e q]at b;cases b
  |false=>rw[ar Tz,b];rfl
 have t:(di (ag (ah iY (ah aG (ac 0) (~~~0)) (b7 {pC (.str "layer"),pC (.str "tap"),pC (.str "once")}))) (iR (ag (ah nc (ah aG (ac 0) (B9 qL (~~~1))) (~~~1))) (ag (ah Eh (ah aG (ac 0) (B9 qL (~~~1))) (ac 2))))) [-(mG m),-(.int L),-(.int nL)]
   =.ok (b3 m&&(decide (nG m<1)||decide (nG m≥nL)),[-(mG m),-(.int L),-(.int nL)]):=by
  refine bR (aw (aQ (dx:=.str (qp m)) (dy:=.list [.str "layer",.str "tap",.str "once"]) f (lM (ds:=[.str "layer",.str "tap",.str "once"]) (ad av (ad av (ad av ai))) rfl (Uj rfl)) rfl rfl j) rfl) λz=>?_;have n:=Rt z;have i:(ah aG (ac 0) (B9 qL (~~~1))) [-(mG m),-(.int L),-(.int nL)]=.ok (.fz (.int (nG m)),[-(mG m),-(.int L),-(.int nL)]):=aO (rv:=.fz (.int (nG m))) (af rfl) (Ed (rv:=.fz (.int (-1))) av rfl rfl) rfl rfl n;exact bu (aw (aQ i av rfl rfl (iO _ _)) rfl) λ_=>aw (aQ i (af rfl) rfl rfl (Dt _ _)) rfl
 have g:(decide (1<=nG m)&&decide (nG m<nL))= !(decide (nG m<1)||decide (nG m≥nL)):=by rw[Bool.not_or,<-decide_not,<-decide_not];congr 1<;>(apply decide_eq_decide.mpr;ext)
 refine aP t (λa=>?_) λa=>ay ?_
 .refine aW (pv:=.fz (.bool Tx)) (rv:=.fz (.bool Tx)) av rfl ?_
  cases q:bB m with
  |true=>rw[d q]at a;cases a
  |false=>rw[ar Tz,g,b];rw[Tu]at a;rw[a.1,a.2];rfl
 refine aR (pv:=.fz (.bool (!bB m||decide (L>0)))) (rv:=.fz (.bool (!bB m||decide (L>0)))) (xh (aw (aQ f av rfl rfl p) rfl) λ_=>aQ (af rfl) av rfl rfl (uA _ _)) rfl ?_;cases q:bB m with
 |true=>rw[ak rfl];show RV.fz (.bool (decide (L>0)))=_;congr 2;rw[<-decide_not];apply decide_eq_decide.mpr;ext
 |false=>
  rw[ar Tz,g,b];cases z:b3 m with
  |false=>rfl
  |true=>rw[z]at a;have a:(decide (nG m<1)||decide (nG m≥nL))=Tx:=a;rw[a];rfl
theorem lJ{c f g:Str}{fa:FA}{ρ ρ1:aD}{ps:ck PV}{d e:D}(ha:fa ρ=.ok (ps,ρ1))(hd:jX ρ1 ps=ax [d,e])(b:L9.nw d=Ld)(a:L9.nw e=Ld):L9.fT c f g fa ρ=.er ⟨c,[(g,e),(f,d)]⟩:=by unfold L9.fT;rw[ha,fo];dsimp only;rw[hd];show(if L9.nw d=Ld/\L9.nw e=Ld then _ else _)=_;rw[ak ⟨b,a⟩]
theorem oP{F:FN}{n:Nat}{fa:FA}{ρ ρ1 ρ2:aD}{ps:ck PV}{ds:ck D}{x:Xc}(ha:fa ρ=.ok (ps,ρ1))(hd:jk ρ1 ps=ax (ds,ρ2))(hn:ds.length=n)(a:F ds=.er x):jU F n fa ρ=.er x:=by unfold jU;rw[ha,fo];dsimp only;rw[hd];show(if ds.length=n then _ else _)=_;rw[ak hn,a];rfl
theorem i7{F:FN}{n:Nat}{fa:FA}{ρ ρ1 ρ2:aD}{ps:ck PV}{ds:ck D}{rv:RV}(ha:fa ρ=.ok (ps,ρ1))(hd:jk ρ1 ps=ax (ds,ρ2))(hn:ds.length=n)(a:F ds=.ok rv):jU F n fa ρ=.ok (rv.pv,ρ2):=by unfold jU;rw[ha,fo];dsimp only;rw[hd];show(if ds.length=n then _ else _)=_;rw[ak hn,a];rfl
theorem tN{fe:FE}{ρ:aD}{x:Xc}(h:fe ρ=.er x):cj fe ρ=.er x:=by unfold cj;rw[h];rfl
theorem lc{i:Nat}(h:i<=1000):L9.nw (nd i)=Ld:=by show decide (((i:Nat):Int).natAbs.log2<1920)=Ld;refine a4 ?_;rw[Int.natAbs_natCast];exact Y6 (Nat.log2_le_self i) (by ext)
abbrev xB(l k:D):Xc:=⟨"NoBed",[("key",k),("layer",l)]⟩
abbrev xC(p:D):Xc:=⟨"NoChord",[("place",p)]⟩
section
variable{b:Gb}{k:Nat}
theorem QK:aG (gD b) (.int 0)=-(.int b.n):=iV
theorem PC:aG (gD b) (.int 1)=-(.tuple (b.ls.map cU)):=qU
theorem QI:aG (gD b) (.int 2)=-(.tuple (b.cs.map cn)):=Fg
theorem Tm:aG (gD b) (.int 3)=-(.int b.wt):=Ls (by decide) rfl
theorem tF:bF [.tuple (b.ls.map cU)]=-(.int (b.ls.length:Int)):=by show ax (RV.fz (.int ((b.ls.map cU).length:Int)))=_;rw[Tv]
theorem xj:bF [.tuple (b.cs.map cn)]=-(.int (b.cs.length:Int)):=by show ax (RV.fz (.int ((b.cs.map cn).length:Int)))=_;rw[Tv]
theorem BU(l:ck Mg):bF [cU l]=-(.int (l.length:Int)):=by show ax (RV.fz (.int ((l.map mG).length:Int)))=_;rw[Tv]
abbrev yz(lo hi x:Int):Bool:=decide (lo<=x)&&decide (x<=hi)
def tJ(b:Gb):Bool:= !yz 1 5 b.n|| !yz 1 3 (b.ls.length:Int)
def tG(b:Gb):Bool:=decide ((b.cs.length:Int)>4)|| !yz 1 4 b.wt
theorem Cr:cY [gD b]=if(tJ b||tG b)=Ld then .er (xB .none .none)else .ok (.fz .none):=by
 have j:=QK (b:=b);have i:=PC (b:=b);have h:=QI (b:=b);have e3:=Tm (b:=b);have g:=tF (b:=b);have f:=xj (b:=b)
 have a:(iR (d9 (ag (cx qJ qJ (~~~1) (ah aG (ac 0) (~~~0)) (~~~5)))) (d9 (ag (cx qJ qJ (~~~1) (b8 bF {ah aG (ac 0) (~~~1)}) (~~~3))))) [-(gD b)]=.ok (tJ b,[-(gD b)]):=
  bu (b6 (aw (gZ (dy:=.int b.n) av (aO (rv:=.fz (.int b.n)) (af rfl) av rfl rfl j) av rfl rfl rfl (li _ _) λ_=>li _ _) rfl)) λ_=>b6 (aw (gZ (dy:=.int (b.ls.length:Int)) av (bC (rv:=.fz (.int (b.ls.length:Int))) (ad (aO (rv:=.fz (.tuple (b.ls.map cU))) (af rfl) av rfl rfl i) ai) rfl g) av rfl rfl rfl (li _ _) λ_=>li _ _) rfl)
 have d:(iR (ag (ah oO (b8 bF {ah aG (ac 0) (~~~2)}) (~~~4))) (d9 (ag (cx qJ qJ (~~~1) (ah aG (ac 0) (~~~3)) (~~~4))))) [-(gD b)]=.ok (tG b,[-(gD b)]):=
  bu (aw (aQ (dx:=.int (b.cs.length:Int)) (dy:=.int 4) (bC (rv:=.fz (.int (b.cs.length:Int))) (ad (aO (rv:=.fz (.tuple (b.cs.map cn))) (af rfl) av rfl rfl h) ai) rfl f) av rfl rfl (uA _ _)) rfl) λ_=>b6 (aw (gZ (dy:=.int b.wt) av (aO (rv:=.fz (.int b.wt)) (af rfl) av rfl rfl e3) av rfl rfl rfl (li _ _) λ_=>li _ _) rfl)
 have e:∀{ρ:aD},L9.fT "NoBed" "layer" "key" {pC .none,pC .none} ρ=.er (xB .none .none):=lJ (ad av (ad av ai)) rfl rfl rfl;cases q1:tJ b with
 |true=>rw[q1]at a;rw[We,ak rfl];refine ib (ρ:=[-(gD b)]) rfl ?_;unfold bZ;exact j6 ((qW a).trans e)
 |false=>
  rw[q1]at a;cases q2:tG b with
  |true=>rw[q2]at d;rw[UJ,ak rfl];refine ib (ρ:=[-(gD b)]) rfl ?_;unfold bZ;exact(cJ ((tE a).trans rfl)).trans ((qW d).trans e)
  |false=>rw[q2]at d;rw[UJ,ar Tz];refine aY (ρ:=[-(gD b)]) rfl ?_;unfold bZ;exact aP a (λz=>by cases z) λ_=>ay (eh d (λz=>by cases z) λ_=>cV rfl)
def bb(b:Gb)(i:Nat):ck Mg:=b.ls.getD i []
theorem ye{i:Nat}(h:i<b.ls.length):(b.ls.map cU)[i]?=ax (cU (bb b i)):=by unfold bb;rw[TU,TF h,UE,TF h];rfl
theorem wb{i:Nat}(h:i<b.ls.length):bb b i∈b.ls:=by unfold bb;rw[UE,TF h];exact Vz h
theorem yo{l:ck Mg}{j:Nat}(h:j<l.length):(l.map mG)[j]?=ax (mG (l.getD j .none)):=by rw[TU,TF h,UE,TF h];rfl
theorem Ci{l:ck Mg}{j:Nat}(h:j<l.length):l.getD j .none∈l:=by rw[UE,TF h];exact Vz h
def nY(b:Gb)(i j:Nat):Bool:= !pI ((bb b i).getD j .none) (i:Int) (b.ls.length:Int)
def nJ(b:Gb)(i:Nat):cv Nat:=(Uo (bb b i).length).find? λj=>nY b i j
def ir(b:Gb)(i:Nat):cv D:=if((bb b i).length:Int)=b.n then(nJ b i).map nd else ax .none
theorem wk(A:GF k b)(O:k<=400){i:Nat}(hi:i<b.ls.length):c7 [gD b,nd i]=match ir b i with|some d=>.er (xB (nd i) d)|none=>.ok (.fz .none):=by
 have N:=A.ll;have M:=QK (b:=b);have C:=PC (b:=b);have G:=tF (b:=b);have H:aG (.tuple (b.ls.map cU)) (nd i)=-(cU (bb b i)):=Aj (ye hi);have E:=A.lm _ (wb hi);have F:=BU (bb b i);have w:(ah aG (ah aG (ac 0) (~~~1)) (ac 1)) [-(gD b),-(nd i),CL,CL,CL]=.ok (.fz (cU (bb b i)),[-(gD b),-(nd i),CL,CL,CL]):=aO (rv:=.fz (cU (bb b i))) (aO (rv:=.fz (.tuple (b.ls.map cU))) (af rfl) av rfl rfl C) (af rfl) rfl rfl H
 have t:(ag (ah iG (b8 bF {ac 2}) (ah aG (ac 0) (~~~0)))) [-(gD b),-(nd i),-(cU (bb b i)),CL,CL]=.ok (!decide (((bb b i).length:Int)=b.n),[-(gD b),-(nd i),-(cU (bb b i)),CL,CL]):=
  aw (aQ (dx:=.int ((bb b i).length:Int)) (dy:=.int b.n) (bC (rv:=.fz (.int ((bb b i).length:Int))) (ad (af rfl) ai) rfl F) (aO (rv:=.fz (.int b.n)) (af rfl) av rfl rfl M) rfl rfl (kP _ _)) rfl
 have v:∀j,j<(bb b i).length->(d9 (ag (aK gq 3 {ac 4,ac 1,b8 bF {ah aG (ac 0) (~~~1)}}))) [-(gD b),-(nd i),-(cU (bb b i)),-(nd j),-(mG ((bb b i).getD j .none))]=.ok (nY b i j,[-(gD b),-(nd i),-(cU (bb b i)),-(nd j),-(mG ((bb b i).getD j .none))]):=λj q=>by have y:=wH (L:=(i:Int)) (nL:=(b.ls.length:Int)) (E.2 _ (Ci q));unfold nY;generalize (bb b i).getD j .none=m at y;generalize cU (bb b i)=lg;exact b6 (aw (gn (ds:=[mG m,nd i,.int (b.ls.length:Int)]) (ad (af rfl) (ad (af rfl) (ad (bC (rv:=.fz (.int (b.ls.length:Int))) (ad (aO (rv:=.fz (.tuple (b.ls.map cU))) (af rfl) av rfl rfl C) ai) rfl G) ai))) rfl rfl y) rfl)
 have f:∀j d,(aZ 0 ((bb b i).map mG))[j]?=ax d->j<(bb b i).length/\d=.tuple [nd j,mG ((bb b i).getD j .none)]:=λj d q=>by
  obtain⟨x,o,rfl⟩:=uj _ _ _ _ q;have p:j<(bb b i).length:=by obtain⟨z,_⟩:=TN.mp o;rw[Tv]at z;exact z
  rw[yo p]at o;cases o;rw[XD];exact⟨p,rfl⟩
 have B:L3.ph {ac 2} [-(gD b),-(nd i),-(cU (bb b i)),CL,CL]=.ok (aZ 0 ((bb b i).map mG),[-(gD b),-(nd i),-(cU (bb b i)),CL,CL]):=uw (d:=cU (bb b i)) (ad (af rfl) ai) rfl rfl;unfold ir;by_cases u:((bb b i).length:Int)=b.n
 .rw[ak u]
  rw[a4 u]at t;cases hf:nJ b i with
  |some j=>
   have a:=hf;unfold nJ at a;rw[Vg]at a;obtain⟨K,J,I⟩:=a;have q:=Ur.mp J;refine ib (ρ:=[-(gD b),-(nd i),CL,CL,CL]) rfl ?_;unfold cB;refine(cJ (fy w rfl rfl)).trans ((cJ ((tE t).trans rfl)).trans ((j7 B).trans ?_));refine p7 (λ_ ρ=>∃l h,ρ=[-(gD b),-(nd i),-(cU (bb b i)),l,h]) j 0 _ _ (by rw[fZ,Tv];exact q) ⟨CL,CL,rfl⟩ ?_ ?_
   .rintro x d ρ o r ⟨l,h,rfl⟩
    obtain⟨e,rfl⟩:=f x d r;have g:=v x e;have:nY b i x=Tx:=by have:=I x o;exact XQ.mpr λz=>by rw[z]at this;cases this
    rw[this]at g;exact⟨_,_,rfl,(tE g).trans rfl,_,_,rfl⟩
   .rintro d ρ r ⟨l,h,rfl⟩;obtain⟨e,rfl⟩:=f j d r;have g:=v j e;rw[K]at g;exact⟨_,rfl,(qW g).trans (lJ (ad (af rfl) (ad (af rfl) ai)) rfl (lc (by ext)) (lc (by ext)))⟩
  |none=>have a:=hf;unfold nJ at a;rw[VW]at a;refine aY (ρ:=[-(gD b),-(nd i),CL,CL,CL]) rfl ?_;unfold cB;refine aM (ρ3:=[-(gD b),-(nd i),-(cU (bb b i)),CL,CL]) w rfl rfl (aP t (λz=>by cases z) λ_=>ay ?_);refine wF (λ_ ρ=>∃l h:cv PV,ρ=[-(gD b),-(nd i),-(cU (bb b i)),l,h]) B ⟨CL,CL,rfl⟩ ?_ (λ_ _=>rfl);rintro x d ρ r ⟨l,h,rfl⟩;obtain⟨e,rfl⟩:=f x d r;have g:=v x e;rw[XQ.mpr (a x (Ur.mpr e))]at g;exact⟨_,rfl,eh g (λz=>by cases z) λ_=>cV ⟨_,_,rfl⟩⟩
 .rw[ar u];rw[a5 u]at t;refine ib (ρ:=[-(gD b),-(nd i),CL,CL,CL]) rfl ?_;unfold cB;exact(cJ (fy w rfl rfl)).trans (j6 ((qW t).trans (lJ (ad (af rfl) (ad av ai)) rfl (lc (by ext)) rfl)))
end
def bL:Mg->Bool
 |.UP _=>Ld
 |_=>Tx
theorem vz:∀m:Mg,bV (.str (qp m)) (.str "letter")=-(.bool (bL m))
 |.UP _=>pO (a:= "letter") (by left)
 |.Vh _=>eS (a:= "layer") (by left) (by left) (by left)
 |.XF _ _=>eS (a:= "tap") (by left) (by left) (by left)
 |.once _=>eS (a:= "once") (by left) (by left) (by left)
 |.none=>eS (a:= "none") (by left) (by left) (by left)
 |.below=>eS (a:= "below") (by left) (by left) (by left)
theorem G9{ks:ck Int}(h:1<=ks.length)(i:ks.length<=1000):mJ [kD ks]=.ok (.fz (.bool (nq ks))):=by
 have a:=AL h;have b:g9 (cf (gT 2 (l9 (gN 0) (l9 (gN 1) wu))) aU (ah nc (ac 0) (ac 1)) (jW (ks.map .int) ((ks.drop 1).map .int)) [CL,CL] [])=.ok ((ks.zip (ks.drop 1)).map λp=>lD.bool (decide (p.1<p.2))):=by rw[uL];refine sA (λρ=>∃o p,ρ=[o,p]) _ (by rw[List.length_zip];ext) ⟨CL,CL,rfl⟩ ?_;rintro p g ρ ⟨o,q,rfl⟩;exact⟨_,lY rfl rfl (aQ (dx:=.int p.1) (dy:=.int p.2) (af rfl) (af rfl) rfl rfl (iO _ _)) rfl rfl,_,_,rfl⟩
 have f:=j4 (λp:Int×Int=>decide (p.1<p.2)) (ks.zip (ks.drop 1));refine aY (ρ:=[-(kD ks)]) rfl ?_;unfold kN;exact aR (tV (ad (bg (yX (d:=kD ks) (e:=kD (ks.drop 1)) (ad (af rfl) (ad (yj (rv:=.fz (kD (ks.drop 1))) (af rfl) (lQ av rfl) lZ rfl a) ai)) rfl rfl rfl) rfl b) ai) rfl f) rfl rfl
section
variable{b:Gb}{k:Nat}
def qV(b:Gb)(x:Int):Bool:=(decide (0<=x)&&decide (x<b.n))&&bL ((bb b 0).getD x.toNat .none)
def sO(b:Gb)(ks:ck Int):Bool:=if(decide ((ks.length:Int)<2)|| !nq ks)=Ld then Tx else ks.all (qV b)
theorem vI(u:1<=b.ls.length)(v:((bb b 0).length:Int)=b.n){ks:ck Int}(o:ks.length<=1000):cW [gD b,kD ks]=.ok (.fz (.bool (sO b ks))):=by
 have r:=QK (b:=b);have p:=PC (b:=b);have LX:aG (.tuple (b.ls.map cU)) (.int 0)=-(cU (bb b 0)):=Aj (i:=0) (ye (by ext));have j:=Py ks;have f:g9 (cf (gN 0) aU (j8 (cx qJ nc (~~~0) (ac 0) (ah aG (ac 1) (~~~0))) (ah bV (ah aG (ah aG (ah aG (ah aG (ac 1) (~~~1)) (~~~0)) (ac 0)) (~~~0)) (pC (.str "letter")))) (ks.map .int) [CL,-(gD b)] [])=.ok (ks.map λx=>lD.bool (qV b x)):=by
  refine ip ks (by ext) rfl λx _=>?_;refine mz (a:=decide (0<=x)&&decide (x<b.n)) (b:=bL ((bb b 0).getD x.toNat .none)) (aw (gZ (dy:=.int x) (dz:=.int b.n) av (af rfl) (aO (rv:=.fz (.int b.n)) (af rfl) av rfl rfl r) rfl rfl rfl (li _ _) λ_=>iO _ _) rfl) λq=>?_;rw[Tu,decide_eq_true_iff,decide_eq_true_iff]at q;have l:x.toNat<(bb b 0).length:=by ext
  have e:aG (cU (bb b 0)) (.int x)=-(mG ((bb b 0).getD x.toNat .none)):=Ls q.1 (yo l);have g:=Hb ((bb b 0).getD x.toNat .none);have h:=vz ((bb b 0).getD x.toNat .none);generalize (bb b 0).getD x.toNat .none=m at e g h;exact aQ (dx:=.str (qp m)) (dy:=.str "letter") (aO (rv:=.fz (.str (qp m))) (aO (rv:=.fz (mG m)) (aO (rv:=.fz (cU (bb b 0))) (aO (rv:=.fz (.tuple (b.ls.map cU))) (af rfl) av rfl rfl p) av rfl rfl LX) (af rfl) rfl rfl e) av rfl rfl g) av rfl rfl h
 have t:=j4 (qV b) ks;refine aY (ρ:=[-(gD b),-(kD ks)]) rfl ?_;unfold cX sO;refine aP (b:=decide ((ks.length:Int)<2)|| !nq ks) (bu (aw (aQ (dx:=.int (ks.length:Int)) (dy:=.int 2) (bC (rv:=.fz (.int (ks.length:Int))) (ad (af rfl) ai) rfl j) av rfl rfl (iO _ _)) rfl) λq=>?_) (λq=>?_) λq=>ay ?_
 .have q:=of_decide_eq_false q;have er:=G9 (ks:=ks) (by ext) o;exact b6 (aw (gn (ad (af rfl) ai) rfl rfl er) rfl)
 .rw[ak q];exact aW (pv:=.fz (.bool Tx)) av rfl rfl
 .rw[q,ar Tz];exact aR (tV (ad (bg (dc (d:=kD ks) (af rfl) rfl rfl) rfl f) ai) rfl t) rfl rfl
abbrev c0:ck Int×ck Nat:=([],[])
def gw(b:Gb)(p:Nat):ck Int×ck Nat:=b.cs.getD p c0
theorem Hr{p:Nat}(h:p<b.cs.length):(b.cs.map cn)[p]?=ax (cn (gw b p)):=by unfold gw;rw[TU,TF h,UE,TF h];rfl
theorem D9{p:Nat}(h:p<b.cs.length):gw b p∈b.cs:=by unfold gw;rw[UE,TF h];exact Vz h
theorem DU(p:Nat):Fz (.tuple (b.cs.map cn)) CL (ax (p:Int))=-(.tuple ((b.cs.take p).map cn)):=by show ax (RV.fz (.tuple (iX (b.cs.map cn) CL (ax (p:Int)))))=_;unfold iX;rw[HT.sIx_none,aam,HT.sIx_nat,agb,Tv,YV];congr 3;rw[abE];rw[Tv];ext
theorem sM:∀L:ck (ck Int),lD.canLayAll0 (L.map kD)=Ld
 |[]=>rfl
 |l::r=>by show(lD.canLayAll0 (l.map lD.int)&&lD.canLayAll0 (r.map kD))=Ld;rw[Hg,sM r];rfl
theorem sj(w:ck Int):∀L:ck (ck Int),((L.map kD).any λe=>lD.eqv e (kD w))=decide (w∈L)
 |[]=>rfl
 |l::r=>by
  rw[Ub,Xb,sj w r,show lD.eqv (kD l) (kD w)=_ from GD l w];by_cases h:l=w
  .subst h;simp
  .have:¬w=l:=λz=>h z.symm;simp[h,this]
theorem Hw(w:ck Int):jP (kD w)=Ld:=by show(lD.canLayAll0 (w.map lD.int)&&decide (lD.depthAll (w.map lD.int)+1<=64))=Ld;rw[Hg,CP];rfl
theorem Kn(w:ck Int)(L:ck (ck Int)):iY (kD w) (.list (L.map kD))=-(.bool (decide (w∈L))):=by show(if(jP (kD w)&&lD.canLayAll0 (L.map kD))=Ld then ax (RV.fz (.bool ((L.map kD).any λe=>lD.eqv e (kD w))))else CL)=_;rw[Hw,sM,sj];rfl
theorem Gw(w:ck Int)(L:ck (ck Int)):jM (kD w) (.list (L.map kD))=-(.bool (!decide (w∈L))):=by show(if(jP (kD w)&&lD.canLayAll0 (L.map kD))=Ld then ax (RV.fz (.bool (!(L.map kD).any λe=>lD.eqv e (kD w))))else CL)=_;rw[Hw,sM,sj];rfl
theorem vj(cs:ck (ck Int×ck Nat))(a:cs.length<=1000):g9 (cf (gN 0) aU (ah aG (ac 0) (~~~0)) (cs.map cn) [CL] [])=.ok ((cs.map (·.1)).map kD):=by rw[Uz];refine ip cs (by ext) rfl λc _=>?_;exact aO (rv:=.fz (kD c.1)) (af rfl) av rfl rfl iV
def pF(b:Gb)(p:Nat):Bool:=decide ((gw b p).1∈(b.cs.take p).map (·.1))
def G4(b:Gb)(p:Nat):Bool:= !cK (gw b p).2|| !sO b (gw b p).1
theorem v5(u:GF k b)(H:k<=400)(F:1<=b.ls.length)(G:((bb b 0).length:Int)=b.n){p:Nat}(r:p<b.cs.length):fY [gD b,nd p]=if(G4 b p||pF b p)=Ld then .er (xC (nd p))else .ok (.fz .none):=by
 have cl:=u.cl;have A:=u.cm _ (D9 r);have y:=QI (b:=b);have q:aG (.tuple (b.cs.map cn)) (nd p)=-(cn (gw b p)):=Aj (Hr r);have w:aG (cn (gw b p)) (.int 0)=-(kD (gw b p).1):=iV;have v:aG (cn (gw b p)) (.int 1)=-(ap (gw b p).2):=qU;have f:=gS (s:=(gw b p).2) (by have:=A.2.1;ext);have j:=vI F G (ks:=(gw b p).1) (by have:=A.1;ext);have a:=Kn (gw b p).1 ((b.cs.take p).map (·.1));have i:=DU (b:=b) p;have l:=vj (b.cs.take p) (by rw[Uq];ext);have E:pF b p=decide ((gw b p).1∈(b.cs.take p).map (·.1)):=rfl;have h:G4 b p=(!cK (gw b p).2|| !sO b (gw b p).1):=rfl;rw[<-E]at a;obtain⟨ks,s,g⟩:∃ks s,gw b p=(ks,s):=⟨_,_,rfl⟩;rw[g]at q w v f j a h;dsimp only at f j a h;generalize pF b p=ob at*;have C:∀{t:cv PV},(ah aG (ah aG (ac 0) (~~~2)) (ac 1)) [-(gD b),-(nd p),t]=.ok (.fz (cn (ks,s)),[-(gD b),-(nd p),t]):=aO (rv:=.fz (cn (ks,s))) (aO (rv:=.fz (.tuple (b.cs.map cn))) (af rfl) av rfl rfl y) (af rfl) rfl rfl q;have m:(ah aG (ah aG (ah aG (ac 0) (~~~2)) (ac 1)) (~~~0)) [-(gD b),-(nd p),CL]=.ok (.fz (kD ks),[-(gD b),-(nd p),CL]):=aO (rv:=.fz (kD ks)) C av rfl rfl w;have e:(iR (d9 (ag (aK b9 1 {ah aG (ah aG (ah aG (ac 0) (~~~2)) (ac 1)) (~~~1)}))) (d9 (ag (aK cW 2 {ac 0,ac 2})))) [-(gD b),-(nd p),-(kD ks)]=.ok (G4 b p,[-(gD b),-(nd p),-(kD ks)]):=by rw[h];exact bu (b6 (aw (gn (ds:=[ap s]) (ad (aO (rv:=.fz (ap s)) C av rfl rfl v) ai) rfl rfl f) rfl)) λ_=>b6 (aw (gn (ds:=[gD b,kD ks]) (ad (af rfl) (ad (af rfl) ai)) rfl rfl j) rfl)
 have B:(ag (ah iY (ac 2) (bE 1 [] (hW (ke Fz (ah aG (ac 0) (~~~2)) cH (bK (ac 1)))) (gN 0) aU (ah aG (ac 0) (~~~0))))) [-(gD b),-(nd p),-(kD ks)]=.ok (ob,[-(gD b),-(nd p),-(kD ks)]):=
  aw (aQ (dx:=kD ks) (dy:=.list (((b.cs.take p).map (·.1)).map kD)) (af rfl) (bg (dc (d:=.tuple ((b.cs.take p).map cn)) (yj (rv:=.fz (.tuple ((b.cs.take p).map cn))) (aO (rv:=.fz (.tuple (b.cs.map cn))) (af rfl) av rfl rfl y) lZ (lQ (af rfl) rfl) rfl i) rfl rfl) rfl l) rfl rfl a) rfl
 have o:∀{t:cv PV},L9.fV "NoChord" "place" (ac 1) [-(gD b),-(nd p),t]=.er (xC (nd p)):=kX (af rfl) rfl (lc (by ext));cases q1:G4 b p with
 |true=>rw[q1]at e;rw[We,ak rfl];refine ib (ρ:=[-(gD b),-(nd p),CL]) rfl ?_;unfold cz;exact(cJ (fy m rfl rfl)).trans (j6 ((qW e).trans o))
 |false=>
  rw[q1]at e;rw[UJ];cases ob with
  |true=>rw[ak rfl];refine ib (ρ:=[-(gD b),-(nd p),CL]) rfl ?_;unfold cz;exact(cJ (fy m rfl rfl)).trans ((cJ ((tE e).trans rfl)).trans ((qW B).trans o))
  |false=>rw[ar Tz];refine aY (ρ:=[-(gD b),-(nd p),CL]) rfl ?_;unfold cz;exact aM (ρ3:=[-(gD b),-(nd p),-(kD ks)]) m rfl rfl (aP e (λz=>by cases z) λ_=>ay (eh B (λz=>by cases z) λ_=>cV rfl))
def mW(b:Gb):Bool:=tJ b||tG b
def qA(b:Gb):cv Nat:=(Uo b.ls.length).find? λi=>(ir b i).isSome
def xw(b:Gb)(p:Nat):Bool:=G4 b p||pF b p
def qQ(b:Gb):cv Nat:=(Uo b.cs.length).find? λp=>xw b p
def iL(b:Gb):D:=if mW b=Ld then .tuple [.int 0,.none,.none]else match qA b with
 |some i=>.tuple [.int 0,nd i,(ir b i).getD .none]
 |none=>match qQ b with
  |some p=>.tuple [.int 1,nd p,.none]
  |none=>.none
theorem Be(h:mW b=Tx):1<=b.ls.length/\b.ls.length<=3/\1<=b.n/\b.n<=5/\b.cs.length<=4:=by unfold mW tJ tG yz at h;simp only[YB,Y3,Tu,decide_eq_true_iff,decide_eq_false_iff_not]at h;ext
theorem HW{i:Nat}(h:ir b i=CL):((bb b i).length:Int)=b.n/\nJ b i=CL:=by
 unfold ir at h;split at h
 .rename_i a;exact⟨a,Yf.mp h⟩
 .cases h
theorem rL(h:qA b=CL){i:Nat}(hi:i<b.ls.length):ir b i=CL:=by unfold qA at h;rw[VW]at h;have:=h i (Ur.mpr hi);exact Option.not_isSome_iff_eq_none.mp this
def mO(x:Xc):Res RV:=if x.cls= "NoBed" then(match x.fs with
    |[(g,k),(f,l)]=>if g= "key"/\f= "layer"/\L9.nw k=Ld/\L9.nw l=Ld then .ok (.fz (.tuple [.int 0,l,k]))else .bad
    |_=>.bad)
   else if x.cls= "NoChord" then(match x.fs with
    |[(f,d)]=>if f= "place"/\L9.nw d=Ld then .ok (.fz (.tuple [.int 1,d,.none]))else .bad
    |_=>.bad)
   else if x.cls= "NoText" then(match x.fs with
    |[(f,d)]=>if f= "row"/\L9.nw d=Ld then .ok (.fz (.tuple [.int 2,d,.none]))else .bad
    |_=>.bad)else .bad
theorem tM{d:D}{x:Xc}(h:bw [d]=.er x):aA [d]=mO x:=by unfold aA;dsimp only;rw[h];rfl
theorem yK{d e:D}(h:bw [d]=.ok (.fz e)):aA [d]=.ok (.fz e):=by unfold aA;dsimp only;rw[h]
theorem lz(t:GF k b)(v:k<=400):(iL b=.none/\cF [gD b]=.ok (.fz (gD b)))\/∃x,cF [gD b]=.er x/\mO x=.ok (.fz (iL b)):=by
 have ll:=t.ll;have cl:=t.cl;have e1:=PC (b:=b);have e2:=QI (b:=b);have X:=tF (b:=b);have U:=xj (b:=b);have B:=Cr (b:=b);have T:=kH (n:=b.ls.length) (by ext);have S:=kH (n:=b.cs.length) (by ext);have G:∀{g h:cv PV},hV d8 {b8 bF {ah aG (ac 0) (~~~1)}} [-(gD b),g,h]=.ok (cG (Uo b.ls.length),[-(gD b),g,h]):=iv (ds:=[nd b.ls.length]) (ad (bC (rv:=.fz (nd b.ls.length)) (ad (aO (rv:=.fz (.tuple (b.ls.map cU))) (af rfl) av rfl rfl e1) ai) rfl X) ai) rfl T;have N:∀{g h:cv PV},hV d8 {b8 bF {ah aG (ac 0) (~~~2)}} [-(gD b),g,h]=.ok (cG (Uo b.cs.length),[-(gD b),g,h]):=iv (ds:=[nd b.cs.length]) (ad (bC (rv:=.fz (nd b.cs.length)) (ad (aO (rv:=.fz (.tuple (b.cs.map cn))) (af rfl) av rfl rfl e2) ai) rfl U) ai) rfl S;have at_:∀(n j:Nat) (d:D),(cG (Uo n))[j]?=ax d->j<n/\d=nd j:=λn j d r=>by obtain⟨x,Y,rfl⟩:=fk r;obtain⟨P,e⟩:=TN.mp Y;rw[Y2]at e;rw[Ul]at P;exact⟨P,by rw[e]⟩
 cases q:mW b with
 |true=>
  rw[show(tJ b||tG b)=Ld from q,ak rfl]at B;have:cF [gD b]=.er (xB .none .none):=by refine ib (ρ:=[-(gD b),CL,CL]) rfl ?_;unfold d7;exact j6 (tN (oP (ds:=[gD b]) (ad (af rfl) ai) rfl rfl B))
  refine .inr ⟨_,this,?_⟩;unfold mO;dsimp only;rw[ak rfl,ak ⟨rfl,rfl,rfl,rfl⟩];unfold iL;rw[q,ak rfl]
 |false=>
  rw[show(tJ b||tG b)=Tx from q,ar Tz]at B;obtain⟨E,n2,n3,n4,n5⟩:=Be q;have M:cj (jU cY 1 {ac 0}) [-(gD b),CL,CL]=.ok (.nx [-(gD b),CL,CL]):=gF (i7 (ds:=[gD b]) (ad (af rfl) ai) rfl rfl B);have f:iL b=(match qA b with|some i=>.tuple [.int 0,nd i,(ir b i).getD .none]|none=>match qQ b with|some p=>.tuple [.int 1,nd p,.none]|none=>.none):=by unfold iL;rw[q,ar Tz]
  cases fl:qA b with
  |some i=>
   rw[fl]at f;dsimp only at f;have u:=fl;unfold qA at u;rw[Vg]at u;obtain⟨K,J,I⟩:=u;have hi:=Ur.mp J;obtain⟨d,r⟩:=WJ.mp K;have F:=wk t v hi;rw[r]at F f;dsimp only at F;have H:L9.nw d=Ld:=by
    unfold ir at r;split at r
    .cases fm:nJ b i with
     |none=>rw[fm]at r;cases r
     |some j=>rw[fm]at r;cases r;unfold nJ at fm;rw[Vg]at fm;have:=Ur.mp fm.2.1;have:=(t.lm _ (wb hi)).1;exact lc (by ext)
    .cases r;rfl
   have:cF [gD b]=.er (xB (nd i) d):=by
    refine ib (ρ:=[-(gD b),CL,CL]) rfl ?_;unfold d7;refine(cJ M).trans (j6 ((j7 G).trans ?_));refine p7 (λ_ ρ=>∃g h,ρ=[-(gD b),g,h]) i 0 _ _ (by rw[bS,Ul];exact hi) ⟨CL,CL,rfl⟩ ?_ ?_
    .rintro j A ρ w m ⟨g,h,rfl⟩
     obtain⟨a,rfl⟩:=at_ _ _ _ m;have o:=wk t v a;have:ir b j=CL:=by
      have:=I j w;cases z:ir b j with
      |none=>rfl
      |some y=>rw[z]at this;cases this
     rw[this]at o;dsimp only at o;exact⟨_,_,rfl,gF (i7 (ds:=[gD b,nd j]) (ad (af rfl) (ad (af rfl) ai)) rfl rfl o),_,_,rfl⟩
    .rintro A ρ m ⟨g,h,rfl⟩;obtain⟨a,rfl⟩:=at_ _ _ _ m;exact⟨_,rfl,tN (oP (ds:=[gD b,nd i]) (ad (af rfl) (ad (af rfl) ai)) rfl rfl F)⟩
   refine .inr ⟨_,this,?_⟩;unfold mO;dsimp only;rw[ak rfl,ak ⟨rfl,rfl,H,lc (by ext)⟩,f];rfl
  |none=>
   rw[fl]at f;dsimp only at f;have L:=(HW (rL fl (i:=0) (by ext))).1;have C:∀j,j<b.ls.length->c7 [gD b,nd j]=.ok (.fz .none):=λj w=>by have o:=wk t v w;rw[rL fl w]at o;exact o
   cases fc:qQ b with
   |some p=>
    rw[fc]at f;dsimp only at f;have l:=fc;unfold qQ at l;rw[Vg]at l;obtain⟨K,J,I⟩:=l;have O:=Ur.mp J;have Q:=v5 t v E L O;rw[ak (show(G4 b p||pF b p)=Ld from K)]at Q;have:cF [gD b]=.er (xC (nd p)):=by
     refine ib (ρ:=[-(gD b),CL,CL]) rfl ?_;unfold d7;obtain⟨R,g1,g,Z⟩:=Cv (gt:=gN 1) (b:=cj (jU c7 2 {ac 0,ac 1})) (ds:=cG (Uo b.ls.length)) (ρ:=[-(gD b),CL,CL]) (λ_ ρ=>∃g,ρ=[-(gD b),g,CL]) ⟨CL,rfl⟩ (by rintro j A ρ m ⟨g,rfl⟩;obtain⟨a,rfl⟩:=at_ _ _ _ m;exact⟨_,_,rfl,.inl (gF (i7 (ds:=[gD b,nd j]) (ad (af rfl) (ad (af rfl) ai)) rfl rfl (C j a))),_,rfl⟩);subst Z;refine(cJ M).trans ((cJ ((j7 G).trans g1)).trans (j6 ((j7 N).trans ?_)));refine p7 (λ_ ρ=>∃h,ρ=[-(gD b),g,h]) p 0 _ _ (by rw[bS,Ul];exact O) ⟨CL,rfl⟩ ?_ ?_
     .rintro j A ρ w m ⟨h,rfl⟩
      obtain⟨a,rfl⟩:=at_ _ _ _ m;have o:=v5 t v E L a;have:(G4 b j||pF b j)=Tx:=by have:=I j w;exact XQ.mpr λz=>by rw[show xw b j=Ld from z]at this;cases this
      rw[this,ar Tz]at o;exact⟨_,_,rfl,gF (i7 (ds:=[gD b,nd j]) (ad (af rfl) (ad (af rfl) ai)) rfl rfl o),_,rfl⟩
     .rintro A ρ m ⟨h,rfl⟩;obtain⟨a,rfl⟩:=at_ _ _ _ m;exact⟨_,rfl,tN (oP (ds:=[gD b,nd p]) (ad (af rfl) (ad (af rfl) ai)) rfl rfl Q)⟩
    refine .inr ⟨_,this,?_⟩;unfold mO;dsimp only;rw[ar (by decide),ak rfl,ak ⟨rfl,lc (by ext)⟩,f]
   |none=>
    rw[fc]at f;dsimp only at f;have l:=fc;unfold qQ at l;rw[VW]at l;have:cF [gD b]=.ok (.fz (gD b)):=by
     refine aY (ρ:=[-(gD b),CL,CL]) rfl ?_;unfold d7;refine lV (ρ1:=[-(gD b),CL,CL]) (i7 (ds:=[gD b]) (ad (af rfl) ai) rfl rfl B) ?_;refine fW (λ_ ρ=>∃g,ρ=[-(gD b),g,CL]) G ⟨CL,rfl⟩ ?_ ?_
     .rintro j A ρ m ⟨g,rfl⟩;obtain⟨a,rfl⟩:=at_ _ _ _ m;exact⟨_,rfl,gJ (i7 (ds:=[gD b,nd j]) (ad (af rfl) (ad (af rfl) ai)) rfl rfl (C j a)) ⟨_,rfl⟩⟩
     .rintro ρ ⟨g,rfl⟩
      refine fW (λ_ ρ=>∃h,ρ=[-(gD b),g,h]) N ⟨CL,rfl⟩ ?_ ?_
      .rintro j A ρ m ⟨h,rfl⟩;obtain⟨a,rfl⟩:=at_ _ _ _ m;have o:=v5 t v E L a;rw[ar (show¬(G4 b j||pF b j)=Ld from l j (Ur.mpr a))]at o;exact⟨_,rfl,gJ (i7 (ds:=[gD b,nd j]) (ad (af rfl) (ad (af rfl) ai)) rfl rfl o) ⟨_,rfl⟩⟩
      .rintro ρ ⟨h,rfl⟩;exact aR (af rfl) rfl rfl
    exact .inl ⟨f,this⟩
end
theorem ul(x:Int):∀L:ck Int,((L.map lD.int).any λe=>lD.eqv e (.int x))=decide (x∈L)
 |[]=>rfl
 |l::r=>by
  rw[Ub,Xb,ul x r,show lD.eqv (.int l) (.int x)=decide (l=x)from rfl];by_cases h:l=x
  .subst h;simp
  .have:¬x=l:=λz=>h z.symm;simp[h,this]
theorem ml(x:Int)(L:ck Int):jM (.int x) (.list (L.map .int))=-(.bool (!decide (x∈L))):=by show(if(jP (.int x)&&lD.canLayAll0 (L.map lD.int))=Ld then ax (RV.fz (.bool (!(L.map lD.int).any λe=>lD.eqv e (.int x))))else CL)=_;rw[show jP (.int x)=Ld from rfl,Hg,ul];rfl
theorem Bl(x:Int)(L:ck Int):iY (.int x) (.list (L.map .int))=-(.bool (decide (x∈L))):=by show(if(jP (.int x)&&lD.canLayAll0 (L.map lD.int))=Ld then ax (RV.fz (.bool ((L.map lD.int).any λe=>lD.eqv e (.int x))))else CL)=_;rw[show jP (.int x)=Ld from rfl,Hg,ul];rfl
theorem Qt(x:Int):jM (.int x) (.list [.int 1,.int 2,.int 3,.int 4,.int 5])=-(.bool (!yz 1 5 x)):=by rw[show([.int 1,.int 2,.int 3,.int 4,.int 5]:ck D)=[1,2,3,4,5].map .int from rfl,ml];congr 4;unfold yz;rw[<-Xo];apply decide_eq_decide.mpr;simp;ext
theorem Qv(x:Int):jM (.int x) (.list [.int 1,.int 2,.int 3,.int 4])=-(.bool (!yz 1 4 x)):=by rw[show([.int 1,.int 2,.int 3,.int 4]:ck D)=[1,2,3,4].map .int from rfl,ml];congr 4;unfold yz;rw[<-Xo];apply decide_eq_decide.mpr;simp;ext
theorem Qz(x:Int):jM (.int x) (.list [.int 1,.int 2,.int 3])=-(.bool (!yz 1 3 x)):=by rw[show([.int 1,.int 2,.int 3]:ck D)=[1,2,3].map .int from rfl,ml];congr 4;unfold yz;rw[<-Xo];apply decide_eq_decide.mpr;simp;ext
section
variable{b:Gb}{k:Nat}
def df(b:Gb):ck Int:=((Uo b.n.toNat).filter λj=>bL ((bb b 0).getD j .none)).map λj:Nat=>(j:Int)
theorem EC(h:1<=b.ls.length)(l:((bb b 0).length:Int)=b.n)(g:b.n<=5):g9 (cf (gN 0) (ag (ah bV (ah aG (ah aG (ah aG (ac 1) (~~~0)) (ac 0)) (~~~0)) (pC (.str "letter")))) (ac 0) (cG (Uo b.n.toNat)) [CL,-(.tuple (b.ls.map cU))] [])=.ok ((df b).map .int):=by have LX:aG (.tuple (b.ls.map cU)) (.int 0)=-(cU (bb b 0)):=Aj (i:=0) (ye (by ext));have:=mZ (ft:=ag (ah bV (ah aG (ah aG (ah aG (ac 1) (~~~0)) (ac 0)) (~~~0)) (pC (.str "letter")))) (cs:=[-(.tuple (b.ls.map cU))]) (λj=>bL ((bb b 0).getD j .none)) (Uo b.n.toNat) (by rw[Ul];ext) rfl (by intro j d;have d:=Ur.mp d;have a:aG (cU (bb b 0)) (nd j)=-(mG ((bb b 0).getD j .none)):=Aj (yo (by ext));have e:=Hb ((bb b 0).getD j .none);have f:=vz ((bb b 0).getD j .none);generalize (bb b 0).getD j .none=m at a e f;exact aw (aQ (dx:=.str (qp m)) (dy:=.str "letter") (aO (rv:=.fz (.str (qp m))) (aO (rv:=.fz (mG m)) (aO (rv:=.fz (cU (bb b 0))) (af rfl) av rfl rfl LX) (af rfl) rfl rfl a) av rfl rfl e) av rfl rfl f) rfl);rw[this];unfold df cG;rw[Uz];rfl
theorem zt(f:((bb b 0).length:Int)=b.n)(x:Int):decide (x∈df b)=qV b x:=by
 unfold qV df;rw[<-Xo];by_cases h:0<=x/\x<b.n
 .rw[a4 h,Xa]
  cases q:bL ((bb b 0).getD x.toNat .none)with
  |true=>exact a4 (TZ.mpr ⟨x.toNat,VJ.mpr ⟨Ur.mpr (by ext),q⟩,by ext⟩)
  |false=>
   refine a5 λz=>?_;obtain⟨j,a,e⟩:=TZ.mp z;have d:=(VJ.mp a).2;have e:j=x.toNat:=by ext
   subst e;rw[q]at d;cases d
 .rw[a5 h,Yz];refine a5 λz=>h ?_;obtain⟨j,a,e⟩:=TZ.mp z;have:=Ur.mp (VJ.mp a).1;ext
theorem IX(H:GF k b)(O:k<=400)(M:((bb b 0).length:Int)=b.n){p:Nat}(j:p<b.cs.length){d2:D}:dA [.tuple (b.cs.map cn),nd p,d2,.list ((df b).map .int)]=.ok (.fz (.bool (!xw b p))):=by
 have cl:=H.cl;have I:=H.cm _ (D9 j);have F:aG (.tuple (b.cs.map cn)) (nd p)=-(cn (gw b p)):=Aj (Hr j);have u:=fK (s:=(gw b p).2) (by have:=I.2.1;ext);have f:=Gw (gw b p).1 ((b.cs.take p).map (·.1));have A:=DU (b:=b) p;have B:=vj (b.cs.take p) (by rw[Uq];ext);have K:pF b p=decide ((gw b p).1∈(b.cs.take p).map (·.1)):=rfl;have l:xw b p=((!cK (gw b p).2|| !sO b (gw b p).1)||pF b p):=rfl;rw[<-K]at f;have E:=I.1;obtain⟨a,s,w⟩:∃a s,gw b p=(a,s):=⟨_,_,rfl⟩;rw[w]at F u f l E;dsimp only at u f l E;generalize pF b p=ob at*;have J:=Py a;have m:L9.mh [kD a]=ax (.ow ((jv a).map .int)):=by
  show(match oy (a.map lD.int)with
   |some i=>if i.length<64 then ax (RV.ow ((jv i).map .int))else CL
   |none=>CL)=_
  rw[pA];dsimp only;rw[ak (by ext)]
 have lst:zj [kD a]=ax (.ow (a.map .int)):=rfl;have t:=Cb a (jv a);have dd:L9.mr [kD a]=-(.int (L9.zc a:Int)):=by
  show(match oy (a.map lD.int)with
   |some i=>if i.length<=1000 then ax (RV.fz (.int (L9.zc i)))else CL
   |none=>CL)=_
  rw[pA];dsimp only;rw[ak (by ext)]
 have C:g9 (cf (gN 0) aU (ah iY (ac 0) (ac 1)) (a.map .int) [CL,-(.list ((df b).map .int))] [])=.ok (a.map λx=>lD.bool (qV b x)):=by refine ip a (by ext) rfl λx _=>?_;have hi:=Bl x (df b);rw[zt M]at hi;exact aQ (dx:=.int x) (dy:=.list ((df b).map .int)) (af rfl) (af rfl) rfl rfl hi
 have N:=j4 (qV b) a;have g:(decide ((a.length:Int)<2)|| !nq a)=(decide ((a.length:Int)<2)||(!decide (a=jv a)||decide ((L9.zc a:Int)<(a.length:Int)))):=by
  cases q:decide ((a.length:Int)<2)with
  |true=>rfl
  |false=>
   rw[UJ,UJ];have P:=J5 a;cases r:nq a with
   |true=>have j:=(mo a).mp r;have v:a.Pairwise (·<=·):=j.imp λh=>Int.le_of_lt h;have L:a.Nodup:=j.imp λh=>Int.ne_of_lt h;rw[a4 (nj (jE a).symm v (fR a)),a5 (by rw[(yJ a).mpr L];ext)];rfl
   |false=>
    symm;cases z:decide (a=jv a)with
    |false=>rfl
    |true=>
     have z:=a6 z;have v:a.Pairwise (·<=·):=z▸fR a;refine a4 ?_;by_cases y:L9.zc a=a.length
     .have:=(mo a).mpr (OV v ((yJ a).mp y));rw[this]at r;cases r
     .omega
 refine aY (ρ:=[-(.tuple (b.cs.map cn)),-(nd p),-(d2),-(.list ((df b).map .int)),CL,CL]) rfl ?_;unfold cQ;refine aM (pv:=.fz (cn (a,s))) (ρ3:=[-(.tuple (b.cs.map cn)),-(nd p),-(d2),-(.list ((df b).map .int)),-(kD a),-(ap s)]) (aO (rv:=.fz (cn (a,s))) (af rfl) (af rfl) rfl rfl F) rfl rfl ?_;have lv:(b8 bF {ac 4}) [-(.tuple (b.cs.map cn)),-(nd p),-(d2),-(.list ((df b).map .int)),-(kD a),-(ap s)]=.ok (.fz (.int (a.length:Int)),[-(.tuple (b.cs.map cn)),-(nd p),-(d2),-(.list ((df b).map .int)),-(kD a),-(ap s)]):=bC (rv:=.fz (.int (a.length:Int))) (ad (af rfl) ai) rfl J;refine aP (b:= !cK s||(decide ((a.length:Int)<2)||(!decide (a=jv a)||decide ((L9.zc a:Int)<(a.length:Int))))) (bu (b6 (aw (gn (ds:=[ap s]) (ad (af rfl) ai) rfl rfl u) rfl)) λ_=>bu (aw (aQ lv av rfl rfl (iO _ _)) rfl) λ_=>bu (aw (aQ (dx:=.list (a.map .int)) (dy:=.list ((jv a).map .int)) (bC (rv:=.ow (a.map .int)) (ad (af rfl) ai) rfl lst) (bC (rv:=.ow ((jv a).map .int)) (ad (af rfl) ai) rfl m) rfl rfl t) rfl) λ_=>aw (aQ (dx:=.int (L9.zc a:Int)) (dy:=.int (a.length:Int)) (L9.AG (rv:=.fz (.int (L9.zc a:Int))) (ad (af rfl) ai) rfl dd) lv rfl rfl (iO _ _)) rfl) (λq=>?_) λq=>ay ?_
 .refine aW (pv:=.fz (.bool Tx)) (rv:=.fz (.bool Tx)) av rfl ?_
  rw[<-g]at q;rw[l];unfold sO;cases z:cK s with
  |false=>rfl
  |true=>rw[z]at q;have q:(decide ((a.length:Int)<2)|| !nq a)=Ld:=q;rw[ak q];rfl
 .rw[<-g]at q
  have G:cK s=Ld:=by
   cases z:cK s with
   |true=>rfl
   |false=>rw[z]at q;cases q
  rw[G]at q;have q:(decide ((a.length:Int)<2)|| !nq a)=Tx:=q;have e:xw b p=(!a.all (qV b)||ob):=by rw[l,G];unfold sO;rw[q,ar Tz];rfl
  refine aP (b:= !a.all (qV b)) (b6 (aw (tV (ad (bg (dc (d:=kD a) (af rfl) rfl rfl) rfl C) ai) rfl N) rfl)) (λo=>?_) λo=>ay ?_
  .refine aW (pv:=.fz (.bool Tx)) (rv:=.fz (.bool Tx)) av rfl ?_;rw[e,o];rfl
  .rw[o]at e;have e:xw b p=ob:=e;rw[e];exact aR (pv:=.fz (.bool (!ob))) (aQ (dx:=kD a) (dy:=.list (((b.cs.take p).map (·.1)).map kD)) (af rfl) (bg (dc (d:=.tuple ((b.cs.take p).map cn)) (yj (rv:=.fz (.tuple ((b.cs.take p).map cn))) (af rfl) lZ (lQ (af rfl) rfl) rfl A) rfl rfl) rfl B) rfl rfl f) rfl rfl
end
section
variable{b:Gb}{k:Nat}
theorem yd(q:mW b=Tx){i:Nat}(hi:i<b.ls.length)(e:∀j,j<i->ir b j=CL){d:D}(hd:ir b i=ax d):iL b=.tuple [.int 0,nd i,d]:=by
 have f:qA b=ax i:=by unfold qA;rw[Vg];exact⟨by rw[hd];rfl,Ur.mpr hi,λj a=>by rw[e j a];rfl⟩
 unfold iL;rw[q,ar Tz,f];dsimp only;rw[hd];rfl
theorem xV(d:∀j,j<b.ls.length->ir b j=CL):qA b=CL:=by unfold qA;rw[VW];intro j a;rw[d j (Ur.mp a)];exact Tz
theorem LG(q:mW b=Tx)(d:∀j,j<b.ls.length->ir b j=CL){p:Nat}(a:p<b.cs.length)(f:∀j,j<p->xw b j=Tx)(hd:xw b p=Ld):iL b=.tuple [.int 1,nd p,.none]:=by
 have g:qQ b=ax p:=by unfold qQ;rw[Vg];exact⟨hd,Ur.mpr a,λj e=>by rw[f j e];rfl⟩
 unfold iL;rw[q,ar Tz,xV d,g]
theorem BT(q:mW b=Tx)(a:∀j,j<b.ls.length->ir b j=CL)(e:∀j,j<b.cs.length->xw b j=Tx):iL b=.none:=by
 have f:qQ b=CL:=by unfold qQ;rw[VW];intro j d;rw[e j (Ur.mp d)];exact Tz
 unfold iL;rw[q,ar Tz,xV a,f]
theorem sD{n j:Nat}{d:D}(hd:(cG (Uo n))[j]?=ax d):j<n/\d=nd j:=by obtain⟨x,f,rfl⟩:=fk hd;obtain⟨a,e⟩:=TN.mp f;rw[Y2]at e;rw[Ul]at a;exact⟨a,by rw[e]⟩
theorem AF(F:GF k b)(hk:k<=400):gu [gD b]=.ok (.fz (iL b)):=by
 have ll:=F.ll;have cl:=F.cl;have l1:=tF (b:=b);have l2:=xj (b:=b);have U:=kH (n:=b.ls.length) (by ext);have T:=kH (n:=b.cs.length) (by ext);refine aY (ρ:=[-(gD b),CL,CL,CL,CL,CL,CL,CL,CL]) rfl ?_;unfold iQ;refine aM (pv:=.fz (gD b)) (ρ3:=[-(gD b),-(.int b.n),-(.tuple (b.ls.map cU)),-(.tuple (b.cs.map cn)),-(.int b.wt),CL,CL,CL,CL]) (af rfl) rfl rfl ?_;have l:∀{f a t g:cv PV},(b8 bF {ac 2}) [-(gD b),-(.int b.n),-(.tuple (b.ls.map cU)),-(.tuple (b.cs.map cn)),-(.int b.wt),f,a,t,g]=.ok (.fz (.int (b.ls.length:Int)),[-(gD b),-(.int b.n),-(.tuple (b.ls.map cU)),-(.tuple (b.cs.map cn)),-(.int b.wt),f,a,t,g]):=bC (rv:=.fz (.int (b.ls.length:Int))) (ad (af rfl) ai) rfl l1;have C:∀{f a t g:cv PV},(b8 bF {ac 3}) [-(gD b),-(.int b.n),-(.tuple (b.ls.map cU)),-(.tuple (b.cs.map cn)),-(.int b.wt),f,a,t,g]=.ok (.fz (.int (b.cs.length:Int)),[-(gD b),-(.int b.n),-(.tuple (b.ls.map cU)),-(.tuple (b.cs.map cn)),-(.int b.wt),f,a,t,g]):=bC (rv:=.fz (.int (b.cs.length:Int))) (ad (af rfl) ai) rfl l2;have K:mW b=(!yz 1 5 b.n||(!yz 1 3 (b.ls.length:Int)||(decide ((b.cs.length:Int)>4)|| !yz 1 4 b.wt))):=by unfold mW tJ tG;rw[Bool.or_assoc]
 refine aP (b:=mW b) (by rw[K];exact bu (aw (aQ (dx:=.int b.n) (dy:=.list [.int 1,.int 2,.int 3,.int 4,.int 5]) (af rfl) (lM (ds:=[.int 1,.int 2,.int 3,.int 4,.int 5]) (by fail "ev") rfl (Uj rfl)) rfl rfl (Qt _)) rfl) λ_=>bu (aw (aQ (dx:=.int (b.ls.length:Int)) (dy:=.list [.int 1,.int 2,.int 3]) l (lM (ds:=[.int 1,.int 2,.int 3]) (by fail "ev") rfl (Uj rfl)) rfl rfl (Qz _)) rfl) λ_=>bu (aw (aQ C av rfl rfl (uA _ _)) rfl) λ_=>aw (aQ (dx:=.int b.wt) (dy:=.list [.int 1,.int 2,.int 3,.int 4]) (af rfl) (lM (ds:=[.int 1,.int 2,.int 3,.int 4]) (by fail "ev") rfl (Uj rfl)) rfl rfl (Qv _)) rfl) (λq=>?_) λq=>ay ?_
 .refine aW (pv:=.fz (.tuple [.int 0,.none,.none])) (rv:=.fz (.tuple [.int 0,.none,.none])) (gy (ds:=[.int 0,.none,.none]) (ad av (ad av (ad av ai))) rfl (Uj rfl)) rfl ?_;unfold iL;rw[q,ak rfl]
 obtain⟨n1,n2,n3,Y,n5⟩:=Be q;have M:d8 [.int b.n]=ax (cG (Uo b.n.toNat)):=ka (by ext) (by ext);refine fW (λi ρ=>(∃f a,ρ=[-(gD b),-(.int b.n),-(.tuple (b.ls.map cU)),-(.tuple (b.cs.map cn)),-(.int b.wt),f,a,CL,CL])/\∀j,j<i->ir b j=CL) (ds:=cG (Uo b.ls.length)) (ρ1:=[-(gD b),-(.int b.n),-(.tuple (b.ls.map cU)),-(.tuple (b.cs.map cn)),-(.int b.wt),CL,CL,CL,CL]) (iv (ds:=[nd b.ls.length]) (ad l ai) rfl U) ⟨⟨CL,CL,rfl⟩,λj h=>a7 h (Xt _)⟩ ?_ ?_
 .rintro i d ρ B ⟨⟨f,a,rfl⟩,hb⟩
  obtain⟨hi,rfl⟩:=sD B;have Z:=F.lm _ (wb hi);have ix:aG (.tuple (b.ls.map cU)) (nd i)=-(cU (bb b i)):=Aj (ye hi);have l3:=BU (bb b i);have u:∀{a:cv PV},(ah aG (ac 2) (ac 5)) [-(gD b),-(.int b.n),-(.tuple (b.ls.map cU)),-(.tuple (b.cs.map cn)),-(.int b.wt),-(nd i),a,CL,CL]=.ok (.fz (cU (bb b i)),[-(gD b),-(.int b.n),-(.tuple (b.ls.map cU)),-(.tuple (b.cs.map cn)),-(.int b.wt),-(nd i),a,CL,CL]):=aO (rv:=.fz (cU (bb b i))) (af rfl) (af rfl) rfl rfl ix;refine⟨_,rfl,?_⟩;refine aP (b:= !decide (((bb b i).length:Int)=b.n)) (ρ1:=[-(gD b),-(.int b.n),-(.tuple (b.ls.map cU)),-(.tuple (b.cs.map cn)),-(.int b.wt),-(nd i),a,CL,CL]) (aw (aQ (dx:=.int ((bb b i).length:Int)) (dy:=.int b.n) (bC (rv:=.fz (.int ((bb b i).length:Int))) (ad u ai) rfl l3) (af rfl) rfl rfl (kP _ _)) rfl) (λz=>?_) λz=>ay ?_
  .refine aW (pv:=.fz (.tuple [.int 0,nd i,.none])) (rv:=.fz (.tuple [.int 0,nd i,.none])) (gy (ds:=[.int 0,nd i,.none]) (ad av (ad (af rfl) (ad av ai))) rfl (Uj rfl)) rfl ?_;rw[UX,decide_eq_false_iff_not]at z;rw[yd q hi hb (d:=.none) (by unfold ir;rw[ar z])]
  .rw[Y3,decide_eq_true_iff]at z
   have P:(bb b i).length=b.n.toNat:=by ext
   refine wF (λj ρ=>(∃a,ρ=[-(gD b),-(.int b.n),-(.tuple (b.ls.map cU)),-(.tuple (b.cs.map cn)),-(.int b.wt),-(nd i),a,CL,CL])/\∀x,x<j->nY b i x=Tx) (ds:=cG (Uo b.n.toNat)) (ρ1:=[-(gD b),-(.int b.n),-(.tuple (b.ls.map cU)),-(.tuple (b.cs.map cn)),-(.int b.wt),-(nd i),a,CL,CL]) (iv (ds:=[.int b.n]) (ad (af rfl) ai) rfl M) ⟨⟨a,rfl⟩,λx h=>a7 h (Xt _)⟩ ?_ ?_
   .rintro j d ρ B ⟨⟨a,rfl⟩,hm⟩
    obtain⟨Q,rfl⟩:=sD B;have o:j<(bb b i).length:=by ext
    have v:aG (cU (bb b i)) (nd j)=-(mG ((bb b i).getD j .none)):=Aj (yo o);have N:=uK (L:=(i:Int)) (nL:=(b.ls.length:Int)) (by ext) (Z.2 _ (Ci o));have A:nY b i j= !pI ((bb b i).getD j .none) (i:Int) (b.ls.length:Int):=rfl;generalize (bb b i).getD j .none=m at v N A;refine⟨_,rfl,eh (b:=nY b i j) (ρ1:=[-(gD b),-(.int b.n),-(.tuple (b.ls.map cU)),-(.tuple (b.cs.map cn)),-(.int b.wt),-(nd i),-(nd j),CL,CL]) (by rw[A];exact b6 (aw (gn (ds:=[mG m,nd i,.int (b.ls.length:Int)]) (ad (aO (rv:=.fz (mG m)) u (af rfl) rfl rfl v) (ad (af rfl) (ad l ai))) rfl rfl N) rfl)) (λy=>?_) λy=>cV ⟨⟨_,rfl⟩,λx E=>?_⟩⟩
    .refine aR (pv:=.fz (.tuple [.int 0,nd i,nd j])) (rv:=.fz (.tuple [.int 0,nd i,nd j])) (gy (ds:=[.int 0,nd i,nd j]) (ad av (ad (af rfl) (ad (af rfl) ai))) rfl (Uj rfl)) rfl ?_
     have J:nJ b i=ax j:=by unfold nJ;rw[Vg];exact⟨y,Ur.mpr o,λx E=>by rw[hm x E];rfl⟩
     rw[yd q hi hb (d:=nd j) (by unfold ir;rw[ak z,J];rfl)]
    .by_cases H:x<j
     .exact hm x H
     .rw[show x=j by ext];exact y
   .rintro ρ ⟨⟨a,rfl⟩,hm⟩
    rw[bS,Ul]at hm;refine⟨⟨_,_,rfl⟩,λx E=>?_⟩;by_cases I:x<i
    .exact hb x I
    .obtain rfl:x=i:=by ext
     have J:nJ b x=CL:=by unfold nJ;rw[VW];intro j Q;rw[hm j (by have:=Ur.mp Q;ext)];exact Tz
     unfold ir;rw[ak z,J];rfl
 .rintro ρ ⟨⟨f,a,rfl⟩,hb⟩
  rw[bS,Ul]at hb;have R:=(HW (hb 0 (by ext))).1;have X:=EC (b:=b) (by ext) R Y;refine aM (pv:=.ow ((df b).map .int)) (ρ3:=[-(gD b),-(.int b.n),-(.tuple (b.ls.map cU)),-(.tuple (b.cs.map cn)),-(.int b.wt),f,a,ax (.ow ((df b).map .int)),CL]) (bg (iv (ds:=[.int b.n]) (ad (af rfl) ai) rfl M) rfl X) rfl rfl ?_;refine fW (λp ρ=>(∃r g,(r=.ow ((df b).map .int)\/r=.fz (.list ((df b).map .int)))/\ρ=[-(gD b),-(.int b.n),-(.tuple (b.ls.map cU)),-(.tuple (b.cs.map cn)),-(.int b.wt),f,a,ax r,g])/\∀j,j<p->xw b j=Tx) (ds:=cG (Uo b.cs.length)) (ρ1:=[-(gD b),-(.int b.n),-(.tuple (b.ls.map cU)),-(.tuple (b.cs.map cn)),-(.int b.wt),f,a,ax (.ow ((df b).map .int)),CL]) (iv (ds:=[nd b.cs.length]) (ad C ai) rfl T) ⟨⟨_,CL,.inl rfl,rfl⟩,λj h=>a7 h (Xt _)⟩ ?_ ?_
  .rintro p d ρ B ⟨⟨r,g,w,rfl⟩,hc⟩
   obtain⟨O,rfl⟩:=sD B;have S:=IX F hk R O (d2:=.int b.n);refine⟨_,rfl,eh (b:=xw b p) (ρ1:=[-(gD b),-(.int b.n),-(.tuple (b.ls.map cU)),-(.tuple (b.cs.map cn)),-(.int b.wt),f,a,-(.list ((df b).map .int)),-(nd p)]) ?_ (λy=>?_) λy=>cV ⟨⟨_,_,.inr rfl,rfl⟩,λx E=>?_⟩⟩
   .have e:xw b p= !!xw b p:=(Bool.not_not _).symm
    rw[e];generalize (df b).map lD.int=pl at*;rcases w with rfl|rfl
    .exact b6 (aw (gn (ds:=[.tuple (b.cs.map cn),nd p,.int b.n,.list pl]) (ad (af rfl) (ad (af rfl) (ad (af rfl) (ad (bQ rfl) ai)))) rfl rfl S) rfl)
    .exact b6 (aw (gn (ds:=[.tuple (b.cs.map cn),nd p,.int b.n,.list pl]) (ad (af rfl) (ad (af rfl) (ad (af rfl) (ad (af rfl) ai)))) rfl rfl S) rfl)
   .refine aR (pv:=.fz (.tuple [.int 1,nd p,.none])) (rv:=.fz (.tuple [.int 1,nd p,.none])) (gy (ds:=[.int 1,nd p,.none]) (ad av (ad (af rfl) (ad av ai))) rfl (Uj rfl)) rfl ?_;rw[LG q hb O hc y]
   .by_cases G:x<p
    .exact hc x G
    .rw[show x=p by ext];exact y
  .rintro ρ ⟨⟨r,g,w,rfl⟩,hc⟩;rw[bS,Ul]at hc;refine aR (pv:=.fz .none) (rv:=.fz .none) av rfl ?_;rw[BT q hb hc]
theorem Hl{m:Mg}(h:MF m):lD.canLay0 (mG m)=Ld:=by
 cases m with
 |UP s=>show(lD.strOk "letter"&&(lD.strOk (tx s)&&Ld))=Ld;rw[i9 h.2,show lD.strOk "letter"=Ld by left];rfl
 |Vh n=>show(lD.strOk "layer"&&(Ld&&Ld))=Ld;rw[show lD.strOk "layer"=Ld by left];rfl
 |XF s n=>show(lD.strOk "tap"&&(lD.strOk (tx s)&&(Ld&&Ld)))=Ld;rw[i9 h.2,show lD.strOk "tap"=Ld by left];rfl
 |once n=>show(lD.strOk "once"&&(Ld&&Ld))=Ld;rw[show lD.strOk "once"=Ld by left];rfl
 |none=>show(lD.strOk "none"&&Ld)=Ld;rw[show lD.strOk "none"=Ld by left];rfl
 |below=>show(lD.strOk "below"&&Ld)=Ld;rw[show lD.strOk "below"=Ld by left];rfl
theorem kz{α:Type}{f:α->D}{l:ck α}(h:∀a∈l,lD.canLay0 (f a)=Ld):lD.canLayAll0 (l.map f)=Ld:=by
 induction l with
 |nil=>rfl
 |cons a r d=>show(lD.canLay0 (f a)&&lD.canLayAll0 (r.map f))=Ld;rw[h a TC,d λx e=>h x (TH _ e)];rfl
theorem oK{α:Type}{f:α->D}{n:Nat}{l:ck α}(h:∀a∈l,lD.depth (f a)<=n):lD.depthAll (l.map f)<=n:=by
 induction l with
 |nil=>exact Vd _
 |cons a r d=>show max (lD.depth (f a)) (lD.depthAll (r.map f))<=n;have i:=h a TC;have g:=d λx e=>h x (TH _ e);ext
end
def jA(c:Nat):Bool:=decide (48<=c)&&decide (c<=57)
def bf(s:ck Nat):cv Int:=match s with
 |[a]=>if jA a=Ld then ax ((a:Int) - 48)else CL
 |[a,b]=>if(jA a&&jA b)=Ld then(if a=48 then CL else ax (10*((a:Int) - 48)+((b:Int) - 48)))else CL
 |_=>CL
def oI:cv Int->D
 |some i=>.int i
 |none=>.none
theorem yG{c:Nat}(h:jA c=Ld):∃k,k<10/\c=48+k:=by unfold jA at h;simp only[Tu,decide_eq_true_iff]at h;exact⟨c - 48,by ext,by ext⟩
theorem Es:("0123456789":Str).cps.toList=[48,49,50,51,52,53,54,55,56,57]:=by left
theorem Kg(c:Nat):decide (c∈("0123456789":Str).cps.toList)=jA c:=by rw[Es];unfold jA;rw[VN];simp only[TL,TY,or_false,Tu,decide_eq_true_iff];ext
theorem Mj(c:Nat):J9 (ap [c]) (.str "0123456789")=-(.bool (jA c)):=by show ax (RV.fz (.bool (!(Um.Str.occurrences ("0123456789":Str) ⟨#[c]⟩ 0 ("0123456789":Str).length 1).isEmpty)))=_;rw[agg,Kg c]
theorem Op:∀k:Nat,k<10->V7 ⟨#[48+k]⟩=ax (k:Int):=by left
theorem NO:∀k:Nat,k<10->∀j:Nat,j<10->V7 ⟨#[48+k,48+j]⟩=ax (10*(k:Int)+j):=by left
theorem xG{z:Str}{n:Int}(h:V7 z=ax n)(a:z.length<=640):vG [.str z]=-(.int n):=by
 show(match V7 z with
  |some n=>if z.length<=640 then ax (RV.fz (.int n))else CL
  |none=>CL)=_
 rw[h];exact ak a
theorem Qp(c:Nat):rg (.str "0") (.str (tx [c]))=-(.bool (decide (48<=c))):=by show ax (RV.fz (.bool (!decide ([c]<("0":Str).cps.toList))))=_;rw[show("0":Str).cps.toList=[48] by left];congr 3;rw[<-decide_not];apply decide_eq_decide.mpr;rw[W6];simp
theorem Qn(c:Nat):rg (.str (tx [c])) (.str "9")=-(.bool (decide (c<=57))):=by show ax (RV.fz (.bool (!decide (("9":Str).cps.toList<[c]))))=_;rw[show("9":Str).cps.toList=[57] by left];congr 3;rw[<-decide_not];apply decide_eq_decide.mpr;rw[W6];simp
abbrev iz(s:ck Nat):Prop:=∀c∈s,c<1114112
theorem LX{c:Nat}{r:ck Nat}(h:(c::r).length<=1000):AJ (ap (c::r)) (.int 0)=-(ap [c]):=by
 show(if(tx (c::r)).length<=1000000 then((mL (c::r) 0).map λc=>RV.fz (.str ⟨#[c]⟩))else CL)=_;have:mL (c::r) 0=ax c:=by unfold mL Ei;rw[ak (ahS 0),ak (by simp only[TJ];ext)];rfl
 rw[ak (by rw[dU];ext),this];rfl
theorem iH{a b:ck Nat}(ha:iz a)(d:iz b):bV (ap a) (ap b)=-(.bool (decide (a=b))):=by show(if((lD.strOk (tx a)&&decide (0<=64))&&lD.strOk (tx b))=Ld then ax (RV.fz (.bool (lD.eqv (ap a) (ap b))))else CL)=_;rw[i9 ha,i9 d,tq];rfl
theorem nz{a b:ck Nat}(ha:iz a)(d:iz b):iG (ap a) (ap b)=-(.bool (!decide (a=b))):=by show(if((lD.strOk (tx a)&&decide (0<=64))&&lD.strOk (tx b))=Ld then ax (RV.fz (.bool (!lD.eqv (ap a) (ap b))))else CL)=_;rw[i9 ha,i9 d,tq];rfl
theorem Rx:(lD.str "0")=ap [48]:=by show lD.str _=lD.str _;congr 1
theorem uG{c:Nat}(h:c<1114112):iz [c]:=λx a=>by rw[TX.mp a];exact h
theorem mS(s:ck Nat):((!(decide ((1:Int)<=(s.length:Int))&&decide ((s.length:Int)<=2))|| !s.all jA)=Ld/\bf s=CL)\/(∃a,s=[a]/\jA a=Ld)\/∃a b,s=[a,b]/\jA a=Ld/\jA b=Ld:=by
 match s with
 |[]=>exact .inl ⟨rfl,rfl⟩
 |[a]=>
  cases q:jA a with
  |true=>exact .inr (.inl ⟨a,rfl,q⟩)
  |false=>exact .inl ⟨by rw[UR,q];rfl,by show(if jA a=Ld then ax ((a:Int) - 48)else CL)=CL;rw[q];rfl⟩
 |[a,b]=>
  cases q:jA a&&jA b with
  |true=>rw[Tu]at q;exact .inr (.inr ⟨a,b,rfl,q⟩)
  |false=>
   refine .inl ⟨?_,?_⟩
   .rw[UR,UR,List.all_nil,YW,q];rfl
   .show(if(jA a&&jA b)=Ld then(if a=48 then CL else ax (10*((a:Int) - 48)+((b:Int) - 48)))else CL)=CL;rw[q];rfl
 |a::b::c::r=>refine .inl ⟨?_,rfl⟩;rw[Vt];apply a8;rw[UX,Bool.and_eq_false_iff];right;apply a5;simp only[TJ];ext
theorem Pa{c:Nat}(h:jA c=Ld):c<1114112:=by obtain⟨k,a,rfl⟩:=yG h;ext
theorem Ih{a:Nat}(h:jA a=Ld):vG [ap [a]]=-(oI (bf [a]))/\bf [a]=ax ((a:Int) - 48):=by
 have e:bf [a]=ax ((a:Int) - 48):=by show(if jA a=Ld then ax ((a:Int) - 48)else CL)=_;rw[h];rfl
 obtain⟨k,b,rfl⟩:=yG h;refine⟨?_,e⟩;rw[e];refine(xG (z:=tx [48+k]) (Op k b) (by show 1<=640;decide)).trans ?_;show ax (RV.fz (.int _))=ax (RV.fz (.int _));congr 3;ext
theorem BK{a b:Nat}(h:jA a=Ld)(h':jA b=Ld)(n:a≠48):vG [ap [a,b]]=-(oI (bf [a,b]))/\bf [a,b]=ax (10*((a:Int) - 48)+((b:Int) - 48)):=by
 have e:bf [a,b]=ax (10*((a:Int) - 48)+((b:Int) - 48)):=by show(if(jA a&&jA b)=Ld then(if a=48 then CL else ax (10*((a:Int) - 48)+((b:Int) - 48)))else CL)=_;rw[h,h',U7,ak rfl,ar n]
 obtain⟨k,d,rfl⟩:=yG h;obtain⟨j,f,rfl⟩:=yG h';refine⟨?_,e⟩;rw[e];refine(xG (z:=tx [48+k,48+j]) (NO k d j f) (by show 2<=640;decide)).trans ?_;show ax (RV.fz (.int _))=ax (RV.fz (.int _));congr 3;ext
theorem HB{b:Nat}:bf [48,b]=CL:=by
 show(if(jA 48&&jA b)=Ld then(if 48=48 then CL else ax (10*((48:Int) - 48)+((b:Int) - 48)))else CL)=CL;split
 .rfl
 .rfl
theorem kt{s:ck Nat}(h:s.length<=1000):bG [ap s]=.ok (.fz (oI (bf s))):=by
 have k:=mK h;have all:ag (b8 mV {bE 1 [] (km (ac 0)) (gN 0) aU (ah J9 (ac 0) (pC (.str "0123456789")))}) [-(ap s)]=.ok (s.all jA,[-(ap s)]):=by refine aw (bC (rv:=.fz (.bool (s.all jA))) (ad (bg (uU (af rfl) rfl) rfl (ip (f:=λc=>ap [c]) (g:=λc=>lD.bool (jA c)) s (by ext) rfl λc _=>?_)) ai) rfl (j4 jA s)) rfl;exact aO (af rfl) av rfl rfl (Mj c)
 refine aY (ρ:=[-(ap s)]) rfl ?_;unfold eK;refine aP (b:= !(decide ((1:Int)<=(s.length:Int))&&decide ((s.length:Int)<=2))|| !s.all jA) (bu (b6 (by fail "ev")) λ_=>b6 all) (λq=>?_) (λq=>ay ?_)
 .refine aW av rfl ?_
  rcases mS s with⟨_,e⟩|⟨a,rfl,e⟩|⟨a,b,rfl,e,d⟩
  .rw[e];rfl
  .rw[UR,e]at q;cases q
  .rw[UR,UR,e,d]at q;cases q
 .rcases mS s with⟨e,_⟩|⟨a,rfl,e⟩|⟨a,b,rfl,e,d⟩
  .rw[e]at q;cases q
  .have i:=(Ih e).1;refine aP (b:=Tx) (bR (a:=Tx) (b:=Tx) (by fail "ev") λz=>by cases z) (λz=>by cases z) λ_=>ay ?_;fail "go";rfl
  .have l:=LX (c:=a) (r:=[b]) (by show 2<=1000;decide)
   have j:=iH (uG (Pa e)) (uG (c:=48) (by decide));rw[<-Rx]at j;refine aP (b:=decide (([a]:ck Nat)=[48])) (bR (a:=Ld) (by fail "ev") λ_=>by fail "ev") (λz=>?_) λz=>ay ?_
   .refine aW av rfl ?_;cases(a6 z);rw[HB];rfl
   .have i:=(BK e d λy=>of_decide_eq_false z (by rw[y])).1;fail "go";rfl
theorem NM(x:Int):jM (.int x) (.list [.int 1,.int 2])=-(.bool (!(decide (1<=x)&&decide (x<=2)))):=by refine(ml x [1,2]).trans ?_;congr 4;rw[VN];simp only[TL,TY,or_false,Tu,decide_eq_true_iff];ext
theorem DK{c:Nat}{fa:FE}{ρ:aD}(h:fa ρ=.ok (.fz (ap [c]),ρ)):cx rg rg (pC (.str "0")) fa (pC (.str "9")) ρ=.ok (.fz (.bool (jA c)),ρ):=
 gZ (dy:=ap [c]) av h av rfl rfl rfl (Qp c) λ_=>Qn c
theorem iA{s:ck Nat}(h:s.length<=1000)(j:iz s):bJ [ap s]=.ok (.fz (oI (bf s))):=by
 have o:=mK h;have n:=NM (s.length:Int);have all:ag (b8 mV {bE 1 [] (km (ac 0)) (gN 0) aU (cx rg rg (pC (.str "0")) (ac 0) (pC (.str "9")))}) [-(ap s)]=.ok (s.all jA,[-(ap s)]):=by refine aw (bC (rv:=.fz (.bool (s.all jA))) (ad (bg (uU (af rfl) rfl) rfl (ip (f:=λc=>ap [c]) (g:=λc=>lD.bool (jA c)) s (by ext) rfl λc _=>?_)) ai) rfl (j4 jA s)) rfl;exact DK (af rfl)
 have m:di (ag (ah bV (b8 nI {ac 0}) (~~~2))) (ag (ah bV (ah AJ (ac 0) (~~~0)) (pC (.str "0")))) [-(ap s)]=.ok (decide ((s.length:Int)=2)&&decide (s.head? =ax 48),[-(ap s)]):=by
  refine bR (by fail "ev") λz=>?_;have z:=a6 z
  match s,z,j with
  |a::r,z,j=>
   have p:=LX (c:=a) (r:=r) h;have l:=iH (uG (j a TC)) (uG (c:=48) (by decide));rw[<-Rx]at l;have:decide ((a::r).head? =ax 48)=decide (([a]:ck Nat)=[48]):=by apply decide_eq_decide.mpr;simp
   rw[this];fail "ev"
  |[],z,_=>cases z
 refine aY (ρ:=[-(ap s)]) rfl ?_;unfold dH;refine aP (b:= !(decide ((1:Int)<=(s.length:Int))&&decide ((s.length:Int)<=2))||(decide ((s.length:Int)=2)&&decide (s.head? =ax 48))) (bu (by fail "ev") λ_=>m) (λq=>?_) (λq=>ay (aP (b:= !s.all jA) (b6 all) (λd=>?_) (λd=>ay ?_)))
 .refine aW av rfl ?_
  rcases mS s with⟨_,e⟩|⟨a,rfl,e⟩|⟨a,b,rfl,e,i⟩
  .rw[e];rfl
  .cases q
  .cases(show ax a=ax 48 by simpa using q);rw[HB];rfl
 .refine aW av rfl ?_
  rcases mS s with⟨_,e⟩|⟨a,rfl,e⟩|⟨a,b,rfl,e,i⟩
  .rw[e];rfl
  .rw[UR,e]at d;cases d
  .rw[UR,UR,e,i]at d;cases d
 .rw[YB]at q
  rcases mS s with⟨e,_⟩|⟨a,rfl,e⟩|⟨a,b,rfl,e,i⟩
  .rw[q.1,d]at e;cases e
  .have k:=(Ih e).1;fail "go";rfl
  .have k:=(BK e i λy=>by subst y;cases q.2).1;fail "go";rfl
theorem B1(a b n:Nat):Um.Str.strSliceIndices (ax (a:Int)) (ax (b:Int)) 1 n=Um.Str.strSliceIndices (ax (Nat.cast (min a n):Int)) (ax (Nat.cast (min b n):Int)) 1 n:=by
 unfold Um.Str.strSliceIndices
 grind
theorem oB{w:ck Nat}(h:w.length<=1000){a b:Nat}(g:a<=b):aX (.str (tx w)) (ax (a:Int)) (ax (b:Int))=-(.str (tx ((w.drop a).take (b - a)))):=by
 have d:=dU w;have f:Txt.slice (tx w) (ax (a:Int)) (ax (b:Int))=tx ((w.drop a).take (b - a)):=by
  have e:=agh (tx w) (a:=min a w.length) (b:=min b w.length) (by ext) (by ext);rw[d,<-B1]at e;have j:((tx w).cps.toList.drop (min a w.length)).take (min b w.length - min a w.length)=(w.drop a).take (b - a):=by
   show(w.drop (min a w.length)).take (min b w.length - min a w.length)=_;by_cases q:a<=w.length
   .rw[Z9 q,abE,UB];ext
   .rw[VR (by ext),VR (by ext),aaP,aaP]
  rw[j]at e;unfold Txt.slice;rw[d];split
  .rename_i z
   rw[Tu]at z;have z:=eq_of_beq z.2;have l:=PySem.sliceIndices_le (ax (a:Int)) (ax (b:Int)) w.length;have k:(aao (λi=>(tx w).cps[i]?) (Um.Str.strSliceIndices (ax (a:Int)) (ax (b:Int)) 1 w.length)).length=((w.drop a).take (b - a)).length:=by rw[e]
   rw[B1,agi (by ext) (by ext),Tv,Ul]at z;rw[Va (by rw[UB];ext)];by_cases q:a=0
   .rw[q];rfl
   .rw[List.length_eq_zero_iff.mp (show w.length=0 by ext),List.drop_nil]
  .show(⟨(aao (λi=>(tx w).cps[i]?) _).toArray⟩:Str)=_;rw[e];rfl
 show(if(tx w).length<=1000000 then ax (RV.fz (.str (Txt.slice (tx w) (ax (a:Int)) (ax (b:Int)))))else CL)=_
 grind
theorem NA(b:Int)(n:Nat):Um.Str.strSliceIndices CL (ax b) 1 n=Um.Str.strSliceIndices (ax ((0:Nat):Int)) (ax b) 1 n:=by
 unfold Um.Str.strSliceIndices;simp;congr 1
 try ext
theorem Nt(a:Nat)(n:Nat):Um.Str.strSliceIndices (ax (a:Int)) CL 1 n=Um.Str.strSliceIndices (ax (a:Int)) (ax (n:Int)) 1 n:=by
 unfold Um.Str.strSliceIndices
 grind
theorem CV{x:Str}{lo hi a b:cv Int}(h:Um.Str.strSliceIndices lo hi 1 x.length=Um.Str.strSliceIndices a b 1 x.length):aX (.str x) lo hi=aX (.str x) a b:=by show(if x.length<=1000000 then ax (RV.fz (.str (Txt.slice x lo hi)))else CL)=(if x.length<=1000000 then ax (RV.fz (.str (Txt.slice x a b)))else CL);unfold Txt.slice;rw[h]
theorem jq{w:ck Nat}(h:w.length<=1000)(b:Nat):aX (ap w) CL (ax (b:Int))=-(ap (w.take b)):=by rw[CV (NA _ _),oB h (Vd b)];rfl
theorem fD{w:ck Nat}(h:w.length<=1000)(a:Nat):aX (ap w) (ax (a:Int)) CL=-(ap (w.drop a)):=by
 rw[CV (Nt _ _),dU];have e:=CV (x:=tx w) (B1 a w.length (tx w).length);rw[dU]at e;rw[e,oB h (by ext)];congr 4;by_cases q:a<=w.length
 .rw[Z9 q,Va (by simp_all)]
 .rw[VR (by ext),VR (i:=a) (by ext),aaP]
theorem uD(c:Nat)(w:ck Nat):kG (tx w) [ap [c]]=-(.bool (decide (w[0]?=ax c))):=by show ax (RV.fz (.bool (decide (0+(tx [c]).length<=(tx w).length)&&Um.Str.subAt (tx w) (tx [c]) 0)))=_;congr 3;rw[VN,Tu,decide_eq_true_iff,decide_eq_true_iff];exact Xu (tx w) c 0
theorem Jc(c:Nat)(w:ck Nat):∃m:Int,vF (tx w) [ap [c]]=-(.int m)/\((m= -1/\∀i:Nat,¬w[i]?=ax c)\/∃i:Nat,m=i/\w[i]?=ax c):=by
 refine⟨_,rfl,?_⟩;unfold Txt.find;rcases agj (tx w) (tx [c]) 1 (TQ 1)with⟨e,n⟩|⟨i,r,e,n,_⟩
 .rw[e];exact .inl ⟨rfl,λi hi=>n i ((Xu (tx w) c i).mpr hi)⟩
 .rw[e];exact .inr ⟨i,rfl,(Xu (tx w) c i).mp n⟩
def jh(s:ck Nat):cv Mg:=if s=[46]then ax .none else if s=[95]then ax .below else if cK s=Ld then ax (.UP s)else if s[0]?=ax 126 then(bf (s.drop 1)).map .once else if s[0]?=ax 62 then(bf (s.drop 1)).map .Vh else if(cK (s.take 1)&&decide ((s.drop 1).take 1=[62]))=Ld then(bf (s.drop 2)).map (.XF (s.take 1))else CL
def oM:cv Mg->D
 |some m=>mG m
 |none=>.none
theorem Hx:lD.str "."=ap [46]:=by show lD.str _=lD.str _;congr 1
theorem CD:lD.str "_"=ap [95]:=by show lD.str _=lD.str _;congr 1
theorem rG:lD.str "~"=ap [126]:=by show lD.str _=lD.str _;congr 1
theorem Il:lD.str ">"=ap [62]:=by show lD.str _=lD.str _;congr 1
theorem gW{f:Str->ck D->cv RV}{a:FE}{fa:FA}{ρ ρ1 ρ2:aD}{pv:PV}{z:Str}{ps:ck PV}{ds:ck D}{rv:RV}(d:a ρ=.ok (pv,ρ1))(b:rj pv=ax z)(ha:fa ρ1=.ok (ps,ρ2))(hd:jX ρ2 ps=ax ds)(e:f z ds=ax rv):nA f a fa ρ=.ok (rv.pv,ρ2):=by unfold nA;rw[d,fo];dsimp only;rw[b,aq,fo,ha,fo,hd,aq,fo,e,aq,fo]
theorem gA{ds:ck D}(a:lD.canLayAll0 ds=Ld):ci [.list ds]=.ok (.fz (if(ds.any λe=>lD.eqv e .none)=Ld then .none else .tuple ds)):=by
 have d:iY .none (.list ds)=-(.bool (ds.any λe=>lD.eqv e .none)):=by show(if(jP .none&&lD.canLayAll0 ds)=Ld then ax (RV.fz (.bool (ds.any λe=>lD.eqv e .none)))else CL)=_;rw[a,show jP .none=Ld from rfl,U7,ak rfl]
 refine aY (ρ:=[-(.list ds)]) rfl ?_;unfold iM;refine aP (b:=ds.any λe=>lD.eqv e .none) (by fail "ev") (λq=>aW av rfl (by rw[q];rfl)) (λq=>ay ?_);rw[q];fail "go";rfl
theorem DA{w:Str}(a:lD.strOk w=Ld)(o:cv Int):ci [.list [.str w,oI o]]=.ok (.fz (match o with|some n=>.tuple [.str w,.int n]|none=>.none)):=by
 cases o with
 |none=>exact gA (by show(lD.strOk w&&Ld)=Ld;rw[a];rfl)
 |some n=>exact gA (by show(lD.strOk w&&Ld)=Ld;rw[a];rfl)
theorem K7{w z:Str}(b:lD.strOk w=Ld)(a:lD.strOk z=Ld)(o:cv Int):ci [.list [.str w,.str z,oI o]]=.ok (.fz (match o with|some n=>.tuple [.str w,.str z,.int n]|none=>.none)):=by
 cases o with
 |none=>exact gA (by show(lD.strOk w&&(lD.strOk z&&Ld))=Ld;rw[b,a];rfl)
 |some n=>exact gA (by show(lD.strOk w&&(lD.strOk z&&Ld))=Ld;rw[b,a];rfl)
theorem qC{s:ck Nat}(h:iz s)(n:Nat):iz (s.drop n):=λc a=>h c (Xk a)
theorem ki{s:ck Nat}(h:iz s)(n:Nat):iz (s.take n):=λc a=>h c (WA a)
theorem Af{s:ck Nat}(h:s.length<=1000)(d:iz s):dY [ap s]=.ok (.fz (oM (jh s))):=by
 have j:=iH d (uG (c:=46) (by decide));have i:=iH d (uG (c:=95) (by decide));have p:=gS h;have f:=uD 126 s;have e:=uD 62 s;have v:aX (ap s) (ax 1) CL=-(ap (s.drop 1)):=fD h 1;have u:aX (ap s) (ax 2) CL=-(ap (s.drop 2)):=fD h 2;have l:aX (ap s) CL (ax 1)=-(ap (s.take 1)):=jq h 1;have k:aX (ap s) (ax 1) (ax 2)=-(ap ((s.drop 1).take 1)):=oB h (show 1<=2 by decide);have n:=kt (s:=s.drop 1) (by rw[UB];ext);have m:=kt (s:=s.drop 2) (by rw[UB];ext);have o:=gS (s:=s.take 1) (by rw[Uq];ext);have g:=iH (ki (qC d 1) 1) (uG (c:=62) (by decide));have B:=DA (w:= "once") (by left) (bf (s.drop 1));have A:=DA (w:= "layer") (by left) (bf (s.drop 1));rw[<-Hx]at j;rw[<-CD]at i;rw[<-rG]at f;rw[<-Il]at e g;refine aY (ρ:=[-(ap s)]) rfl ?_;unfold dQ;unfold jh;refine aP (by fail "ev") (λq=>?_) (λq=>ay ?_)
 .rw[ak (a6 q)];fail "go";rfl
 rw[ar (of_decide_eq_false q)];refine aP (by fail "ev") (λq=>?_) (λq=>ay ?_)
 .rw[ak (a6 q)];fail "go";rfl
 rw[ar (of_decide_eq_false q)];refine aP (by fail "ev") (λq=>?_) (λq=>ay ?_)
 .rw[ak q];fail "go";rfl
 rw[ar (by rw[q];exact Tz)];refine aP (aw (gW (af rfl) rfl (ad av ai) rfl f) rfl) (λq=>?_) (λq=>ay ?_)
 .rw[ak (a6 q)];fail "go";cases bf (s.drop 1)<;>rfl
 rw[ar (of_decide_eq_false q)];refine aP (aw (gW (af rfl) rfl (ad av ai) rfl e) rfl) (λq=>?_) (λq=>ay ?_)
 .rw[ak (a6 q)];fail "go";cases bf (s.drop 1)<;>rfl
 rw[ar (of_decide_eq_false q)];refine aP (b:=cK (s.take 1)&&decide ((s.drop 1).take 1=[62])) (bR (by fail "ev") λ_=>by fail "ev") (λq=>?_) (λq=>ay ?_)
 .rw[ak q]
  rw[Tu]at q;cases s with
  |nil=>exact a7 q.1 (by decide)
  |cons a r=>have t:=LX (c:=a) (r:=r) h;have y:=K7 (w:= "tap") (z:=tx [a]) (by left) (i9 (uG (d a TC))) (bf ((a::r).drop 2));fail "go";cases bf ((a::r).drop 2)<;>rfl
 .rw[ar (by rw[q];exact Tz)];fail "go";rfl
theorem Q3{s:ck Nat}(b:iz s):iY (ap s) (.list [.str ".",.str "_"])=-(.bool (decide (s∈[[46],[95]]))):=by
 rw[Hx,CD];exact Ma (L:=[[46],[95]]) b λl a=>by
  simp only[TL,TY,or_false]at a;rcases a with rfl|rfl
  .exact uG (by decide)
  .exact uG (by decide)
theorem BP{r:ck Nat}{j:Nat}(h:r[j]?=ax 62):bf r=CL:=by
 rcases mS r with⟨_,e⟩|⟨a,rfl,e⟩|⟨a,b,rfl,e,d⟩
 .exact e
 .match j,h with
  |0,h=>cases h;cases e
 .match j,h with
  |0,h=>cases h;cases e
  |1,h=>cases h;cases d
theorem LK{r:ck Nat}{j:Nat}(h:r[j]?=ax 62):cK r=Tx:=by
 cases q:cK r with
 |false=>rfl
 |true=>
  unfold cK at q;rw[Tu]at q;obtain⟨c,rfl⟩:=tw (a6 q.1)
  match j,h with
  |0,h=>cases h;cases q.2
theorem Rp{s:ck Nat}{i:Nat}(h:s[i]?=ax 62):jh s=if i=0 then(bf (s.drop 1)).map .Vh else if cK (s.take i)=Ld then(bf (s.drop (i+1))).map (.XF (s.take i))else CL:=by
 have l:¬s=[46]:=λz=>by subst z;match i,h with|0,h=>cases h
 have k:¬s=[95]:=λz=>by subst z;match i,h with|0,h=>cases h
 unfold jh;rw[ar l,ar k,ar (by rw[LK h];exact Tz)];cases i with
 |zero=>rw[ak rfl,ar (by rw[h];exact λz=>by cases z),ak h]
 |succ i=>
  rw[ar (adQ i)];have e:bf (s.drop 1)=CL:=BP (j:=i) (by rw[XH,Zr];exact h);rw[e];cases s with
  |nil=>cases h
  |cons a r=>
   by_cases q:cK ((a::r).take (i+1))=Ld
   .rw[ak q]
    unfold cK at q;rw[Tu]at q;obtain⟨c,z⟩:=tw (a6 q.1);have hi:i<r.length:=by obtain⟨g,_⟩:=TN.mp h;simp only[TJ]at g;ext
    have d:=ey ab4 z;rw[Uq,TJ,US]at d;obtain rfl:i=0:=by ext
    cases r with
    |nil=>cases hi
    |cons b r=>
     cases h;have lt:CW a=Ld:=by simpa using q.2
     have f:cK [a]=Ld:=by unfold cK;rw[Tu];exact⟨rfl,by simpa using lt⟩
     rw[ar (show¬(a::62::r)[0]?=ax 126 from λz=>by cases z;cases lt),ar (show¬(a::62::r)[0]?=ax 62 from λz=>by cases z;cases lt),ak (show(cK ((a::62::r).take 1)&&decide (((a::62::r).drop 1).take 1=[62]))=Ld by rw[Tu];exact⟨f,a4 rfl⟩)]
   .rw[ar q]
    split
    .rfl
    .split
     .rfl
     .split
      .rename_i z
       rw[Tu]at z;have m:=a6 z.2;cases i with
       |zero=>exact a7 z.1 q
       |succ i=>rw[BP (r:=(a::r).drop 2) (j:=i) (by rw[XH,Zr];exact h)];rfl
      .rfl
theorem Rz{s:ck Nat}(h:∀i:Nat,¬s[i]?=ax 62)(a:¬s∈[[46],[95]])(d:cK s=Tx):jh s=if s[0]?=ax 126 then(bf (s.drop 1)).map .once else CL:=by
 have e3:¬s=[46]:=λz=>a (by rw[z];exact TC);have e4:¬s=[95]:=λz=>a (by rw[z];exact TH _ TC);unfold jh;rw[ar e3,ar e4,ar (by rw[d];exact Tz),ar (h 0)];congr 1;apply ar;rw[Tu];intro z;have b:=a6 z.2;refine h 1 ?_;have:((s.drop 1).take 1)[0]?=ax 62:=by rw[b];rfl
 rw[List.getElem?_take,ak (by decide),XH]at this;exact this
theorem Iu:lD.str ""=ap []:=by show lD.str _=lD.str _;congr 1
theorem NC(o:cv Int):jd (oI o) .none=-(.bool o.isNone):=by cases o<;>rfl
def vh:FS:=(aj (ce (iR (ag (ah jd (ac 3) (pC .none))) (iR (di (ag (ah iG (ac 2) (pC (.str "")))) (di (ag (ah iG (ac 2) (pC (.str "~")))) (d9 (ag (aK a9 1 {ac 2}))))) (di (ag (ah bV (ac 2) (pC (.str "~")))) (ag (ah Eh (ac 1) (~~~0)))))) (aL (pC .none)) aC)
 (aj (ce (di (ag (ah nc (ac 1) (~~~0))) (ag (ah iG (ac 2) (pC (.str "~"))))) (aL (pC .none)) aC)
 (aj (ce (ag (ah bV (ac 2) (pC (.str "~")))) (aL (bM {pC (.str "once"),ac 3})) aC)
 (aj (ce (ag (ah bV (ac 2) (pC (.str "")))) (aL (bM {pC (.str "layer"),ac 3})) aC)
 (aL (bM {pC (.str "tap"),ac 2,ac 3}))))))
def HP(m:Int)(hd:ck Nat)(o:cv Int):D:=match o with
 |none=>.none
 |some n=>if((decide (hd≠[])&&(decide (hd≠[126])&& !cK hd))||(decide (hd=[126])&&decide (m≥0)))=Ld then .none else if(decide (m<0)&&decide (hd≠[126]))=Ld then .none else if hd=[126]then .tuple [.str "once",.int n]else if hd=[]then .tuple [.str "layer",.int n]else .tuple [.str "tap",ap hd,.int n]
theorem sK{d:D}{m:Int}{hd:ck Nat}(f:hd.length<=1000)(a:iz hd)(o:cv Int){N C:aD->Prop}:Go (vh [-(d),-(.int m),-(ap hd),-(oI o)]) N C (λr=>r=.fz (HP m hd o)):=by
 have g:=NC o;have i:iG (ap hd) (.str "")=-(.bool (decide (hd≠[]))):=by rw[Iu,nz a (λc e=>by cases e),decide_not]
 have h:iG (ap hd) (.str "~")=-(.bool (decide (hd≠[126]))):=by rw[rG,nz a (uG (by decide)),decide_not]
 have l:bV (ap hd) (.str "")=-(.bool (decide (hd=[]))):=by rw[Iu,iH a (λc e=>by cases e)]
 have k:bV (ap hd) (.str "~")=-(.bool (decide (hd=[126]))):=by rw[rG,iH a (uG (by decide))]
 have j:=fK f;unfold vh;refine aP (b:=o.isNone||((decide (hd≠[])&&(decide (hd≠[126])&& !cK hd))||(decide (hd=[126])&&decide (m≥0)))) (bu (by fail "ev") λ_=>bu (bR (by fail "ev") λ_=>bR (by fail "ev") λ_=>b6 (by fail "ev")) λ_=>bR (by fail "ev") λ_=>by fail "ev") (λq=>?_) (λq=>ay ?_)
 .refine aW av rfl ?_
  cases o with
  |none=>rfl
  |some n=>unfold HP;dsimp only;rw[ak (by simpa using q)]
 rw[YB]at q;cases o with
 |none=>cases q.1
 |some n=>
  unfold HP;dsimp only;rw[ar (by rw[q.2];exact Tz)];refine aP (b:=decide (m<0)&&decide (hd≠[126])) (bR (by fail "ev") λ_=>by fail "ev") (λq=>aW av rfl ?_) (λq=>ay ?_)
  .rw[ak q]
  rw[ar (by rw[q];exact Tz)];refine aP (b:=decide (hd=[126])) (by fail "ev") (λq=>?_) (λq=>ay ?_)
  .rw[ak (a6 q)];fail "go";rfl
  rw[ar (of_decide_eq_false q)];refine aP (b:=decide (hd=[])) (by fail "ev") (λq=>?_) (λq=>ay ?_)
  .rw[ak (a6 q)];fail "go";rfl
  rw[ar (of_decide_eq_false q)];fail "go";rfl
theorem N7{s:ck Nat}{c:Nat}(h:s.take 1=[c]):s[0]?=ax c:=by
 cases s with
 |nil=>cases h
 |cons a r=>cases h;rfl
theorem Gr{s:ck Nat}(h:s.length<=1000)(d:iz s):fX [ap s]=.ok (.fz (oM (jh s))):=by
 have C:=Q3 d;have u:=iH d (uG (c:=95) (by decide));have H:=fK h;rw[<-CD]at u;refine aY (ρ:=[-(ap s),CL,CL,CL]) rfl ?_;unfold gh;refine aP (b:=decide (s∈[[46],[95]])) (by fail "ev") (λq=>?_) (λq=>ay ?_)
 .have z:=a6 q
  simp only[TL,TY,or_false]at z;rcases z with rfl|rfl
  .refine aW (pv:=.fz (.tuple [.str "none"])) (aO (rv:=.fz (.tuple [.str "none"])) (by fail "ev") (bC (rv:=.fz (.int 0)) (ad (by fail "ev") ai) rfl rfl) rfl rfl nr) rfl rfl
  .refine aW (pv:=.fz (.tuple [.str "below"])) (aO (rv:=.fz (.tuple [.str "below"])) (by fail "ev") (bC (rv:=.fz (.int 1)) (ad (by fail "ev") ai) rfl rfl) rfl rfl wf) rfl rfl
 have g:=of_decide_eq_false q;refine aP (b:=cK s) (by fail "ev") (λq=>?_) (λq=>ay ?_)
 .have:jh s=ax (.UP s):=by
   unfold jh;rw[ar (λz=>g (by rw[z];exact TC)),ar (λz=>g (by rw[z];exact TH _ TC)),ak q]
  rw[this];fail "go";rfl
 obtain⟨m,p,A⟩:=Jc 62 s;rw[<-Il]at p;refine aM (ρ3:=[-(ap s),-(.int m),CL,CL]) (gW (af rfl) rfl (ad av ai) rfl p) rfl rfl ?_;rcases A with⟨rfl,l⟩|⟨i,rfl,hi⟩
 .have w:jp [.int 0,.int (-1)]=-(.int 0):=rfl
  have t0:aX (ap s) CL (ax 0)=-(ap []):=jq h 0;have B:aX (ap s) (ax 0) CL=-(ap s):=fD h 0;have v:=iA h d;have t:aX (ap s) CL (ax 1)=-(ap (s.take 1)):=jq h 1;have j:=iH (ki d 1) (uG (c:=126) (by decide));rw[<-rG]at j;have E:bq (.int (-1)) (.int 1)=-(.int 0):=rfl;refine aM (ρ3:=[-(ap s),-(.int (-1)),-(ap []),CL]) (by fail "ev") rfl rfl ?_;refine aM (ρ3:=[-(ap s),-(.int (-1)),-(ap []),-(oI (bf s))]) (by fail "ev") rfl rfl ?_;refine aP (b:=decide (s.take 1=[126])&&Ld) (bR (by fail "ev") λ_=>by fail "ev") (λz=>?_) (λz=>ay ?_)
  .have F:=iA (s:=s.drop 1) (by rw[UB];ext) (qC d 1)
   have I:aX (ap s) (ax 1) CL=-(ap (s.drop 1)):=fD h 1;refine eG (aM (ρ3:=[-(ap s),-(.int (-1)),-(ap []),-(oI (bf (s.drop 1)))]) (by fail "ev") rfl rfl (aM (ρ3:=[-(ap s),-(.int (-1)),-(ap [126]),-(oI (bf (s.drop 1)))]) av (by rw[rG];rfl) rfl ?_));have e:oM (jh s)=HP (-1) [126] (bf (s.drop 1)):=by rw[Rz l g q,ak (N7 (by rw[YW]at z;exact a6 z))];cases bf (s.drop 1)<;>rfl
   rw[e];exact sK (by decide) (uG (by decide)) _
  .have e:oM (jh s)=HP (-1) [] (bf s):=by
    rw[Rz l g q,ar (λy=>by
     rw[YW]at z;refine of_decide_eq_false z ?_;cases s with
     |nil=>cases y
     |cons a r=>cases y;rfl)]
    cases bf s<;>rfl
   rw[e];exact sK (by decide) (λc d=>by cases d) _
 .have w:jp [.int 0,.int (i:Int)]=-(.int (i:Int)):=by
   show ax (RV.fz (.int (if(i:Int)>0 then(i:Int)else 0)))=_;congr 3;split<;>ext
  have t0:=jq h i;have B:aX (ap s) (ax ((i:Int)+1)) CL=-(ap (s.drop (i+1))):=fD h (i+1);have v:=iA (s:=s.drop (i+1)) (by rw[UB];ext) (qC d (i+1));have t:aX (ap s) CL (ax 1)=-(ap (s.take 1)):=jq h 1;have j:=iH (ki d 1) (uG (c:=126) (by decide));rw[<-rG]at j;refine aM (ρ3:=[-(ap s),-(.int i),-(ap (s.take i)),CL]) (by fail "ev") rfl rfl ?_;refine aM (ρ3:=[-(ap s),-(.int i),-(ap (s.take i)),-(oI (bf (s.drop (i+1))))]) (by fail "ev") rfl rfl ?_;refine aP (b:=decide (s.take 1=[126])&&decide ((i:Int)<0)) (bR (by fail "ev") λ_=>by fail "ev") (λz=>?_) (λz=>ay ?_)
  .rw[Tu]at z;have:=a6 z.2;ext
  have e:oM (jh s)=HP i (s.take i) (bf (s.drop (i+1))):=by
   rw[Rp hi];cases i with
   |zero=>rw[ak rfl];show oM ((bf (s.drop 1)).map .Vh)=HP 0 [] (bf (s.drop 1));cases bf (s.drop 1)<;>rfl
   |succ i=>
    rw[ar (adQ i)];have k:s.take (i+1)≠[]:=λz=>by
     cases s with
     |nil=>cases hi
     |cons a r=>cases z
    generalize s.take (i+1)=hd at k;generalize bf (s.drop (i+1+1))=o;have G:¬((i+1:Nat):Int)<0:=by ext
    cases o with
    |none=>split<;>rfl
    |some n=>
     unfold HP;dsimp only;cases lb:cK hd with
     |true=>
      have f:hd≠[126]:=λz=>by subst z;cases lb
      rw[ak rfl,ar (by simp[f]),ar (by simp[f];ext),ar f,ar k];rfl
     |false=>
      rw[ar Tz,ak ?_]
      .rfl
      .by_cases f:hd=[126]
       .simp[f];ext
       .simp[f,k]
  rw[e];exact sK (by rw[Uq];ext) (ki d i) _
def bc(c:Nat):ck Nat->ck (ck Nat)
 |[]=>[[]]
 |a::r=>if a=c then[]::bc c r else match bc c r with
  |[]=>[[a]]
  |w::ws=>(a::w)::ws
theorem eA(c:Nat)(l:ck Nat):∃w ws,bc c l=w::ws:=by
 cases l with
 |nil=>exact⟨[],[],rfl⟩
 |cons a r=>
  unfold bc;split
  .exact⟨_,_,rfl⟩
  .split
   .exact⟨_,_,rfl⟩
   .exact⟨_,_,rfl⟩
theorem dM{c a:Nat}{r w:ck Nat}{ws:ck (ck Nat)}(n:a≠c)(h:bc c r=w::ws):bc c (a::r)=(a::w)::ws:=by
 show(if a=c then[]::bc c r else match bc c r with
  |[]=>[[a]]
  |w::ws=>(a::w)::ws)=_
 rw[ar n,h]
theorem kn{c:Nat}{r:ck Nat}:bc c (c::r)=[]::bc c r:=by show(if c=c then[]::bc c r else _)=_;rw[ak rfl]
theorem BG(c:Nat):∀l:ck Nat,TV ⟨#[c]⟩ ((bc c l).map tx)=tx l:=by
 intro l
 induction l with
 |nil=>rfl
 |cons a r b=>
  obtain⟨w,d,e⟩:=eA c r;rw[e]at b;by_cases n:a=c
  .subst n;rw[kn,e];show(tx []++tx [a])++TV ⟨#[a]⟩ ((w::d).map tx)=_;rw[b,lA,lA];rfl
  .rw[dM n e]
   cases d with
   |nil=>rw[C6 (show tx w=tx r from b)];rfl
   |cons v vs=>show tx (a::w)++tx [c]++TV ⟨#[c]⟩ ((v::vs).map tx)=_;have b:tx w++tx [c]++TV ⟨#[c]⟩ ((v::vs).map tx)=tx r:=b;rw[show tx (a::w)=tx [a]++tx w from(lA [a] w).symm,show tx (a::r)=tx [a]++tx r from(lA [a] r).symm,<-b,WQ,WQ,WQ]
theorem cO(c:Nat):∀l:ck Nat,(∀w∈bc c l,c∉w/\w.length<=l.length/\∀x∈w,x∈l)/\(bc c l).length<=l.length+1:=by
 intro l
 induction l with
 |nil=>exact⟨λw i=>by cases(TX.mp i);exact⟨(λz=>by cases z),TQ _,(λ_ z=>by cases z)⟩,TQ _⟩
 |cons a r d=>
  obtain⟨w,j,e⟩:=eA c r;have g:∀v∈bc c r,c∉v/\v.length<=(a::r).length/\∀x∈v,x∈a::r:=λv b=>⟨(d.1 v b).1,by have:=(d.1 v b).2.1;rw[TJ];ext,λx f=>TH _ ((d.1 v b).2.2 x f)⟩;have h:=d.2;by_cases n:a=c
  .subst n
   rw[kn];refine⟨λv b=>?_,by rw[TJ,TJ];ext⟩;rcases TL.mp b with rfl|b
   .exact⟨(λz=>by cases z),Vd _,(λ_ z=>by cases z)⟩
   .exact g v b
  .rw[dM n e]
   rw[e]at g d h;refine⟨λv b=>?_,by rw[TJ]at h⊢;rw[TJ];ext⟩;rcases TL.mp b with rfl|b
   .have z:=d.1 w TC
    refine⟨λy=>?_,by rw[TJ,TJ];have:=z.2.1;ext,λx f=>?_⟩
    .rcases TL.mp y with y|y
     .exact n y.symm
     .exact z.1 y
    .rcases TL.mp f with rfl|f
     .exact TC
     .exact TH _ (z.2.2 x f)
   .exact g v (TH _ b)
theorem iy{c:Nat}{l:ck Nat}(h:l.length<=1000):de (tx l) [ap [c]]=ax (.ow ((bc c l).map ap)):=by obtain⟨w,ws,e⟩:=eA c l;have a:=cO c l;have j:=BG c l;have:=sd (c:=c) (ws:=(bc c l).map tx) (by rw[e];exact λz=>by cases z) (λw b=>by obtain⟨v,d,rfl⟩:=TZ.mp b;exact(a.1 v d).1) (by rw[j,dU];ext) (by rw[Tv];have:=a.2;ext);rw[j,Uz]at this;exact this
abbrev wK:ck Nat:=[107,101,121,115]
abbrev wW:ck Nat:=[119,97,105,116]
abbrev wL:ck Nat:=[108,97,121,101,114]
abbrev wC:ck Nat:=[99,104,111,114,100]
theorem Kz:lD.str "keys"=ap wK:=by show lD.str _=lD.str _;congr 1
theorem JZ:lD.str "wait"=ap wW:=by show lD.str _=lD.str _;congr 1
theorem yc:lD.str "layer"=ap wL:=by show lD.str _=lD.str _;congr 1
theorem Fi:lD.str "chord"=ap wC:=by show lD.str _=lD.str _;congr 1
theorem vR:iz wK/\iz wW/\iz wL/\iz wC:=by refine⟨?_,?_,?_,?_⟩<;>(intro c a;simp only[TL,TY,or_false]at a;ext)
def HK(ws:ck (ck Nat)):Prop:=ws.length<=1000/\∀w∈ws,w.length<=1000/\iz w
theorem O0{w:ck Nat}(h:iz w):iG (ap w) (.str "keys")=-(.bool (!decide (w=wK))):=by rw[Kz,nz h vR.1]
theorem Nf{w:ck Nat}(h:iz w):iG (ap w) (.str "wait")=-(.bool (!decide (w=wW))):=by rw[JZ,nz h vR.2.1]
theorem Q8{w:ck Nat}(h:iz w):iG (ap w) (.str "layer")=-(.bool (!decide (w=wL))):=by rw[yc,nz h vR.2.2.1]
theorem NQ{w:ck Nat}(h:iz w):iG (ap w) (.str "chord")=-(.bool (!decide (w=wC))):=by rw[Fi,nz h vR.2.2.2]
theorem M6{w:ck Nat}(h:iz w):bV (ap w) (.str "layer")=-(.bool (decide (w=wL))):=by rw[yc,iH h vR.2.2.1]
theorem nk(ws:ck (ck Nat)):bF [.list (ws.map ap)]=-(.int (ws.length:Int)):=by show ax (RV.fz (.int ((ws.map ap).length:Int)))=_;rw[Tv]
def da:ck (ck Nat)->cv (cv Int×cv Int)
 |[k,a,w,b]=>if(!decide (k=wK)|| !decide (w=wW))=Ld then CL else ax (bf a,bf b)
 |_=>CL
def Mv:cv (cv Int×cv Int)->D
 |some (ax x,ax y)=>.tuple [.int x,.int y]
 |_=>.none
theorem pN{k a w b:ck Nat}:da [k,a,w,b]=if(!decide (k=wK)|| !decide (w=wW))=Ld then CL else ax (bf a,bf b):=rfl
theorem yA(a b:Int):iG (.int a) (.int b)=-(.bool (!decide (a=b))):=rfl
theorem xM{ws:ck (ck Nat)}(h:¬ws.length=4):da ws=CL:=by
 unfold da;split
 .exact a7 rfl h
 .rfl
theorem Ny{ws:ck (ck Nat)}(h:ws.length=4):∃k a w b,ws=[k,a,w,b]:=by
 match ws,h with
 |[k,a,w,b],_=>exact⟨k,a,w,b,rfl⟩
theorem Ax{ws:ck (ck Nat)}(h:HK ws):dJ [.list (ws.map ap)]=.ok (.fz (Mv (da ws))):=by
 have m:=nk ws;refine aY (ρ:=[-(.list (ws.map ap))]) rfl ?_;unfold dW;by_cases d:ws.length=4
 .obtain⟨k,a,w,b,rfl⟩:=Ny d
  have g:=h.2 k (by simp);have ha:=h.2 a (by simp);have f:=h.2 w (by simp);have i:=h.2 b (by simp);have r:aG (.list ([k,a,w,b].map ap)) (.int 0)=-(ap k):=nr;have p:aG (.list ([k,a,w,b].map ap)) (.int 1)=-(ap a):=wf;have o:aG (.list ([k,a,w,b].map ap)) (.int 2)=-(ap w):=jZ (by decide) rfl;have n:aG (.list ([k,a,w,b].map ap)) (.int 3)=-(ap b):=jZ (by decide) rfl;have u:=O0 g.2;have t:=Nf f.2;have l:=kt ha.1;have j:=kt i.1;refine aP (b:=Tx||(!decide (k=wK)|| !decide (w=wW))) (bu (by fail "ev") λ_=>bu (by fail "ev") λ_=>by fail "ev") (λq=>aW av rfl ?_) (λq=>ay ?_)
  .rw[UJ]at q;rw[pN,ak q];rfl
  .rw[UJ]at q;rw[pN,ar (by rw[q];exact Tz)];have v:=gA (ds:=[oI (bf a),oI (bf b)]) (by cases bf a<;>cases bf b<;>rfl);fail "go";cases bf a<;>cases bf b<;>rfl
 .have e:=yA (ws.length:Int) 4;rw[a5 (by ext)]at e;refine aP (b:=Ld) (bu (a:=Ld) (b:=Ld) (by fail "ev") λz=>by cases z) (λq=>aW av rfl ?_) (λq=>by cases q);rw[xM d];rfl
def eD{α:Type}:ck (cv α)->cv (ck α)
 |[]=>ax []
 |none::_=>CL
 |some a::r=>(eD r).map (a::·)
def jT{α:Type}(f:α->D):cv α->D
 |some a=>f a
 |none=>lD.none
theorem Hu:oI=jT lD.int:=by funext o;cases o<;>rfl
theorem Iw:oM=jT mG:=by funext o;cases o<;>rfl
def jD{α:Type}(f:α->D):cv (ck α)->D
 |some l=>lD.tuple (l.map f)
 |none=>lD.none
theorem Nr{α:Type}{f:α->D}(d:∀a,lD.eqv (f a) .none=Tx)(l:ck (cv α)):(if((l.map (jT f)).any λe=>lD.eqv e .none)=Ld then lD.none else lD.tuple (l.map (jT f)))=jD f (eD l):=by
 induction l with
 |nil=>rfl
 |cons o r b=>
  cases o with
  |none=>rfl
  |some a=>
   rw[Ub,Xb,show lD.eqv (jT f (ax a)) .none=Tx from d a,UJ];show _=jD f ((eD r).map (a::·));cases q:eD r with
   |none=>
    rw[q]at b;split at b
    .rename_i z;rw[ak z];rfl
    .cases b
   |some l=>
    rw[q]at b;split at b
    .cases b
    .rename_i z;rw[ar z,lD.tuple.inj b];rfl
theorem Pb{α:Type}{f:α->D}(l:ck (cv α))(h:∀a,ax a∈l->lD.canLay0 (f a)=Ld):lD.canLayAll0 (l.map (jT f))=Ld:=kz λo b=>by
 cases o with
 |none=>rfl
 |some a=>exact h a b
theorem u6{α:Type}{f:α->D}(b:∀a,lD.eqv (f a) .none=Tx){l:ck (cv α)}(h:∀a,ax a∈l->lD.canLay0 (f a)=Ld):ci [.list (l.map (jT f))]=.ok (.fz (jD f (eD l))):=by rw[gA (Pb l h),Nr b]
theorem DQ(m:Mg):lD.eqv (mG m) .none=Tx:=by cases m<;>rfl
theorem DF{w:ck Nat}{m:Mg}(h:jh w=ax m)(a:iz w):lD.canLay0 (mG m)=Ld/\MF m:=by
 have:MF m:=by
  unfold jh at h;split at h
  .cases h;trivial
  split at h
  .cases h;trivial
  split at h
  .rename_i q;cases h;unfold cK at q;rw[Tu]at q;have:=a6 q.1;exact⟨by ext,a⟩
  split at h
  .obtain⟨n,_,rfl⟩:=U9.mp h;trivial
  split at h
  .obtain⟨n,_,rfl⟩:=U9.mp h;trivial
  split at h
  .obtain⟨n,_,rfl⟩:=U9.mp h;exact⟨by rw[Uq];ext,ki a 1⟩
  .cases h
 exact⟨Hl this,this⟩
def gp(ws:ck (ck Nat)):cv (ck Mg):=match ws with
 |w::v::r=>if w=wL then eD ((v::r).map jh)else CL
 |_=>CL
theorem Jy{d:D}{r:ck D}:ur (.list (d::r)) (ax 1) CL=ax (.ow r):=by
 show ax (RV.ow (iX (d::r) (ax 1) CL))=_;have a:HT.sIx (d::r).length 0 (ax 1)=1:=by rfl
 unfold iX;rw[a,HT.sIx_none,List.drop_succ_cons,aam,Va (by simp_all)]
theorem EV{ws:ck (ck Nat)}(h:HK ws)(m:1<=ws.length):gl [.list (ws.map ap)]=.ok (.fz (jD mG (gp ws))):=by
 have o:=nk ws;refine aY (ρ:=[-(.list (ws.map ap))]) rfl ?_;unfold fM
 match ws,m with
 |[w],_=>refine aP (b:=Ld) (bu (a:=Ld) (b:=Ld) (by fail "ev") λz=>by cases z) (λq=>aW av rfl rfl) (λq=>by cases q)
 |w::v::r,_=>
  have k:=h.2 w TC;have p:aG (.list ((w::v::r).map ap)) (.int 0)=-(ap w):=nr;have t:=Q8 k.2;have lt:nc (.int ((w::v::r).length:Int)) (.int 2)=-(.bool Tx):=by show ax (RV.fz (.bool (decide (((w::v::r).length:Int)<2))))=_;rw[a5 (by simp only[TJ];ext)]
  refine aP (b:=Tx|| !decide (w=wL)) (bu (by fail "ev") λ_=>by fail "ev") (λq=>aW av rfl ?_) (λq=>ay ?_)
  .rw[UJ,UX]at q;show _=RV.fz (jD mG (if w=wL then eD ((v::r).map jh)else CL));rw[ar (of_decide_eq_false q)];rfl
  .rw[UJ,Y3]at q
   show Go _ _ _ (λx=>x=RV.fz (jD mG (if w=wL then eD ((v::r).map jh)else CL)));rw[ak (a6 q)];have u:ur (.list ((w::v::r).map ap)) (ax 1) CL=ax (.ow ((v::r).map ap)):=Jy;have n:g9 (cf (gN 0) aU (aK dY 1 {ac 0}) ((v::r).map ap) [CL] [])=.ok ((v::r).map λx=>jT mG (jh x)):=ip (f:=ap) (g:=λx=>jT mG (jh x)) (v::r) (by have:=h.1;simp only[TJ]at this⊢;ext) rfl λx i=>by have i:=h.2 x (TH _ i);have e:=Af i.1 i.2;rw[Iw]at e;exact eH (rv:=.fz (jT mG (jh x))) (by fail "ev") rfl rfl e
   have j:=u6 (f:=mG) DQ (l:=(v::r).map jh) λa ha=>by obtain⟨x,i,e⟩:=TZ.mp ha;exact(DF e (h.2 x (TH _ i)).2).1
   rw[Uz]at j;exact aR (eH (rv:=.fz (jD mG (eD ((v::r).map jh)))) (ad (bg (dc (d:=.list ((v::r).map ap)) (by fail "ev") rfl rfl) rfl n) ai) rfl rfl j) rfl rfl
theorem yZ(i:Int):lD.eqv (.int i) .none=Tx:=rfl
theorem BZ{w:ck Nat}(h:w.length<=1000):gL [ap w,.str "+"]=.ok (.fz (jD lD.int (eD ((bc 43 w).map bf)))):=by
 have b:lD.str "+"=ap [43]:=by show lD.str _=lD.str _;congr 1
 have sp:=iy (c:=43) h;have a:=cO 43 w;rw[b];have k:g9 (cf (gN 0) aU (aK bG 1 {ac 0}) ((bc 43 w).map ap) [CL] [])=.ok ((bc 43 w).map λx=>jT lD.int (bf x)):=ip (f:=ap) (g:=λx=>jT lD.int (bf x)) (bc 43 w) (by have:=a.2;ext) rfl λx j=>by have e:=kt (s:=x) (by have:=(a.1 x j).2.1;ext);rw[Hu]at e;exact eH (rv:=.fz (jT lD.int (bf x))) (by fail "ev") rfl rfl e
 have i:=u6 (f:=lD.int) yZ (l:=(bc 43 w).map bf) λa ha=>rfl;rw[Uz]at i;refine aY (ρ:=[-(ap w),-(ap [43])]) rfl ?_;unfold eU;exact aR (eH (rv:=.fz (jD lD.int (eD ((bc 43 w).map bf)))) (ad (bg (dc (d:=.list ((bc 43 w).map ap)) (gW (af rfl) rfl (ad (af rfl) ai) rfl sp) rfl rfl) rfl k) ai) rfl rfl i) rfl rfl
def gX:ck (ck Nat)->cv (ck Int×ck Nat)
 |[c,k,l]=>if(!decide (c=wC)|| !cK l)=Ld then CL else(eD ((bc 43 k).map bf)).map λa=>(a,l)
 |_=>CL
theorem DD{c k l:ck Nat}:gX [c,k,l]=if(!decide (c=wC)|| !cK l)=Ld then CL else(eD ((bc 43 k).map bf)).map λks=>(ks,l):=rfl
theorem Ea{ws:ck (ck Nat)}(h:¬ws.length=3):gX ws=CL:=by
 unfold gX;split
 .exact a7 rfl h
 .rfl
theorem HC{ws:ck (ck Nat)}(h:ws.length=3):∃c k l,ws=[c,k,l]:=by
 match ws,h with
 |[c,k,l],_=>exact⟨c,k,l,rfl⟩
theorem Ox{α:Type}{f:α->D}(o:cv (ck α)):jd (jD f o) .none=-(.bool o.isNone):=by cases o<;>rfl
theorem Gv{ws:ck (ck Nat)}(h:HK ws):fL [.list (ws.map ap)]=.ok (.fz (jT cn (gX ws))):=by
 have n:=nk ws;refine aY (ρ:=[-(.list (ws.map ap)),CL]) rfl ?_;unfold fQ;by_cases d:ws.length=3
 .obtain⟨c,k,l,rfl⟩:=HC d
  have j:=h.2 c (by simp);have i:=h.2 k (by simp);have g:=h.2 l (by simp);have u:aG (.list ([c,k,l].map ap)) (.int 0)=-(ap c):=nr;have t:aG (.list ([c,k,l].map ap)) (.int 1)=-(ap k):=wf;have r:aG (.list ([c,k,l].map ap)) (.int 2)=-(ap l):=jZ (by decide) rfl;have w:=NQ j.2;have v:=gS g.1;have m:=BZ i.1;refine aP (b:=Tx||(!decide (c=wC)|| !cK l)) (bu (by fail "ev") λ_=>bu (by fail "ev") λ_=>b6 (by fail "ev")) (λq=>aW av rfl ?_) (λq=>ay ?_)
  .rw[UJ]at q;rw[DD,ak q];rfl
  .rw[UJ]at q
   rw[DD,ar (by rw[q];exact Tz)];refine aM (ρ3:=[-(.list ([c,k,l].map ap)),-(jD lD.int (eD ((bc 43 k).map bf)))]) (by fail "ev") rfl rfl ?_;generalize eD ((bc 43 k).map bf)=o;have z:=Ox (f:=lD.int) o;refine aP (b:=o.isNone) (by fail "ev") (λq=>aW av rfl ?_) (λq=>ay ?_)
   .cases o with
    |none=>rfl
    |some _=>cases q
   .cases o with
    |none=>cases q
    |some p=>fail "go";rfl
 .have e:=yA (ws.length:Int) 3;rw[a5 (by ext)]at e;refine aP (b:=Ld) (bu (a:=Ld) (b:=Ld) (by fail "ev") λz=>by cases z) (λq=>aW av rfl ?_) (λq=>by cases q);rw[Ea d];rfl
def v3:cv (cv Int×cv Int)->D
 |some (x,y)=>lD.tuple [oI x,oI y]
 |none=>lD.none
theorem rT{ws:ck (ck Nat)}(h:HK ws):fA [.list (ws.map ap),.bool Ld]=.ok (.fz (v3 (da ws))):=by
 have m:=nk ws;refine aY (ρ:=[-(.list (ws.map ap)),-(.bool Ld)]) rfl ?_;unfold gr;refine aP (b:=Ld) (by fail "ev") (λ_=>eG ?_) (λq=>by cases q);by_cases d:ws.length=4
 .obtain⟨k,a,w,b,rfl⟩:=Ny d
  have i:=h.2 k (by simp);have ha:=h.2 a (by simp);have g:=h.2 w (by simp);have e:=h.2 b (by simp);have r:aG (.list ([k,a,w,b].map ap)) (.int 0)=-(ap k):=nr;have p:aG (.list ([k,a,w,b].map ap)) (.int 1)=-(ap a):=wf;have o:aG (.list ([k,a,w,b].map ap)) (.int 2)=-(ap w):=jZ (by decide) rfl;have n:aG (.list ([k,a,w,b].map ap)) (.int 3)=-(ap b):=jZ (by decide) rfl;have u:=O0 i.2;have t:=Nf g.2;have l:=iA ha.1 ha.2;have j:=iA e.1 e.2;refine aP (b:=Tx||(!decide (k=wK)|| !decide (w=wW))) (bu (by fail "ev") λ_=>bu (by fail "ev") λ_=>by fail "ev") (λq=>aW av rfl ?_) (λq=>ay ?_)
  .rw[UJ]at q;rw[pN,ak q];rfl
  .rw[UJ]at q;rw[pN,ar (by rw[q];exact Tz)];fail "go";rfl
 .have f:=yA (ws.length:Int) 4;rw[a5 (by ext)]at f;refine aP (b:=Ld) (bu (a:=Ld) (b:=Ld) (by fail "ev") λz=>by cases z) (λq=>aW av rfl ?_) (λq=>by cases q);rw[xM d];rfl
def iE(w:ck Nat)(r:ck (ck Nat)):D:=if w=wL then lD.tuple (r.map λx=>jT mG (jh x))else match r with
 |[k,l]=>if(!decide (w=wC)|| !cK l)=Ld then lD.none else lD.tuple ((bc 43 k).map λx=>jT lD.int (bf x))
 |_=>lD.none
theorem two{r:ck (ck Nat)}(h:r.length=2):∃k l,r=[k,l]:=by
 match r,h with
 |[k,l],_=>exact⟨k,l,rfl⟩
theorem z8{w:ck Nat}{r:ck (ck Nat)}(h:HK (w::r)):fA [.list ((w::r).map ap),.bool Tx]=.ok (.fz (iE w r)):=by
 have y:=nk (w::r);have p:=h.2 w TC;have C:aG (.list ((w::r).map ap)) (.int 0)=-(ap w):=nr;have G:=M6 p.2;have F:=NQ p.2;refine aY (ρ:=[-(.list ((w::r).map ap)),-(.bool Tx)]) rfl ?_;unfold gr;refine aP (b:=Tx) (by fail "ev") (λq=>by cases q) (λ_=>ay ?_);unfold iE;refine aP (b:=decide (w=wL)) (by fail "ev") (λq=>?_) (λq=>ay ?_)
 .rw[ak (a6 q)]
  have H:ur (.list ((w::r).map ap)) (ax 1) CL=ax (.ow (r.map ap)):=Jy;have m:g9 (cf (gN 0) aU (aK fX 1 {ac 0}) (r.map ap) [CL] [])=.ok (r.map λx=>jT mG (jh x)):=ip (f:=ap) (g:=λx=>jT mG (jh x)) r (by have:=h.1;simp only[TJ]at this;ext) rfl λx i=>by have i:=h.2 x (TH _ i);have e:=Gr i.1 i.2;rw[Iw]at e;exact eH (rv:=.fz (jT mG (jh x))) (by fail "ev") rfl rfl e
  exact aW (bC (rv:=.fz (lD.tuple (r.map λx=>jT mG (jh x)))) (ad (bg (dc (d:=.list (r.map ap)) (by fail "ev") rfl rfl) rfl m) ai) rfl rfl) rfl rfl
 .rw[ar (of_decide_eq_false q)]
  by_cases o:r.length=2
  .obtain⟨k,l,rfl⟩:=two o
   have j:=h.2 k (by simp);have u:=h.2 l (by simp);have B:aG (.list ([w,k,l].map ap)) (.int 1)=-(ap k):=wf;have A:aG (.list ([w,k,l].map ap)) (.int 2)=-(ap l):=jZ (by decide) rfl;have E:=fK u.1;have n:lD.str "+"=ap [43]:=by show lD.str _=lD.str _;congr 1
   have sp:=iy (c:=43) j.1;rw[<-n]at sp;have a:=cO 43 k;refine aP (b:= !decide (w=wC)||(Tx|| !cK l)) (bu (by fail "ev") λ_=>bu (by fail "ev") λ_=>b6 (by fail "ev")) (λq=>aW av rfl ?_) (λq=>ay ?_)
   .rw[UJ]at q;dsimp only;rw[ak q]
   .rw[UJ]at q
    dsimp only;rw[ar (by rw[q];exact Tz)];have m:g9 (cf (gN 0) aU (aK bJ 1 {ac 0}) ((bc 43 k).map ap) [CL] [])=.ok ((bc 43 k).map λx=>jT lD.int (bf x)):=ip (f:=ap) (g:=λx=>jT lD.int (bf x)) (bc 43 k) (by have:=a.2;have:=j.1;ext) rfl λx i=>by have e:=iA (s:=x) (by have:=(a.1 x i).2.1;have:=j.1;ext) (λc v=>j.2 c ((a.1 x i).2.2 c v));rw[Hu]at e;exact eH (rv:=.fz (jT lD.int (bf x))) (by fail "ev") rfl rfl e
    exact aR (bC (rv:=.fz (lD.tuple ((bc 43 k).map λx=>jT lD.int (bf x)))) (ad (bg (dc (d:=.list ((bc 43 k).map ap)) (gW (by fail "ev") rfl (ad av ai) rfl sp) rfl rfl) rfl m) ai) rfl rfl) rfl rfl
  .have t:=yA ((w::r).length:Int) 3
   rw[a5 (by simp only[TJ];ext)]at t;refine aP (b:= !decide (w=wC)||(Ld||true)) (bu (by fail "ev") λ_=>bu (b:=Ld) (by fail "ev") λz=>by cases z) (λq=>aW av rfl ?_) (λq=>by simp at q);split
   .exact a7 rfl o
   .rfl
theorem tH{α:Type}{l:ck (cv α)}{r:ck α}(h:eD l=ax r):l=r.map ax:=by
 induction l generalizing r with
 |nil=>cases h;rfl
 |cons o l b=>
  cases o with
  |none=>cases h
  |some a=>have h:(eD l).map (a::·)=ax r:=h;obtain⟨s,d,rfl⟩:=U9.mp h;rw[Ub,b d]
abbrev Ps:=ck (ck Mg)×ck (ck Int×ck Nat)
def fJ(st:Ps)(row:ck Nat):cv Ps:=match gp (bc 32 row),st.2 with
 |some l,[]=>ax (st.1++[l],[])
 |_,_=>(gX (bc 32 row)).map λc=>(st.1,st.2++[c])
def eF(rows:ck (ck Nat)):cv Ps:=rows.foldlM fJ ([],[])
theorem gb(rs:ck (ck Nat))(r:ck Nat):eF (rs++[r])=(eF rs).bind λst=>fJ st r:=by unfold eF;rw[Y4];show(agk fJ ([],[]) rs>>=λst=>(fJ st r).bind ax)=_;congr 1;funext st;cases fJ st r<;>rfl
theorem Aw(rows:ck (ck Nat)):∀n,n<=rows.length->(∃st,eF (rows.take n)=ax st)\/∃k st r,k<n/\rows[k]?=ax r/\eF (rows.take k)=ax st/\fJ st r=CL:=by
 intro n
 induction n with
 |zero=>intro _;exact .inl ⟨([],[]),rfl⟩
 |succ n d=>
  intro hn;rcases d (by ext)with⟨st,e⟩|⟨k,st,r,g,f⟩
  .obtain⟨r,b⟩:∃r,rows[n]?=ax r:=⟨_,TF (by ext)⟩
   have t:rows.take (n+1)=rows.take n++[r]:=by rw[U5,b];rfl
   cases q:fJ st r with
   |none=>exact .inr ⟨n,st,r,by ext,b,e,q⟩
   |some a=>exact .inl ⟨a,by rw[t,gb,e];exact q⟩
  .exact .inr ⟨k,st,r,by ext,f⟩
def My:FS:=(aj (aN (nA de (ac 6) {pC (.str " ")}) (gN 7))
 (aj (aN (aK gl 1 {ac 7}) (gN 8))
 (aj (aN (aK fL 1 {ac 7}) (gN 9))
 (ce (di (ag (ah qM (ac 8) (pC .none))) (ag (ah bV (ac 4) (b7 ae)))) (cj (iU 3 (ac 8))) (ce (ag (ah qM (ac 9) (pC .none))) (cj (iU 4 (ac 9))) (L9.fV "NoText" "row" (ac 5)))))))
abbrev eR(a b c:cv PV)(ls:ck (ck Mg))(cs:ck (ck Int×ck Nat))(e d o7 o8 o9:cv PV):aD:=[a,b,c,ax (.ow (ls.map cU)),ax (.ow (cs.map cn)),e,d,o7,o8,o9]
theorem Mm{c:ck Int×ck Nat}(h:iz c.2):lD.canLay0 (cn c)=Ld:=by show(lD.canLayAll0 (c.1.map lD.int)&&(lD.strOk (tx c.2)&&Ld))=Ld;rw[Hg,i9 h];rfl
theorem K1{cs:ck (ck Int×ck Nat)}(h:∀c∈cs,iz c.2):bV (.list (cs.map cn)) (.list [])=-(.bool (decide (cs=[]))):=by
 have b:lD.canLayAll0 (cs.map cn)=Ld:=kz λc a=>Mm (h c a);have d:lD.depthAll (cs.map cn)<=2:=oK λc a=>by
  show max (lD.depth (kD c.1)) (max 0 0)+1<=2;have:lD.depth (kD c.1)<=1:=by show lD.depthAll (c.1.map lD.int)+1<=1;rw[CP];ext
  ext
 have ok:jP (.list (cs.map cn))=Ld:=by unfold jP;rw[show lD.canLay0 (.list (cs.map cn))=lD.canLayAll0 (cs.map cn)from rfl,b,Xa];exact a4 (by show lD.depthAll (cs.map cn)+1<=64;ext)
 show(if(jP (.list (cs.map cn))&&Ld)=Ld then ax (RV.fz (.bool (lD.eqv (.list (cs.map cn)) (.list []))))else CL)=_;rw[ok];cases cs<;>rfl
theorem Oq{a b c f d o7 o8 o9:cv PV}{ls:ck (ck Mg)}{cs:ck (ck Int×ck Nat)}{e:ck Int×ck Nat}:(eR a b c ls cs f d o7 o8 o9).set 4 (ax (.ow (cs.map cn++[cn e])))=eR a b c ls (cs++[e]) f d o7 o8 o9:=by unfold eR;rw[UY];rfl
theorem Qe{a b c e d o7 o8 o9:cv PV}{ls:ck (ck Mg)}{cs:ck (ck Int×ck Nat)}{l:ck Mg}:(eR a b c ls cs e d o7 o8 o9).set 3 (ax (.ow (ls.map cU++[cU l])))=eR a b c (ls++[l]) cs e d o7 o8 o9:=by unfold eR;rw[UY];rfl
theorem Fh{a b c o7 o8 o9:cv PV}{ls:ck (ck Mg)}{cs:ck (ck Int×ck Nat)}(F:ls.length<=1000)(C:cs.length<=1000)(u:∀c∈cs,iz c.2){p:Nat}(m:p<=1000){row:ck Nat}(E:row.length<=900)(t:iz row):
  My (eR a b c ls cs (-(nd p)) (-(ap row)) o7 o8 o9)=match fJ (ls,cs) row with
   |some j=>.ok (.nx (eR a b c j.1 j.2 (-(nd p)) (-(ap row)) (-(.list ((bc 32 row).map ap))) (-(jD mG (gp (bc 32 row)))) (-(jT cn (gX (bc 32 row))))))
   |none=>.er ⟨"NoText",[("row",nd p)]⟩:=by
 have i:lD.str " "=ap [32]:=by show lD.str _=lD.str _;congr 1
 have sp:=iy (c:=32) (l:=row) (by ext);rw[<-i]at sp;have h:=cO 32 row;have f:HK (bc 32 row):=⟨by have:=h.2;ext,λw k=>⟨by have:=(h.1 w k).2.1;ext,λx r=>t x ((h.1 w k).2.2 x r)⟩⟩;obtain⟨B,A,v⟩:=eA 32 row;have q:=EV f (by rw[v,TJ];ext);have z:=Gv f;unfold My;refine(cJ (fy (ρ3:=eR a b c ls cs (-(nd p)) (-(ap row)) (ax (.ow ((bc 32 row).map ap))) o8 o9) (gW (af rfl) rfl (ad av ai) rfl sp) rfl rfl)).trans ?_;refine(cJ (fy (pv:=.fz (jD mG (gp (bc 32 row)))) (ρ1:=eR a b c ls cs (-(nd p)) (-(ap row)) (-(.list ((bc 32 row).map ap))) o8 o9) (ρ3:=eR a b c ls cs (-(nd p)) (-(ap row)) (-(.list ((bc 32 row).map ap))) (-(jD mG (gp (bc 32 row)))) o9) (eH (rv:=.fz (jD mG (gp (bc 32 row)))) (ad (bQ rfl) ai) rfl rfl q) rfl rfl)).trans ?_;refine(cJ (fy (ρ3:=eR a b c ls cs (-(nd p)) (-(ap row)) (-(.list ((bc 32 row).map ap))) (-(jD mG (gp (bc 32 row)))) (-(jT cn (gX (bc 32 row))))) (eH (rv:=.fz (jT cn (gX (bc 32 row)))) (ad (af rfl) ai) rfl rfl z) rfl rfl)).trans ?_;have o:qM (jD mG (gp (bc 32 row))) .none=-(.bool (gp (bc 32 row)).isSome):=by cases gp (bc 32 row)<;>rfl
 have g:qM (jT cn (gX (bc 32 row))) .none=-(.bool (gX (bc 32 row)).isSome):=by cases gX (bc 32 row)<;>rfl
 have y:=K1 u;unfold fJ;generalize gp (bc 32 row)=ly at o;generalize gX (bc 32 row)=ch at g;have d:di (ag (ah qM (ac 8) (pC .none))) (ag (ah bV (ac 4) (b7 ae))) (eR a b c ls cs (-(nd p)) (-(ap row)) (-(.list ((bc 32 row).map ap))) (-(jD mG ly)) (-(jT cn ch)))=.ok (ly.isSome&&decide (cs=[]),eR a b c ls cs (-(nd p)) (-(ap row)) (-(.list ((bc 32 row).map ap))) (-(jD mG ly)) (-(jT cn ch))):=by refine bR (by fail "ev") λ_=>?_;exact aw (aQ (dx:=.list (cs.map cn)) (dy:=.list []) (bQ rfl) (by fail "ev") rfl rfl y) rfl
 cases ly with
 |none=>
  refine(tE d).trans ?_;cases ch with
  |none=>refine(tE (aw (aQ (af rfl) av rfl rfl g) rfl)).trans ?_;exact kX (af rfl) rfl (lc m)
  |some e=>refine(qW (aw (aQ (af rfl) av rfl rfl g) rfl)).trans ?_;exact gF (iP (es:=cs.map cn) (ds:=cs.map cn) rfl (af rfl) rfl rfl (by rw[Tv];ext) Oq)
 |some l=>
  cases cs with
  |nil=>refine(qW d).trans ?_;exact gF (iP (es:=ls.map cU) (ds:=ls.map cU) rfl (af rfl) rfl rfl (by rw[Tv];ext) Qe)
  |cons c0 n=>
   refine(tE d).trans ?_;cases ch with
   |none=>refine(tE (aw (aQ (af rfl) av rfl rfl g) rfl)).trans ?_;exact kX (af rfl) rfl (lc m)
   |some e=>refine(qW (aw (aQ (af rfl) av rfl rfl g) rfl)).trans ?_;exact gF (iP (es:=(c0::n).map cn) (ds:=(c0::n).map cn) rfl (af rfl) rfl rfl (by rw[Tv];ext) Oq)
theorem vS{P:Ps->Prop}:∀(rows:ck (ck Nat)) (a st:Ps),(∀s r s',r∈rows->P s->fJ s r=ax s'->P s')->P a->rows.foldlM fJ a=ax st->P st:=by
 intro rows
 induction rows with
 |nil=>intro a st _ b e;cases e;exact b
 |cons r g i=>
  intro a st f b e;have e:(fJ a r).bind (λs=>g.foldlM fJ s)=ax st:=e;cases q:fJ a r with
  |none=>rw[q]at e;cases e
  |some d=>rw[q]at e;exact i d st (λs h s' j=>f s h s' (TH _ j)) (f a r d TC b q) e
theorem xo{s a:Ps}{r:ck Nat}(h:fJ s r=ax a):(∃l,gp (bc 32 r)=ax l/\a=(s.1++[l],s.2))\/∃c,gX (bc 32 r)=ax c/\a=(s.1,s.2++[c]):=by
 unfold fJ at h;split at h
 .rename_i l d b;cases h;exact .inl ⟨l,d,by rw[b]⟩
 .obtain⟨c,e,rfl⟩:=U9.mp h;exact .inr ⟨c,e,rfl⟩
theorem Bw:∀(rows:ck (ck Nat)) (a st:Ps),rows.foldlM fJ a=ax st->st.1.length+st.2.length=a.1.length+a.2.length+rows.length:=by
 intro rows
 induction rows with
 |nil=>intro a st e;cases e;rfl
 |cons r d f=>
  intro a st e;have e:(fJ a r).bind (λs=>d.foldlM fJ s)=ax st:=e;cases q:fJ a r with
  |none=>rw[q]at e;cases e
  |some b=>
   rw[q]at e;have:=f b st e;rcases xo q with⟨l,_,rfl⟩|⟨c,_,rfl⟩
   .simp only[T4,TJ,Vu]at this⊢;ext
   .simp only[T4,TJ,Vu]at this⊢;ext
theorem Hz{ws:ck (ck Nat)}{c:ck Int×ck Nat}(h:gX ws=ax c):∃w k,ws=[w,k,c.2]/\cK c.2=Ld/\eD ((bc 43 k).map bf)=ax c.1:=by
 by_cases a:ws.length=3
 .obtain⟨w,k,l,rfl⟩:=HC a
  rw[DD]at h;split at h
  .cases h
  .rename_i q;obtain⟨b,e,rfl⟩:=U9.mp h;simp only[Vt,UX,not_or,Bool.not_eq_false]at q;exact⟨w,k,rfl,q.2,e⟩
 .rw[Ea a]at h;cases h
structure YY(rows:ck (ck Nat)):Prop where
 n:rows.length<=300
 r:∀x∈rows,x.length<=390/\iz x
theorem pJ{rows:ck (ck Nat)}(h:YY rows){st:Ps}(e:eF rows=ax st):st.1.length+st.2.length=rows.length/\∀c∈st.2,iz c.2:=by
 refine⟨by have:=Bw rows _ st e;simpa using this,?_⟩;refine vS (P:=λst=>∀c∈st.2,iz c.2) rows _ st (λs r n g b q=>?_) (λc i=>by cases i) e;rcases xo q with⟨l,_,rfl⟩|⟨c,m,rfl⟩
 .exact b
 .intro d a
  rcases Uy.mp a with a|a
  .exact b d a
  .obtain rfl:=TX.mp a;obtain⟨w,k,j,_⟩:=Hz m;exact λx f=>(h.r r g).2 x (((cO 32 r).1 d.2 (by rw[j];simp)).2.2 x f)
theorem YY.take{rows:ck (ck Nat)}(h:YY rows)(n:Nat):YY (rows.take n):=⟨by rw[Uq];have:=h.n;ext,λx a=>h.r x (WA a)⟩
theorem zq{a:FA}{es:ck D}{ρ ρ1 ρ2:aD}{ps:ck PV}{d:D}(ha:a ρ=.ok (ps,ρ1))(hd:jk ρ1 ps=ax ([d],ρ2))(b:ef d=ax es):nF a ρ=.ok (aZ 1 es,ρ2):=by unfold nF;rw[ha,fo,hd,aq,fo];dsimp only;rw[b,aq,fo]
theorem ux{rs:ck (ck Nat)}{i:Nat}{d:D}(h:(aZ 1 (rs.map ap))[i]?=ax d):∃r,rs[i]?=ax r/\d=.tuple [nd (1+i),ap r]:=by obtain⟨x,a,rfl⟩:=uj _ _ _ _ h;rw[TU]at a;obtain⟨r,b,rfl⟩:=U9.mp a;exact⟨r,b,rfl⟩
theorem rF(rs:ck (ck Nat)):(aZ 1 (rs.map ap)).length=rs.length:=by
 apply Nat.le_antisymm
 .apply ZI;intro h;obtain⟨d,b⟩:∃d,(aZ 1 (rs.map ap))[rs.length]?=ax d:=⟨_,TF h⟩;obtain⟨r,a,_⟩:=ux b;obtain⟨e,_⟩:=TN.mp a;ext
 .apply ZI;intro h;have:(aZ 1 (rs.map ap))[(aZ 1 (rs.map ap)).length]?=CL:=Wr (TQ _);rw[gc,TU,TF h]at this;cases this
section
variable{t r0:ck Nat}{rs:ck (ck Nat)}
abbrev eT(t r0:ck Nat)(rs:ck (ck Nat))(nm b a:cv PV):aD:=[-(ap t),ax (.ow ((r0::rs).map ap)),nm,b,a,CL,CL,CL,CL,CL]
theorem tf(r:t.length<=900)(o:iz t)(e:bc 10 t=r0::rs){g:FS}:aj (aN (nA de (ac 0) {pC (.str "\n")}) (gN 1)) (aj (aN (aK dJ 1 {nA de (ah aG (ac 1) (~~~0)) {pC (.str " ")}}) (gN 2)) g) [-(ap t),CL,CL,CL,CL,CL,CL,CL,CL,CL]=g (eT t r0 rs (-(Mv (da (bc 32 r0)))) CL CL):=by
 have b:lD.str "\n"=ap [10]:=by show lD.str _=lD.str _;congr 1
 have d:lD.str " "=ap [32]:=by show lD.str _=lD.str _;congr 1
 have q:=cO 10 t;have p:=q.1 r0 (by rw[e];exact TC);have h:=iy (c:=10) (l:=t) (by ext);rw[e,<-b]at h;have f:=iy (c:=32) (l:=r0) (by ext);rw[<-d]at f;have a:=cO 32 r0;have j:=Ax (ws:=bc 32 r0) ⟨by have:=a.2;ext,λw i=>⟨by have:=(a.1 w i).2.1;ext,λx m=>o x (p.2.2 x ((a.1 w i).2.2 x m))⟩⟩;have k:aG (.list ((r0::rs).map ap)) (.int 0)=-(ap r0):=nr;refine(cJ (fy (ρ3:=eT t r0 rs CL CL CL) (gW (rv:=.ow ((r0::rs).map ap)) (af rfl) rfl (ad av ai) rfl h) rfl rfl)).trans ?_;exact cJ (fy (ρ3:=eT t r0 rs (-(Mv (da (bc 32 r0)))) CL CL) (eH (rv:=.fz (Mv (da (bc 32 r0)))) (ad (gW (rv:=.ow ((bc 32 r0).map ap)) (aO (rv:=.fz (ap r0)) (bQ rfl) av rfl rfl k) rfl (ad av ai) rfl f) ai) rfl rfl j) rfl rfl)
theorem Bk(a:t.length<=900)(b:iz t)(e:bc 10 t=r0::rs)(hn:Mv (da (bc 32 r0))=.none):bw [ap t]=.er ⟨"NoText",[("row",nd 0)]⟩:=by refine ib (ρ:=[-(ap t),CL,CL,CL,CL,CL,CL,CL,CL,CL]) rfl ?_;unfold db;refine(tf a b e).trans ?_;rw[hn];exact j6 ((qW (aw (aQ (af rfl) av rfl rfl (show jd .none .none=-(.bool Ld)from rfl)) rfl)).trans (kX av rfl rfl))
end
section
variable{t r0:ck Nat}{rs:ck (ck Nat)}
abbrev eL(t r0:ck Nat)(rs:ck (ck Nat))(x y:Int)(ls:ck (ck Mg))(cs:ck (ck Int×ck Nat))(b a o7 o8 o9:cv PV):aD:=eR (-(ap t)) (ax (.ow ((r0::rs).map ap))) (-(.tuple [.int x,.int y])) ls cs b a o7 o8 o9
def IL(t r0:ck Nat)(rs:ck (ck Nat))(x y:Int)(i:Nat)(ρ:aD):Prop:=∃ls cs o5 o6 o7 o8 o9,ρ=eL t r0 rs x y ls cs o5 o6 o7 o8 o9/\eF (rs.take i)=ax (ls,cs)
abbrev QE:FG:=gT 2 (l9 (gN 5) (l9 (gN 6) wu))
theorem t9{x y:Int}{b a o7 o8 o9:cv PV}:nF {ke Fz (ac 1) (bK (~~~1)) cH} (eL t r0 rs x y [] [] b a o7 o8 o9)=.ok (aZ 1 (rs.map ap),eL t r0 rs x y [] [] b a o7 o8 o9):=by have e:Fz (.list ((r0::rs).map ap)) (ax 1) CL=ax (.ow (rs.map ap)):=Jy;exact zq (d:=.list (rs.map ap)) (by fail "ev") rfl rfl
theorem C0(h:YY rs){x y:Int}{i:Nat}{d:D}{ρ:aD}(hd:(aZ 1 (rs.map ap))[i]?=ax d)(o:IL t r0 rs x y i ρ):∃ρ1 r ls cs,QE (.fz d) ρ=.ok ρ1/\rs[i]?=ax r/\eF (rs.take i)=ax (ls,cs)/\((∃ρ2,My ρ1=.ok (.nx ρ2)/\IL t r0 rs x y (i+1) ρ2)\/(fJ (ls,cs) r=CL/\My ρ1=.er ⟨"NoText",[("row",nd (1+i))]⟩)):=by
 obtain⟨r,e,rfl⟩:=ux hd;obtain⟨ls,cs,v,u,o7,o8,o9,rfl,j⟩:=o;have hi:i<rs.length:=(TN.mp e).1;have hn:=h.n;have g:=pJ (h.take i) j;have lt:=Uq (i:=i) (l:=rs);have m:=h.r r (Uk e);have f:=Fh (a:=-(ap t)) (b:=ax (.ow ((r0::rs).map ap))) (c:=-(.tuple [.int x,.int y])) (o7:=o7) (o8:=o8) (o9:=o9) (ls:=ls) (cs:=cs) (by have:=g.1;dsimp only at this;ext) (by have:=g.1;dsimp only at this;ext) g.2 (p:=1+i) (by ext) (row:=r) (by ext) m.2;refine⟨eL t r0 rs x y ls cs (-(nd (1+i))) (-(ap r)) o7 o8 o9,r,ls,cs,rfl,e,j,?_⟩;cases q:fJ (ls,cs) r with
 |none=>rw[q]at f;exact .inr ⟨rfl,f⟩
 |some k=>rw[q]at f;refine .inl ⟨_,f,k.1,k.2,_,_,_,_,_,rfl,?_⟩;rw[U5,e];show eF (rs.take i++[r])=_;rw[gb,j];exact q
theorem xl{x y:Int}{g:FS}:aj (ce (ag (ah jd (ac 2) (pC .none))) (L9.fV "NoText" "row" (~~~0)) aC) (aj (aN (b7 ae) (gN 3)) (aj (aN (b7 ae) (gN 4)) g)) (eT t r0 rs (-(.tuple [.int x,.int y])) CL CL)=g (eL t r0 rs x y [] [] CL CL CL CL CL):=by refine(cJ ((tE (aw (aQ (af rfl) av rfl rfl (show jd (.tuple [.int x,.int y]) .none=-(.bool Tx)from rfl)) rfl)).trans rfl)).trans ?_;refine(cJ (fy (ρ3:=eT t r0 rs (-(.tuple [.int x,.int y])) (ax (.ow [])) CL) (by fail "ev") rfl rfl)).trans ?_;exact cJ (fy (by fail "ev") rfl rfl)
theorem lW{i k:Nat}(hi:i<=k){st:Ps}(h:eF (rs.take k)=ax st):∃s,eF (rs.take i)=ax s:=by
 have e:rs.take k=rs.take i++(rs.take k).drop i:=by have:=(Vx i (rs.take k)).symm;rwa [List.take_take,Z9 hi]at this
 rw[e]at h;unfold eF at h⊢;rw[Y4]at h;cases q:agk fJ ([],[]) (rs.take i)with
 |none=>rw[q]at h;cases h
 |some s=>exact⟨s,rfl⟩
theorem D5(F:t.length<=900)(G:iz t)(e:bc 10 t=r0::rs)(B:YY rs){x y:Int}(hn:da (bc 32 r0)=ax (ax x,ax y)){k:Nat}{st:Ps}{r:ck Nat}(q:rs[k]?=ax r)(A:eF (rs.take k)=ax st)(E:fJ st r=CL):bw [ap t]=.er ⟨"NoText",[("row",nd (1+k))]⟩:=by
 refine ib (ρ:=[-(ap t),CL,CL,CL,CL,CL,CL,CL,CL,CL]) rfl ?_;unfold db;refine(tf F G e).trans ?_;rw[hn];refine xl.trans (j6 ((j7 t9).trans ?_));refine p7 (IL t r0 rs x y) k 0 _ _ (by rw[rF];exact(TN.mp q).1) ⟨[],[],_,_,_,_,_,rfl,rfl⟩ ?_ ?_
 .intro i d ρ hi u h
  rw[XD]at h⊢;obtain⟨a,m,g,j,w,o,n,v⟩:=C0 B u h;rcases v with⟨f,l,b2⟩|⟨l,b2⟩
  .exact⟨a,f,w,l,b2⟩
  .exfalso;obtain⟨C,b⟩:=lW (i:=i+1) (by ext) A;rw[U5,o]at b;have b:eF (rs.take i++[m])=ax C:=b;rw[gb,n]at b;rw[show(ax (g,j)).bind (λst=>fJ st m)=fJ (g,j) m from rfl,l]at b;cases b
 .intro d ρ u h
  rw[XD]at h;obtain⟨a,m,g,j,w,o,n,v⟩:=C0 B u h;rw[q]at o;cases o;rw[A]at n;cases n;rcases v with⟨f,l,p,z,_,_,_,_,_,rfl,b2⟩|⟨l,b2⟩
  .exfalso;rw[U5,q]at b2;have b2:eF (rs.take k++[r])=ax (p,z):=b2;rw[gb,A]at b2;rw[show(ax (g,j)).bind (λst=>fJ st r)=fJ (g,j) r from rfl,E]at b2;cases b2
  .exact⟨a,w,b2⟩
theorem yu(u:YY rs){x y:Int}{st:Ps}(o:eF rs=ax st):∃o5 o6 o7 o8 o9,ot QE My (aZ 1 (rs.map ap)) (eL t r0 rs x y [] [] CL CL CL CL CL)=.ok (.nx (eL t r0 rs x y st.1 st.2 o5 o6 o7 o8 o9)):=by
 obtain⟨p,B,h,j,o5,o6,o7,o8,o9,rfl,n⟩:=Cv (gt:=QE) (b:=My) (ds:=aZ 1 (rs.map ap)) (ρ:=eL t r0 rs x y [] [] CL CL CL CL CL) (IL t r0 rs x y) ⟨[],[],_,_,_,_,_,rfl,rfl⟩ (by
  intro i d ρ r v;obtain⟨f,g,h,j,A,m,z,w⟩:=C0 u r v;rcases w with⟨e,l,b2⟩|⟨l,b2⟩
  .exact⟨f,e,A,.inl l,b2⟩
  .exfalso;have C:=(TN.mp m).1;obtain⟨q,a⟩:=lW (rs:=rs) (i:=i+1) (k:=rs.length) (by ext) (by rw[V8];exact o);rw[U5,m]at a;have a:eF (rs.take i++[g])=ax q:=a;rw[gb,z]at a;rw[show(ax (h,j)).bind (λst=>fJ st g)=fJ (h,j) g from rfl,l]at a;cases a)
 rw[rF,V8,o]at n;cases n;exact⟨o5,o6,o7,o8,o9,B⟩
theorem A6{x y:Int}{ls:ck (ck Mg)}{cs:ck (ck Int×ck Nat)}{b a o7 o8 o9:cv PV}:{bM {ah aG (ac 2) (~~~0),b8 iJ {ac 3},b8 iJ {ac 4},ah aG (ac 2) (~~~1)}} (eL t r0 rs x y ls cs b a o7 o8 o9)=.ok ([.fz (gD ⟨x,ls,cs,y⟩)],eL t r0 rs x y ls cs b a o7 o8 o9):=by have e:aG (.tuple [.int x,.int y]) (.int 0)=-(.int x):=iV;have d:aG (.tuple [.int x,.int y]) (.int 1)=-(.int y):=qU;exact ad (gy (ad (aO (rv:=.fz (.int x)) (af rfl) av rfl rfl e) (ad (bC (rv:=.fz (.tuple (ls.map cU))) (ad (bQ rfl) ai) rfl rfl) (ad (bC (rv:=.fz (.tuple (cs.map cn))) (ad (bQ rfl) ai) rfl rfl) (ad (aO (rv:=.fz (.int y)) (af rfl) av rfl rfl d) ai)))) rfl (show 4<=1000 by decide)) ai
theorem JI{fe:FE}{ρ:aD}{x:Xc}(h:fe ρ=.er x):aL fe ρ=.er x:=by unfold aL;rw[h];rfl
theorem G8(d:t.length<=900)(f:iz t)(e:bc 10 t=r0::rs)(g:YY rs){x y:Int}(hn:da (bc 32 r0)=ax (ax x,ax y)){st:Ps}(h:eF rs=ax st){v:Xc}(b:cF [gD ⟨x,st.1,st.2,y⟩]=.er v):bw [ap t]=.er v:=by refine ib (ρ:=[-(ap t),CL,CL,CL,CL,CL,CL,CL,CL,CL]) rfl ?_;unfold db;refine(tf d f e).trans ?_;rw[hn];obtain⟨m,l,k,j,i,a⟩:=yu (t:=t) (r0:=r0) g (x:=x) (y:=y) h;refine xl.trans ((cJ ((j7 t9).trans a)).trans ?_);exact JI (oP (ds:=[gD ⟨x,st.1,st.2,y⟩]) A6 rfl rfl b)
theorem yx(f:t.length<=900)(g:iz t)(e:bc 10 t=r0::rs)(h:YY rs){x y:Int}(hn:da (bc 32 r0)=ax (ax x,ax y)){st:Ps}(i:eF rs=ax st){d:D}(b:cF [gD ⟨x,st.1,st.2,y⟩]=.ok (.fz d)):bw [ap t]=.ok (.fz d):=by refine aY (ρ:=[-(ap t),CL,CL,CL,CL,CL,CL,CL,CL,CL]) rfl ?_;unfold db;refine .eq (tf f g e) ?_;rw[hn];obtain⟨n,m,l,k,j,a⟩:=yu (t:=t) (r0:=r0) h (x:=x) (y:=y) i;refine .eq (xl.trans (cJ ((j7 t9).trans a))) ?_;exact aR (i7 (ds:=[gD ⟨x,st.1,st.2,y⟩]) A6 rfl rfl b) rfl rfl
end
def No:FS:=(aj (aN (aK fA 2 {ah aG (ac 1) (ac 4),ah bV (ac 4) (~~~0)}) (gN 5))
 (aj (ce (iR (ag (ah jd (ac 5) (pC .none))) (iR (ag (ah iY (pC .none) (ac 5))) (ag (ah bV (b8 bF {ac 5}) (~~~0))))) (aL (bM {~~~2,ac 4,pC .none})) aC)
 (ce (di (ag (ah oO (ac 4) (~~~0))) (ag (ah bV (ah aG (ah aG (ac 1) (ac 4)) (~~~0)) (pC (.str "layer"))))) (aj (ce (ag (ah oO (b8 bF {ac 3}) (~~~0))) (aL (bM {~~~2,ac 4,pC .none})) aC)
 (cj (iU 2 (ac 5)))) (ce (ag (ah oO (ac 4) (~~~0))) (cj (iU 3 (bM {ac 5,ah aG (ah aG (ac 1) (ac 4)) (~~~2)}))) aC))))
def w9(r:ck Nat):D:=.list ((bc 32 r).map ap)
abbrev eQ(t r0:ck Nat)(rs:ck (ck Nat))(ls:ck (ck Mg))(cs:ck (ck Int×ck Nat))(b a:cv PV):aD:=[-(ap t),ax (.ow ((r0::rs).map w9)),ax (.ow (ls.map cU)),ax (.ow (cs.map cn)),b,a,CL,CL]
def jI:D->Bool
 |.tuple ds=>(ds.any λe=>lD.eqv e .none)||decide ((ds.length:Int)=0)
 |_=>Ld
def IB(d:D):Prop:=d=.none\/∃ds,d=.tuple ds/\lD.canLayAll0 ds=Ld
theorem C8{d:D}(h:IB d){ρ:aD}(f:ρ[5]?=ax (-(d))):iR (ag (ah jd (ac 5) (pC .none))) (iR (ag (ah iY (pC .none) (ac 5))) (ag (ah bV (b8 bF {ac 5}) (~~~0)))) ρ=.ok (jI d,ρ):=by
 rcases h with rfl|⟨ds,rfl,hl⟩
 .exact bu (a:=Ld) (b:=Ld) (aw (aQ (af f) av rfl rfl (show jd .none .none=-(.bool Ld)from rfl)) rfl) λz=>by cases z
 .have g:iY .none (.tuple ds)=-(.bool (ds.any λe=>lD.eqv e .none)):=by
   show(if(jP .none&&lD.canLayAll0 ds)=Ld then ax (RV.fz (.bool (ds.any λe=>lD.eqv e .none)))else CL)=_;rw[hl,show jP .none=Ld from rfl,U7,ak rfl]
  refine bu (a:=Tx) (b:=jI (.tuple ds)) (aw (aQ (af f) av rfl rfl (show jd (.tuple ds) .none=-(.bool Tx)from rfl)) rfl) λ_=>?_;exact bu (aw (aQ av (af f) rfl rfl g) rfl) λ_=>aw (aQ (dx:=.int (ds.length:Int)) (dy:=.int 0) (bC (rv:=.fz (.int (ds.length:Int))) (ad (af f) ai) rfl rfl) av rfl rfl (gC _ _)) rfl
theorem Pn(o:cv (cv Int×cv Int)):IB (v3 o):=by
 cases o with
 |none=>exact .inl rfl
 |some p=>exact .inr ⟨_,rfl,by rcases p with⟨x,y⟩;cases x<;>cases y<;>rfl⟩
theorem BS{α:Type}{f:α->D}{d:Type}{g:d->cv α}{l:ck d}(h:∀b∈l,∀a,g b=ax a->lD.canLay0 (f a)=Ld):lD.canLayAll0 (l.map λb=>jT f (g b))=Ld:=kz λb e=>by
 cases q:g b with
 |none=>rfl
 |some a=>exact h b e a q
theorem Ja{w:ck Nat}{r:ck (ck Nat)}(h:HK (w::r)):IB (iE w r):=by
 unfold iE;split
 .exact .inr ⟨_,rfl,BS λb d a e=>(DF e (h.2 b (TH _ d)).2).1⟩
 .split
  .split
   .exact .inl rfl
   .exact .inr ⟨_,rfl,BS λb d a e=>rfl⟩
  .exact .inl rfl
theorem D0{α:Type}{f:α->D}(i:∀a,lD.eqv (f a) .none=Tx){d:Type}(g:d->cv α)(l:ck d):((l.map λb=>jT f (g b)).any λe=>lD.eqv e .none)=(eD (l.map g)).isNone:=by
 induction l with
 |nil=>rfl
 |cons b r h=>
  rw[Ub,Xb,h,Ub];cases g b with
  |none=>rfl
  |some a=>rw[show lD.eqv (jT f (ax a)) .none=Tx from i a,UJ];show _=((eD (r.map g)).map (a::·)).isNone;cases eD (r.map g)<;>rfl
theorem yN{α:Type}{f:α->D}{a:Type}{g:a->cv α}{l:ck a}{s:ck α}(h:eD (l.map g)=ax s):(l.map λb=>jT f (g b))=s.map f:=by have:=tH h;rw[show(l.map λb=>jT f (g b))=(l.map g).map (jT f) by rw[Uz];rfl,this,Uz];rfl
theorem oQ(ds:ck D):jI (.tuple ds)=((ds.any λe=>lD.eqv e .none)||decide ((ds.length:Int)=0)):=rfl
theorem Gj{w v:ck Nat}{a:ck (ck Nat)}:gp (w::v::a)=if w=wL then eD ((v::a).map jh)else CL:=rfl
theorem Nu{w k l:ck Nat}(q:¬w=wL):iE w [k,l]=if(!decide (w=wC)|| !cK l)=Ld then lD.none else lD.tuple ((bc 43 k).map λx=>jT lD.int (bf x)):=by unfold iE;rw[ar q]
theorem yk{w:ck Nat}{a:ck (ck Nat)}{r:ck Nat}(e:bc 32 r=w::a)(st:Ps):
  (jI (iE w a)=Ld/\fJ st r=CL)\/
  (jI (iE w a)=Tx/\w=wL/\∃l,iE w a=cU l/\((st.2=[]/\fJ st r=ax (st.1++[l],[]))\/(st.2≠[]/\fJ st r=CL)))\/
  (jI (iE w a)=Tx/\w≠wL/\∃c k,a=[k,c.2]/\iE w a=kD c.1/\fJ st r=ax (st.1,st.2++[c])):=by
 unfold fJ;rw[e];by_cases q:w=wL
 .have m:gX (w::a)=CL:=by
   unfold gX;split
   .rename_i c k l z;cases z;rw[ak (by rw[q];rfl)]
   .rfl
  have h:iE w a=lD.tuple (a.map λx=>jT mG (jh x)):=by unfold iE;rw[ak q]
  rw[m,h];cases a with
  |nil=>exact .inl ⟨rfl,by unfold gp;rfl⟩
  |cons v b=>
   have g:gp (w::v::b)=eD ((v::b).map jh):=by rw[Gj,ak q]
   rw[g];have d:=D0 (f:=mG) DQ jh (v::b);cases al:eD ((v::b).map jh)with
   |none=>exact .inl ⟨by rw[oQ,d,al];rfl,rfl⟩
   |some l=>
    right;apply a8;refine⟨?_,q,l,by rw[yN al];rfl,?_⟩
    .rw[oQ,d,al,Tv,TJ];show(Tx||decide (((b.length+1:Nat):Int)=0))=Tx;rw[a5 (by ext)];rfl
    .cases z:st.2 with
     |nil=>exact .inl ⟨rfl,rfl⟩
     |cons c0 t=>exact .inr ⟨(λy=>by cases y),rfl⟩
 .have g:gp (w::a)=CL:=by
   cases a with
   |nil=>rfl
   |cons v b=>rw[Gj,ar q]
  rw[g];by_cases i:a.length=2
  .obtain⟨k,l,rfl⟩:=two i
   rw[Nu q,DD];cases z:(!decide (w=wC)|| !cK l)with
   |true=>exact .inl ⟨rfl,rfl⟩
   |false=>
    rw[ar Tz,ar Tz];have d:=D0 (f:=lD.int) yZ bf (bc 43 k);obtain⟨p,j,o⟩:=eA 43 k;cases al:eD ((bc 43 k).map bf)with
    |none=>exact .inl ⟨by rw[oQ,d,al];rfl,rfl⟩
    |some n=>right;right;refine⟨?_,q,(n,l),k,rfl,by rw[yN al];rfl,rfl⟩;rw[oQ,d,al,Tv,o,TJ];show(Tx||decide (((j.length+1:Nat):Int)=0))=Tx;rw[a5 (by ext)];rfl
  .have h:iE w a=.none:=by
    unfold iE;rw[ar q];split
    .exact a7 rfl i
    .rfl
   rw[h,Ea (by rw[TJ];ext)];exact .inl ⟨rfl,rfl⟩
section
variable{t r0:ck Nat}{rs:ck (ck Nat)}
theorem wV{r:ck Nat}(h:r.length<=900)(e:iz r):HK (bc 32 r):=by have a:=cO 32 r;exact⟨by have:=a.2;ext,λw b=>⟨by have:=(a.1 w b).2.1;ext,λx d=>e x ((a.1 w b).2.2 x d)⟩⟩
theorem wz{k:Nat}{r:ck Nat}(h:(r0::rs)[k]?=ax r):aG (.list ((r0::rs).map w9)) (nd k)=-(w9 r):=PM (by rw[TU,h];rfl)
theorem Q0{ls:ck (ck Mg)}{cs:ck (ck Int×ck Nat)}{c:ck Int×ck Nat}{b a:cv PV}:(eQ t r0 rs ls cs b a).set 3 (ax (.ow (cs.map cn++[cn c])))=eQ t r0 rs ls (cs++[c]) b a:=by unfold eQ;rw[UY];rfl
theorem M7{ls:ck (ck Mg)}{cs:ck (ck Int×ck Nat)}{l:ck Mg}{b a:cv PV}:(eQ t r0 rs ls cs b a).set 2 (ax (.ow (ls.map cU++[cU l])))=eQ t r0 rs (ls++[l]) cs b a:=by unfold eQ;rw[UY];rfl
theorem xX(k:Nat):oO (nd k) (.int 0)=-(.bool (decide (0<k))):=by show ax (RV.fz (.bool (decide ((k:Int)>0))))=_;congr 3;apply decide_eq_decide.mpr;ext
theorem SD{ls:ck (ck Mg)}{cs:ck (ck Int×ck Nat)}{d:cv PV}(j:r0.length<=900)(g:iz r0){N C:aD->Prop}{T:RV->Prop}(h:jI (v3 (da (bc 32 r0)))=Ld->T (.fz (.tuple [.int 2,nd 0,.none])))(i:jI (v3 (da (bc 32 r0)))=Tx->∀d,N (eQ t r0 rs ls cs (-(nd 0)) d)):Go (No (eQ t r0 rs ls cs (-(nd 0)) d)) N C T:=by have e:=rT (wV j g);have f:=wz (r0:=r0) (rs:=rs) (k:=0) rfl;unfold No;refine aM (ρ3:=eQ t r0 rs ls cs (-(nd 0)) (-(v3 (da (bc 32 r0))))) (eH (rv:=.fz (v3 (da (bc 32 r0)))) (ad (aO (rv:=.fz (w9 r0)) (bQ rfl) (af rfl) rfl rfl f) (ad (aO (rv:=.fz (.bool Ld)) (af rfl) av rfl rfl (wN 0 0)) ai)) rfl rfl e) rfl rfl ?_;refine aP (b:=jI (v3 (da (bc 32 r0)))) (C8 (Pn _) rfl) (λq=>aW (pv:=.fz (.tuple [.int 2,nd 0,.none])) (gy (ad av (ad (af rfl) (ad av ai))) rfl (show 3<=1000 by decide)) rfl (h q)) (λq=>ay ?_);refine eh (b:=Tx) (bR (a:=Tx) (b:=Tx) (aw (aQ (af rfl) av rfl rfl (xX 0)) rfl) λz=>by cases z) (λz=>by cases z) (λ_=>?_);exact eh (b:=Tx) (aw (aQ (af rfl) av rfl rfl (xX 0)) rfl) (λz=>by cases z) (λ_=>cV (i q _))
theorem Tb{i:Nat}{r:ck Nat}(H:rs[i]?=ax r)(I:r.length<=900)(J:iz r){ls:ck (ck Mg)}{cs:ck (ck Int×ck Nat)}(Q:ls.length<=1000)(P:cs.length<=1000){m:cv PV}{N C:aD->Prop}{T:RV->Prop}(u:fJ (ls,cs) r=CL->T (.fz (.tuple [.int 2,nd (i+1),.none])))(v:∀st,fJ (ls,cs) r=ax st->∀m,N (eQ t r0 rs st.1 st.2 (-(nd (i+1))) m)):Go (No (eQ t r0 rs ls cs (-(nd (i+1))) m)) N C T:=by
 obtain⟨w,a,e⟩:=eA 32 r;have ow:=wV I J;rw[e]at ow;have E:=z8 ow;have j:=wz (r0:=r0) (rs:=rs) (k:=i+1) (r:=r) H;have A:w9 r=.list ((w::a).map ap):=by unfold w9;rw[e]
 rw[A]at j;have eq:bV (nd (i+1)) (nd 0)=-(.bool Tx):=by rw[wN,a5 (by ext)]
 have K:oO (nd (i+1)) (.int 0)=-(.bool Ld):=by rw[xX,a4 (by ext)]
 have G:aG (.list ((w::a).map ap)) (.int 0)=-(ap w):=nr;have L:=M6 (ow.2 w TC).2;unfold No;refine aM (ρ3:=eQ t r0 rs ls cs (-(nd (i+1))) (-(iE w a))) (eH (rv:=.fz (iE w a)) (ad (aO (rv:=.fz (.list ((w::a).map ap))) (bQ rfl) (af rfl) rfl rfl j) (ad (aO (rv:=.fz (.bool Tx)) (af rfl) av rfl rfl eq) ai)) rfl rfl E) rfl rfl ?_;have tup:∀{ρ:aD},ρ[4]?=ax (-(nd (i+1)))->bM {~~~2,ac 4,pC .none} ρ=.ok (.fz (.tuple [.int 2,nd (i+1),.none]),ρ):=λh=>gy (ad av (ad (af h) (ad av ai))) rfl (show 3<=1000 by decide);have g:ag (ah bV (ah aG (ah aG (ac 1) (ac 4)) (~~~0)) (pC (.str "layer"))) (eQ t r0 rs ls cs (-(nd (i+1))) (-(iE w a)))=.ok (decide (w=wL),eQ t r0 rs ls cs (-(nd (i+1))) (-(iE w a))):=aw (aQ (dx:=ap w) (aO (rv:=.fz (ap w)) (aO (rv:=.fz (.list ((w::a).map ap))) (bQ rfl) (af rfl) rfl rfl j) av rfl rfl G) av rfl rfl L) rfl;have o:ag (ah oO (ac 4) (~~~0)) (eQ t r0 rs ls cs (-(nd (i+1))) (-(iE w a)))=.ok (Ld,eQ t r0 rs ls cs (-(nd (i+1))) (-(iE w a))):=aw (aQ (af rfl) av rfl rfl K) rfl;refine aP (b:=jI (iE w a)) (C8 (Ja ow) rfl) (λq=>aW (tup rfl) rfl ?_) (λq=>ay ?_)
 .rcases yk e (ls,cs)with⟨_,z⟩|⟨z,_⟩|⟨z,_⟩
  .exact u z
  .rw[z]at q;cases q
  .rw[z]at q;cases q
 .rcases yk e (ls,cs)with⟨z,_⟩|⟨_,n,l,p,z⟩|⟨_,n,c,k,M,O,z⟩
  .rw[z]at q;cases q
  .refine eh (b:=Ld) (bR o λ_=>by rw[g,a4 n]) (λ_=>?_) (λz=>by cases z)
   have B:bF [.list (cs.map cn)]=-(nd cs.length):=by show ax (RV.fz (.int ((cs.map cn).length:Int)))=_;rw[Tv]
   refine aP (b:=decide (0<cs.length)) (aw (aQ (dx:=nd cs.length) (bC (rv:=.fz (nd cs.length)) (ad (bQ rfl) ai) rfl B) av rfl rfl (xX _)) rfl) (λy=>aW (tup rfl) rfl ?_) (λy=>ay ?_)
   .rcases z with⟨f,z⟩|⟨f,z⟩
    .have f:cs=[]:=f;rw[f]at y;cases y
    .exact u z
   .rcases z with⟨f,z⟩|⟨f,z⟩
    .have f:cs=[]:=f;subst f;refine gJ (iP (es:=ls.map cU) (ds:=ls.map cU) (d:=cU l) rfl (af rfl) (by rw[p];rfl) rfl (by rw[Tv];ext) M7) (v _ z _)
    .exact a7 (show cs=[]from List.eq_nil_of_length_eq_zero (by have:=of_decide_eq_false y;ext)) f
  .refine eh (b:=Tx) (bR o λ_=>by rw[g,a5 n]) (λz=>by cases z) (λ_=>?_)
   refine eh (b:=Ld) o (λ_=>?_) (λz=>by cases z);have F:aG (.list ((w::a).map ap)) (.int 2)=-(ap c.2):=by rw[M];exact jZ (by decide) rfl
   refine gJ (iP (es:=cs.map cn) (ds:=cs.map cn) (d:=cn c) rfl (gy (ds:=[iE w a,ap c.2]) (ad (af rfl) (ad (aO (rv:=.fz (ap c.2)) (aO (rv:=.fz (.list ((w::a).map ap))) (bQ rfl) (af rfl) rfl rfl j) av rfl rfl F) ai)) rfl (show 2<=1000 by decide)) (by rw[O];rfl) rfl (by rw[Tv];ext) Q0) (v _ z _)
def IQ(t r0:ck Nat)(rs:ck (ck Nat))(i:Nat)(ρ:aD):Prop:=∃ls cs o4 o5,ρ=eQ t r0 rs ls cs o4 o5/\match i with
 |0=>ls=[]/\cs=[]
 |j+1=>jI (v3 (da (bc 32 r0)))=Tx/\eF (rs.take j)=ax (ls,cs)
theorem DM(B:r0.length<=900)(w:iz r0)(f:YY rs){v:D}(m:jI (v3 (da (bc 32 r0)))=Ld->v=.tuple [.int 2,nd 0,.none])(h:∀k st r,jI (v3 (da (bc 32 r0)))=Tx->rs[k]?=ax r->eF (rs.take k)=ax st->fJ st r=CL->v=.tuple [.int 2,nd (k+1),.none]){N C:aD->Prop}{g:FS}(A:∀ls cs o4 o5,jI (v3 (da (bc 32 r0)))=Tx->eF rs=ax (ls,cs)->Go (g (eQ t r0 rs ls cs o4 o5)) N C (λr=>r=.fz v)):Go (aj (hG (hV d8 {b8 bF {ac 1}}) (gN 4) No) g (eQ t r0 rs [] [] CL CL)) N C (λr=>r=.fz v):=by
 have p:bF [.list ((r0::rs).map w9)]=-(nd (r0::rs).length):=by show ax (RV.fz (.int (((r0::rs).map w9).length:Int)))=_;rw[Tv]
 have hn:=f.n;refine fW (IQ t r0 rs) (iv (ds:=[nd (r0::rs).length]) (ad (bC (rv:=.fz (nd (r0::rs).length)) (ad (bQ rfl) ai) rfl p) ai) rfl (kH (n:=(r0::rs).length) (by rw[TJ];ext))) ⟨[],[],CL,CL,rfl,rfl,rfl⟩ ?_ ?_
 .intro i d ρ y a
  obtain⟨hi,rfl⟩:=sD y;obtain⟨ls,cs,o4,o5,rfl,a⟩:=a;refine⟨eQ t r0 rs ls cs (-(nd i)) o5,rfl,?_⟩;cases i with
  |zero=>obtain⟨rfl,rfl⟩:=a;exact SD B w (λq=>by rw[m q]) λq o5=>⟨[],[],_,_,rfl,q,rfl⟩
  |succ j=>obtain⟨q,b⟩:=a;rw[TJ]at hi;obtain⟨r,e⟩:∃r,rs[j]?=ax r:=⟨_,TF (by ext)⟩;have u:=f.r r (Uk e);have o:=(pJ (f.take j) b).1;have lt:=Uq (i:=j) (l:=rs);dsimp only at o;refine Tb e (by ext) u.2 (by ext) (by ext) (λz=>by rw[h j (ls,cs) r q e b z]) λst z o5=>⟨st.1,st.2,_,_,rfl,q,?_⟩;rw[U5,e];show eF (rs.take j++[r])=_;rw[gb,b];exact z
 .rintro ρ ⟨ls,cs,o4,o5,rfl,a⟩;rw[bS,Ul,TJ]at a;obtain⟨q,b⟩:=a;rw[V8]at b;exact A ls cs o4 o5 q b
end
theorem rA{o:cv (cv Int×cv Int)}(h:jI (v3 o)=Tx):∃x y,o=ax (ax x,ax y):=by
 cases o with
 |none=>cases h
 |some p=>
  obtain⟨x,y⟩:=p;cases x with
  |none=>cases h
  |some x=>cases y with
   |none=>cases h
   |some y=>exact⟨x,y,rfl⟩
theorem De{o:cv (cv Int×cv Int)}(h:jI (v3 o)=Ld):Mv o=.none:=by
 cases o with
 |none=>rfl
 |some p=>
  obtain⟨x,y⟩:=p;cases x with
  |none=>rfl
  |some x=>cases y with
   |none=>rfl
   |some y=>cases h
section
variable{t r0:ck Nat}{rs:ck (ck Nat)}
theorem zn(p:t.length<=900)(e:bc 10 t=r0::rs):bE 1 [] (hW (nA de (ac 0) {pC (.str "\n")})) (gN 0) aU (nA de (ac 0) {pC (.str " ")}) [-(ap t),CL,CL,CL,CL,CL,CL,CL]=.ok (.ow ((r0::rs).map w9),[-(ap t),CL,CL,CL,CL,CL,CL,CL]):=by
 have b:lD.str "\n"=ap [10]:=by show lD.str _=lD.str _;congr 1
 have h:lD.str " "=ap [32]:=by show lD.str _=lD.str _;congr 1
 have a:=cO 10 t;have j:=iy (c:=10) (l:=t) (by ext);rw[e,<-b]at j;rw[e]at a;have m:g9 (cf (gN 0) aU (nA de (ac 0) {pC (.str " ")}) ((r0::rs).map ap) [CL] [])=.ok ((r0::rs).map w9):=sA (f:=ap) (g:=w9) (λρ=>∃o,ρ=[o]) (r0::rs) (by have:=a.2;ext) ⟨CL,rfl⟩ (by rintro r k ρ ⟨o,rfl⟩;have i:=iy (c:=32) (l:=r) (by have:=(a.1 r k).2.1;ext);rw[<-h]at i;exact⟨_,lY rfl rfl (gW (rv:=.ow ((bc 32 r).map ap)) (af rfl) rfl (ad av ai) rfl i) rfl rfl,_,rfl⟩);exact bg (dc (d:=.list ((r0::rs).map ap)) (gW (rv:=.ow ((r0::rs).map ap)) (af rfl) rfl (ad av ai) rfl j) rfl rfl) rfl m
theorem nM(o:t.length<=900)(p:iz t)(e:bc 10 t=r0::rs)(u:YY rs){v:D}(i:jI (v3 (da (bc 32 r0)))=Ld->v=.tuple [.int 2,nd 0,.none])(g:∀k st r,jI (v3 (da (bc 32 r0)))=Tx->rs[k]?=ax r->eF (rs.take k)=ax st->fJ st r=CL->v=.tuple [.int 2,nd (k+1),.none])(h:∀x y st,da (bc 32 r0)=ax (ax x,ax y)->eF rs=ax st->v=gD ⟨x,st.1,st.2,y⟩):cA [ap t]=.ok (.fz v):=by have w:=(cO 10 t).1 r0 (by rw[e];exact TC);have a:iz r0:=λx n=>p x (w.2.2 x n);refine aY (ρ:=[-(ap t),CL,CL,CL,CL,CL,CL,CL]) rfl ?_;unfold dX;refine aM (ρ3:=[-(ap t),ax (.ow ((r0::rs).map w9)),CL,CL,CL,CL,CL,CL]) (zn o e) rfl rfl ?_;refine aM (ρ3:=[-(ap t),ax (.ow ((r0::rs).map w9)),ax (.ow []),CL,CL,CL,CL,CL]) (by fail "ev") rfl rfl ?_;refine aM (ρ3:=eQ t r0 rs [] [] CL CL) (by fail "ev") rfl rfl ?_;refine DM (by ext) a u i g λb d l j q z=>?_;obtain⟨x,y,hn⟩:=rA q;have f:=rT (wV (r:=r0) (by ext) a);rw[hn]at f;have m:=wz (r0:=r0) (rs:=rs) (k:=0) rfl;refine aM (ρ3:=[-(ap t),ax (.ow ((r0::rs).map w9)),ax (.ow (b.map cU)),ax (.ow (d.map cn)),l,j,-(.int x),-(.int y)]) (eH (rv:=.fz (.tuple [.int x,.int y])) (ad (aO (rv:=.fz (w9 r0)) (bQ rfl) av rfl rfl m) (ad av ai)) rfl rfl f) rfl rfl ?_;rw[h x y (b,d) hn z];exact aR (gy (ds:=[.int x,.tuple (b.map cU),.tuple (d.map cn),.int y]) (ad (af rfl) (ad (bC (rv:=.fz (.tuple (b.map cU))) (ad (bQ rfl) ai) rfl rfl) (ad (bC (rv:=.fz (.tuple (d.map cn))) (ad (bQ rfl) ai) rfl rfl) (ad (af rfl) ai)))) rfl (show 4<=1000 by decide)) rfl rfl
end
theorem i4(c:Nat):∀l:ck Nat,(∀w∈bc c l,w.Sublist l)/\(bc c l).length=l.count c+1:=by
 intro l
 induction l with
 |nil=>exact⟨λw f=>by cases(TX.mp f);exact Yt _,rfl⟩
 |cons a r d=>
  obtain⟨w,g,e⟩:=eA c r;by_cases n:a=c
  .subst n
   rw[kn];refine⟨λv b=>?_,by rw[TJ,d.2,List.count_cons_self]⟩;rcases TL.mp b with rfl|b
   .exact List.nil_sublist _
   .exact(d.1 v b).cons a
  .rw[dM n e]
   rw[e]at d;refine⟨λv b=>?_,by rw[abF n,<-d.2];rfl⟩;rcases TL.mp b with rfl|b
   .exact(d.1 w TC).cons_cons a
   .exact(d.1 v (TH _ b)).cons a
theorem vo{α:Type}{l:ck (cv α)}{r:ck α}(h:eD l=ax r):r.length=l.length:=by rw[tH h,Tv]
theorem Js{rows:ck (ck Nat)}(h:YY rows)(K:∀x∈rows,x.count 43<=50){st:Ps}(e:eF rows=ax st)(x y:Int):GF 400 ⟨x,st.1,st.2,y⟩:=by
 have R:=(pJ h e).1;have hn:=h.n;have f:(∀l∈st.1,l.length<=405/\∀m∈l,MF m)/\∀c∈st.2,c.1.length<=55/\HH c.2:=by
  refine vS (P:=λst=>(∀l∈st.1,l.length<=405/\∀m∈l,MF m)/\∀c∈st.2,c.1.length<=55/\HH c.2) rows _ st (λs r Q E i q=>?_) ⟨(λl j=>by cases j),(λc o=>by cases o)⟩ e;have C:=h.r r E;have t:=cO 32 r;rcases xo q with⟨l,g,rfl⟩|⟨c,M,rfl⟩
  .refine⟨λJ a=>?_,i.2⟩
   rcases Uy.mp a with a|a
   .exact i.1 J a
   .obtain rfl:=TX.mp a
    obtain⟨w,G,p⟩:=eA 32 r;rw[p]at g t;cases G with
    |nil=>cases g
    |cons v H=>
     rw[Gj]at g;split at g
     .have u:=vo g
      have ne:=tH g;rw[Tv]at u;refine⟨by have:=t.2;rw[TJ]at this;ext,λm hm=>?_⟩;have:ax m∈(v::H).map jh:=by rw[ne];exact TZ.mpr ⟨m,hm,rfl⟩
      obtain⟨b,L,N⟩:=TZ.mp this;exact(DF N (λz B=>C.2 z ((t.1 b (TH _ L)).2.2 z B))).2
     .cases g
  .refine⟨i.1,λF d=>?_⟩
   rcases Uy.mp d with d|d
   .exact i.2 F d
   .obtain rfl:=TX.mp d;obtain⟨w,k,p,A,O⟩:=Hz M;have I:=(i4 32 r).1 k (by rw[p];simp);have u:=vo O;rw[Tv,(i4 43 k).2]at u;have:=I.count_le 43;have:=K r E;refine⟨by ext,?_,λz B=>C.2 z ((t.1 F.2 (by rw[p];simp)).2.2 z B)⟩;unfold cK at A;rw[Tu]at A;have:=a6 A.1;ext
 refine⟨by show st.1.length<=_;ext,λl j=>?_,by show st.2.length<=_;ext,λc o=>?_⟩
 .exact⟨by have:=(f.1 l j).1;ext,(f.1 l j).2⟩
 .exact⟨by have:=(f.2 c o).1;ext,(f.2 c o).2⟩
theorem CY{rs:ck (ck Nat)}{k m:Nat}{s st:Ps}{r:ck Nat}(hm:eF (rs.take m)=ax s)(g:k<m)(f:rs[k]?=ax r)(e:eF (rs.take k)=ax st)(d:fJ st r=CL):False:=by obtain⟨b,a⟩:=lW (rs:=rs) (i:=k+1) (k:=m) (by ext) hm;rw[U5,f]at a;have a:eF (rs.take k++[r])=ax b:=a;rw[gb,e]at a;rw[show(ax st).bind (λst=>fJ st r)=fJ st r from rfl,d]at a;cases a
structure adm(t:ck Nat):Prop where
 l:t.length<=900
 c:iz t
 n:(bc 10 t).length<=300
 r:∀x∈bc 10 t,x.length<=390/\x.count 43<=50
theorem Cs{k:Nat}(h:k<=1000):mO ⟨"NoText",[("row",nd k)]⟩=.ok (.fz (.tuple [.int 2,nd k,.none])):=by unfold mO;dsimp only;rw[ar (by decide),ar (by decide),ak rfl,ak ⟨rfl,lc h⟩]
theorem x9{x:Xc}:mO x≠.ok (.fz .none):=by
 intro h;unfold mO at h;split at h
 .split at h
  .split at h<;>cases h
  .cases h
 .split at h
  .split at h
   .split at h<;>cases h
   .cases h
  .split at h
   .split at h
    .split at h<;>cases h
    .cases h
   .cases h
theorem Qb{t:ck Nat}(h:adm t):(∃k,cA [ap t]=.ok (.fz (.tuple [.int 2,nd k,.none]))/\aA [ap t]=.ok (.fz (.tuple [.int 2,nd k,.none])))\/
  ∃b,GF 400 b/\cA [ap t]=.ok (.fz (gD b))/\gu [gD b]=.ok (.fz (iL b))/\((iL b=.none/\aA [ap t]=.ok (.fz (gD b)))\/(iL b≠.none/\aA [ap t]=.ok (.fz (iL b)))):=by
 obtain⟨P,rs,e⟩:=eA 10 t;have m:=h.l;have hn:=h.n;have B:=h.r;have J:=(cO 10 t).1;rw[e]at hn B J;rw[TJ]at hn;have p:YY rs:=⟨by ext,λx g=>⟨(B x (TH _ g)).1,λz Q=>h.c z ((J x (TH _ g)).2.2 z Q)⟩⟩;have R:∀x∈rs,x.count 43<=50:=λx g=>(B x (TH _ g)).2;cases q:jI (v3 (da (bc 32 P)))with
 |true=>
  refine .inl ⟨0,?_,?_⟩
  .refine nM m h.c e p (λ_=>rfl) (λk f r z=>?_) (λx y f z=>?_)
   .rw[q]at z;cases z
   .rw[z]at q;cases q
  .rw[tM (Bk m h.c e (De q)),Cs (by ext)]
 |false=>
  obtain⟨x,y,g⟩:=rA q;rcases Aw rs rs.length (TQ _)with⟨f,u⟩|⟨k,f,r,U,E,v,C⟩
  .rw[V8]at u
   right;have F:=Js p R u x y;refine⟨⟨x,f.1,f.2,y⟩,F,?_,AF F (by ext),?_⟩
   .refine nM m h.c e p (λz=>?_) (λk d r z o j G=>?_) (λO M d o j=>?_)
    .rw[q]at z;cases z
    .exfalso;have m:=(TN.mp o).1;obtain⟨w,a⟩:=lW (rs:=rs) (i:=k+1) (k:=rs.length) (by ext) (by rw[V8];exact u);rw[U5,o]at a;have a:eF (rs.take k++[r])=ax w:=a;rw[gb,j]at a;rw[show(ax d).bind (λf=>fJ f r)=fJ d r from rfl,G]at a;cases a
    .rw[g]at o;cases o;rw[u]at j;cases j;rfl
   .rcases lz F (by ext)with⟨S,H⟩|⟨N,H,I⟩
    .exact .inl ⟨S,yK (yx m h.c e p g u H)⟩
    .exact .inr ⟨λz=>x9 (x:=N) (by rw[I,z]),by rw[tM (G8 m h.c e p g u H),I]⟩
  .refine .inl ⟨1+k,?_,?_⟩
   .refine nM m h.c e p (λz=>?_) (λA d T z o j G=>?_) (λO M d o j=>?_)
    .rw[q]at z;cases z
    .by_cases L:A<k
     .exact(CY v L o j G).elim
     .by_cases K:k<A
      .exact(CY j K E v C).elim
      .rw[show A+1=1+k by ext]
    .exfalso;obtain⟨w,a⟩:=lW (rs:=rs) (i:=k+1) (k:=rs.length) (by ext) (by rw[V8];exact j);rw[U5,E]at a;have a:eF (rs.take k++[r])=ax w:=a;rw[gb,v]at a;rw[show(ax f).bind (λf=>fJ f r)=fJ f r from rfl,C]at a;cases a
   .rw[tM (D5 m h.c e p g E v C),Cs (by ext)]
def iC(k:Nat):Str:=⟨#[48+k]⟩
theorem Lb:∀k:Nat,k<10->VP (toString (k:Int))=iC k:=by left
theorem kb{i:Int}(b:0<=i)(a:i<=9):mY [.int i]=-(.str (iC i.toNat)):=by
 show(if i.natAbs<10^30 then ax (RV.fz (.str (VP (toString i))))else CL)=_;have e:i=((i.toNat:Nat):Int):=by ext
 rw[ak (by ext)]
 conv=>lhs;rw[e]
 rw[Lb _ (by ext)]
def wS:Mn->Str
 |.UP c=>jz c
 |.Vh n=>⟨#[62,48+n.toNat]⟩
 |.XF c n=>⟨#[97+c,62,48+n.toNat]⟩
 |.once n=>⟨#[126,48+n.toNat]⟩
 |.none=>⟨#[46]⟩
 |.below=>⟨#[95]⟩
theorem JB:(">":Str)=⟨#[62]⟩:=by left
theorem Qc:("~":Str)=⟨#[126]⟩:=by left
theorem Q4:(".":Str)=⟨#[46]⟩:=by left
theorem QQ:("_":Str)=⟨#[95]⟩:=by left
theorem Pw:("":Str)=⟨#[]⟩:=by left
theorem gI{a b c:Str}(e:a++b=c)(h:a.length+b.length<=1000):eB (.str a) (.str b)=-(.str c):=by
 show(if a.length+b.length<=1000000 then ax (RV.fz (.str (a++b)))else CL)=_
 grind
theorem E8{a b:Str}(ha:lD.strOk a=Ld)(d:lD.strOk b=Ld)(h:(a==b)=Tx):bV (.str a) (.str b)=-(.bool Tx):=eS ha d h
theorem Er{b:Bool}{x:Bool}(h:b=x):ax (RV.fz (.bool b))=-(.bool x):=by rw[h]
theorem pM{xs:ck D}(h:∀(i:Nat) (x:D),xs[i]?=ax x->x=.bool Ld):mV [.list xs]=-(.bool Ld):=by
 have:on xs=ax (T1 xs.length Ld):=by
  induction xs with
  |nil=>rfl
  |cons x r a=>have e:x=.bool Ld:=h 0 x rfl;subst e;show(on r).map (Ld::·)=_;rw[a λi y b=>h (i+1) y (by assumption)];rfl
 show(on xs).map (λbs=>RV.fz (.bool (bs.all id)))=_;simp_all
section
variable{b:Bd}
theorem RY:aG (bD b) (.int 0)=-(.int b.n):=iV
theorem RL:aG (bD b) (.int 1)=-(.tuple (b.ls.map qK)):=qU
theorem Sb:aG (bD b) (.int 2)=-(.tuple (b.cs.map WD)):=Fg
theorem Ta:aG (bD b) (.int 3)=-(.int b.wt):=Ls (by decide) rfl
end
def Fl:Nat->FN
 |0=>Mb
 |n+1=>bN 2 (aJ (Fl n))
inductive Lk:Nat->D->Prop
 |str {n:Nat} {x:Str}:lD.strOk x=Ld->Lk (n+1) (.str x)
 |int {n:Nat} {i:Int}:Lk (n+1) (.int i)
 |tup {n:Nat} {ds:ck D}:ds.length<=1000->(∀d∈ds,Lk n d)->Lk (n+1) (.tuple ds)
theorem Ce(i:Int):ij [.int i]=.ok (.fz (.bool Ld)):=by refine aY (ρ:=[-(.int i)]) rfl ?_;unfold fU;fail "go";rfl
theorem sH:∀(n:Nat) (d:D),Lk n d->Fl n [d,d]=.ok (.fz (.bool Ld))
 |0,d,h=>by cases h
 |n+1,d,h=>by
  refine aY (ρ:=[-(d),-(d)]) rfl ?_;unfold aJ;cases h with
  | @str _ x hx=>
   have eq:=pO hx;fail "go"
   .intro q;cases q
   intro _;fail "go"
   .intro _;fail "go";rfl
   .intro q;cases q
  | @int _ i=>
   have l:=Ce i;have eq:bV (.int i) (.int i)=-(.bool Ld):=by rw[gC];exact Er (a4 rfl)
   fail "go"
   .intro q;cases q
   intro _;fail "go"
   .intro q;cases q
   intro _;fail "go";rfl
  | @tup _ ds hl hd=>
   have m:iG (nd ds.length) (nd ds.length)=-(.bool Tx):=by rw[A4];exact Er (by rw[a4 rfl];rfl)
   obtain⟨g,e,r,b⟩:=dR (gt:=gT 2 (l9 (gN 0) (l9 (gN 1) wu))) (ft:=aU) (fe:=aK (Fl n) 2 {ac 0,ac 1}) (ds:=jW ds ds) (ρ:=[CL,CL]) (λρ=>∃o p,ρ=[o,p]) (λ_ x=>x=.bool Ld) ⟨CL,CL,rfl⟩ (by rw[mj];ext) (by
    rintro j d a ρ ⟨o,p,rfl⟩;rw[lX]at a;cases q1:ds[j]? with
    |none=>rw[q1]at a;cases a
    |some x=>rw[q1]at a;cases a;have k:=sH n x (hd x (Uk q1));exact⟨_,_,lY rfl rfl (by fail "ev") rfl rfl,⟨_,_,rfl⟩,rfl⟩)
   have f:=pM b;fail "go"
   .intro _
    fail "go"
    .intro q;cases q
    intro _;refine ay ?_;exact aW (bC (ad (bg (by fail "ev") rfl e) ai) rfl f) rfl rfl
   .intro q;cases q
theorem wq(c:Nat)(h:c<26):lD.strOk (jz c)=Ld:=by
 have:∀c,c<26->lD.strOk (jz c)=Ld:=by left
 exact this c h
theorem Qm{L nL:Int}{m:Mn}(n:Nat)(h:VM L nL m):Lk (n+2) (mD m):=by
 cases m with
 |UP c=>
   refine .tup (by show 2<=1000;decide) λd a=>?_;simp only[TL,TY,or_false]at a;rcases a with rfl|rfl
   .exact .str (by left)
   .exact .str (wq c h)
 |Vh k=>
   refine .tup (by show 2<=1000;decide) λd a=>?_;simp only[TL,TY,or_false]at a;rcases a with rfl|rfl
   .exact .str (by left)
   .exact .int
 |once k=>
   refine .tup (by show 2<=1000;decide) λd a=>?_;simp only[TL,TY,or_false]at a;rcases a with rfl|rfl
   .exact .str (by left)
   .exact .int
 |XF c k=>
   refine .tup (by show 3<=1000;decide) λd a=>?_;simp only[TL,TY,or_false]at a;rcases a with rfl|rfl|rfl
   .exact .str (by left)
   .exact .str (wq c h.1)
   .exact .int
 |none=>refine .tup (by show 1<=1000;decide) λd a=>?_;simp only[TL,TY,or_false]at a;subst a;exact .str (by left)
 |below=>refine .tup (by show 1<=1000;decide) λd a=>?_;simp only[TL,TY,or_false]at a;subst a;exact .str (by left)
theorem IU{n:Nat}{s:ck Nat}(h:s.length<=1000):Lk (n+2) (.tuple (cG s)):=.tup (by rw[bS];exact h) λd a=>by obtain⟨k,_,rfl⟩:=TZ.mp a;exact .int
theorem A3{a:ck Mn}{c:ck Nat×Nat}(h:VC a c):c.1.length<=a.length:=by
 refine sr h.2.1 λk hm=>?_;have:=h.2.2.1 k hm;unfold vX at this;cases q:a[k]? with
 |none=>rw[q]at this;cases this
 |some m=>exact(TN.mp q).1
theorem Jp{b:Bd}(h:VB b):Lk 6 (bD b):=by
 refine .tup (by show 4<=1000;decide) λd a=>?_;have n:=h.n5;have o:=h.l3;have p:=h.c4;simp only[TL,TY,or_false]at a;rcases a with rfl|rfl|rfl|rfl
 .exact .int
 .refine .tup (by rw[Tv];ext) λd a=>?_;obtain⟨l,g,rfl⟩:=TZ.mp a;obtain⟨i,hi⟩:=Ve.mp g;obtain⟨k,f⟩:=h.vl i l hi;refine .tup (by rw[Tv];ext) λd a=>?_;obtain⟨m,hm,rfl⟩:=TZ.mp a;exact Qm 1 (f m hm)
 .refine .tup (by rw[Tv];ext) λd a=>?_
  obtain⟨c,j,rfl⟩:=TZ.mp a;have v:=h.vc c j;refine .tup (by show 2<=1000;decide) λd a=>?_;simp only[TL,TY,or_false]at a;rcases a with rfl|rfl
  .refine IU ?_
   have:=A3 v;have:(b.ls.headD []).length<=5:=by
    cases q:b.ls with
    |nil=>show 0<=5;decide
    |cons e r=>have:=(h.vl 0 e (by rw[q];rfl)).1;show e.length<=5;ext
   ext
  .exact .str (wq _ v.2.2.2)
 .exact .int
theorem La{T:ck (lD×lD)}{a:FE}{ρ ρ1:aD}{pv:PV}{d:D}{rv:RV}(h:a ρ=.ok (pv,ρ1))(hd:jb ρ1 pv=ax d)(b:PP T d=ax rv):MA T a ρ=.ok (rv.pv,ρ1):=by unfold MA;rw[h,fo,hd,aq,fo,b,aq,fo]
def Ro:ck (lD×lD):=[(lD.str "layer",lD.str ">"),(lD.str "once",lD.str "~"),(lD.str "none",lD.str "."),(lD.str "below",lD.str "_")]
def nS:Mn->ck Int
 |.Vh n=>[n]
 |.once n=>[n]
 |_=>[]
theorem gH{m:Mn}{w z:Str}(hm:m=.none\/m=.below\/(∃n,m=.Vh n/\0<=n/\n<=9)\/∃n,m=.once n/\0<=n/\n<=9)(f:aG (mD m) (.int 0)=-(.str w))(hd:PP Ro (.str w)=-(.str z))
  (C:ur (mD m) (ax 1) CL=-(.tuple ((nS m).map .int))) (e:z++TV ⟨#[]⟩ ((nS m).map λn=>iC n.toNat)=wS m) (E:z.length<=10):
  ah eB (MA Ro (ah aG (ac 0) (~~~0))) (nA ie (pC (.str "")) {bE 1 [] (hW (ke ur (ac 0) (bK (~~~1)) cH)) (gN 0) aU (b8 mY {ac 0})}) [-(mD m)]=.ok (.fz (.str (wS m)),[-(mD m)]):=by
 have hn:∀n∈nS m,0<=n/\n<=9:=by
  rcases hm with rfl|rfl|⟨n,rfl,h⟩|⟨n,rfl,h⟩
  .intro n z;cases z
  .intro n z;cases z
  .intro k z;rw[TX.mp z];exact h
  .intro k z;rw[TX.mp z];exact h
 have g:(nS m).length<=1:=by
  rcases hm with rfl|rfl|⟨n,rfl,h⟩|⟨n,rfl,h⟩
  .exact Vd _
  .exact Vd _
  .exact TQ 1
  .exact TQ 1
 obtain⟨xs,y,v,u⟩:=dR (gt:=gN 0) (ft:=aU) (fe:=b8 mY {ac 0}) (ds:=(nS m).map .int) (ρ:=[CL]) (λρ=>∃o,ρ=[o]) (λi x=>∃n,(nS m)[i]?=ax n/\x=.str (iC n.toNat)) ⟨CL,rfl⟩ (by rw[Tv];ext) (by
  rintro j d a ρ ⟨o,rfl⟩;rw[TU]at a;cases q:(nS m)[j]? with
  |none=>rw[q]at a;cases a
  |some n=>rw[q]at a;cases a;have l:=hn n (Uk q);have F:=kb l.1 l.2;exact⟨_,_,lY rfl rfl (by fail "ev") rfl rfl,⟨_,rfl⟩,n,rfl,rfl⟩)
 have t:xs=((nS m).map λn=>iC n.toNat).map .str:=by
  refine XU λi=>?_;rw[Uz,TU];cases q:xs[i]? with
  |none=>
   have:(nS m).length<=i:=by have:=WE.mp q;rw[v,Tv]at this;exact this
   rw[Wr this];rfl
  |some x=>obtain⟨n,r,rfl⟩:=u i x q;rw[r];rfl
 subst t;have p:∀w∈(nS m).map (λn=>iC n.toNat),w.length<=1:=λw f=>by obtain⟨n,_,rfl⟩:=TZ.mp f;exact TQ _
 have a:ie "" [.list (((nS m).map λn=>iC n.toNat).map .str)]=-(.str (TV ⟨#[]⟩ ((nS m).map λn=>iC n.toNat))):=by
  show(match rb (((nS m).map λn=>iC n.toNat).map .str)with
   |some b=>if ZL "" b=Ld then ax (RV.fz (.str (Txt.join "" b)))else CL
   |none=>CL)=_
  rw[vQ];dsimp only;have ok:ZL "" ((nS m).map λn=>iC n.toNat)=Ld:=by unfold ZL;have:=Zu (sep:= "") (texts:=(nS m).map λn=>iC n.toNat) (B:=1) p (by rw[Tv,Pw];show _+_*0<=_;ext);rw[this];rfl
  rw[ak ok,show Txt.join "" ((nS m).map λn=>iC n.toNat)=TV "" ((nS m).map λn=>iC n.toNat)from YO _ _,Pw]
 have A:(TV ⟨#[]⟩ ((nS m).map λn=>iC n.toNat)).length<=5:=by
  rcases hm with rfl|rfl|⟨n,rfl,h⟩|⟨n,rfl,h⟩
  .exact Vd _
  .exact Vd _
  .show 1<=5;decide
  .show 1<=5;decide
 have ha:eB (.str z) (.str (TV ⟨#[]⟩ ((nS m).map λn=>iC n.toNat)))=-(.str (wS m)):=gI e (by ext);refine aO (rv:=.fz (.str (wS m))) (La (rv:=.fz (.str z)) (by fail "ev") rfl hd) (gW (rv:=.fz (.str _)) av rfl (ad (bg (dc (by fail "ev") rfl rfl) rfl y) ai) rfl a) rfl rfl ha
theorem vK{L nL:Int}{m:Mn}(h:VM L nL m)(b:nL<=3):gO [mD m]=.ok (.fz (.str (wS m))):=by
 refine aY (ρ:=[-(mD m)]) rfl ?_;unfold gU;cases m with
 |UP c=>
  have a:aG (mD (.UP c)) (.int 0)=-(.str "letter"):=iV;have e4:aG (mD (.UP c)) (.int 1)=-(.str (jz c)):=qU;have e3:bV (.str "letter") (.str "letter")=-(.bool Ld):=pO (by left);fail "go"
  .intro _;fail "go";rfl
  .intro q;cases q
 |XF c n=>
  have hn:1<=n/\n<nL:=h.2;have a:aG (mD (.XF c n)) (.int 0)=-(.str "tap"):=iV;have e9:aG (mD (.XF c n)) (.int 1)=-(.str (jz c)):=qU;have e4:aG (mD (.XF c n)) (.int 2)=-(.int n):=Fg;have e3:bV (.str "tap") (.str "letter")=-(.bool Tx):=E8 (by left) (by left) (by left);have e5:bV (.str "tap") (.str "tap")=-(.bool Ld):=pO (by left);have e6:=kb (i:=n) (by ext) (by ext);have RE:eB (.str (jz c)) (.str ">")=-(.str ⟨#[97+c,62]⟩):=gI (by rw[JB];rfl) (by rw[JB];show 1+1<=1000;decide);have e7:eB (.str ⟨#[97+c,62]⟩) (.str (iC n.toNat))=-(.str (wS (.XF c n))):=gI rfl (by show 2+1<=1000;decide);fail "go"
  .intro q;cases q
  intro _;fail "go"
  .intro _;fail "go";rfl
  .intro q;cases q
 |none=>
  have a:aG (mD .none) (.int 0)=-(.str "none"):=iV;have e3:bV (.str "none") (.str "letter")=-(.bool Tx):=E8 (by left) (by left) (by left);have e5:bV (.str "none") (.str "tap")=-(.bool Tx):=E8 (by left) (by left) (by left);have t:=gH (m:=.none) (w:= "none") (z:=⟨#[46]⟩) (.inl rfl) a (by rw[<-Q4];rfl) rfl rfl (by show 1<=10;decide);fail "go"
  .intro q;cases q
  intro _;fail "go"
  .intro q;cases q
  intro _;refine ay (aR t rfl rfl)
 |below=>
  have a:aG (mD .below) (.int 0)=-(.str "below"):=iV;have e3:bV (.str "below") (.str "letter")=-(.bool Tx):=E8 (by left) (by left) (by left);have e5:bV (.str "below") (.str "tap")=-(.bool Tx):=E8 (by left) (by left) (by left);have t:=gH (m:=.below) (w:= "below") (z:=⟨#[95]⟩) (.inr (.inl rfl)) a (by rw[<-QQ];rfl) rfl rfl (by show 1<=10;decide);fail "go"
  .intro q;cases q
  intro _;fail "go"
  .intro q;cases q
  intro _;refine ay (aR t rfl rfl)
 |Vh n=>
  have hn:1<=n/\n<nL:=h;have a:aG (mD (.Vh n)) (.int 0)=-(.str "layer"):=iV;have e3:bV (.str "layer") (.str "letter")=-(.bool Tx):=E8 (by left) (by left) (by left);have e5:bV (.str "layer") (.str "tap")=-(.bool Tx):=E8 (by left) (by left) (by left);have t:=gH (m:=.Vh n) (w:= "layer") (z:=⟨#[62]⟩) (.inr (.inr (.inl ⟨n,rfl,by ext,by ext⟩))) a (by rw[<-JB];rfl) rfl rfl (by show 1<=10;decide);fail "go"
  .intro q;cases q
  intro _;fail "go"
  .intro q;cases q
  intro _;refine ay (aR t rfl rfl)
 |once n=>
  have hn:1<=n/\n<nL:=h;have a:aG (mD (.once n)) (.int 0)=-(.str "once"):=iV;have e3:bV (.str "once") (.str "letter")=-(.bool Tx):=E8 (by left) (by left) (by left);have e5:bV (.str "once") (.str "tap")=-(.bool Tx):=E8 (by left) (by left) (by left);have t:=gH (m:=.once n) (w:= "once") (z:=⟨#[126]⟩) (.inr (.inr (.inr ⟨n,rfl,by ext,by ext⟩))) a (by rw[<-Qc];rfl) rfl rfl (by show 1<=10;decide);fail "go"
  .intro q;cases q
  intro _;fail "go"
  .intro q;cases q
  intro _;refine ay (aR t rfl rfl)
theorem rB{α:Type}{f g:α->D}{fe:FE}{cp:aD}(xs:ck α)(n:xs.length<=1000000)(e:bX cp=cp)(b:∀x∈xs,fe (-(f x)::cp)=.ok (.fz (g x),-(f x)::cp)):g9 (cf (gN 0) aU fe (xs.map f) (CL::cp) [])=.ok (xs.map g):=by
 obtain⟨a,l,k,j⟩:=dR (gt:=gN 0) (ft:=aU) (fe:=fe) (ds:=xs.map f) (ρ:=CL::cp) (λρ=>∃o,ρ=o::cp) (λi y=>∃x,xs[i]?=ax x/\y=g x) ⟨CL,rfl⟩ (by simp_all) (by
  rintro i d hi ρ ⟨o,rfl⟩;rw[TU]at hi;cases q:xs[i]? with
  |none=>simp_all
  |some x=>
   obtain rfl:d=f x:=by simp_all
   have m:bX (ax (PV.fz (f x))::cp)=-(f x)::cp:=by show rq _::bX cp=_;rw[e];rfl
   exact⟨_,_,lY rfl rfl (b x (Uk q)) rfl m,⟨_,rfl⟩,x,rfl,rfl⟩)
 rw[l];congr 1;refine XU λi=>?_;rw[TU];cases q:a[i]? with
 |none=>
  have:xs.length<=i:=by have:=WE.mp q;rw[k,Tv]at this;exact this
  rw[Wr this];rfl
 |some y=>obtain⟨x,h,rfl⟩:=j i y q;rw[h];rfl
theorem Pg:(" ":Str)=⟨#[32]⟩:=by rfl
theorem N0:("\n":Str)=⟨#[10]⟩:=by rfl
theorem QL:("+":Str)=⟨#[43]⟩:=by rfl
def jK(n w:Nat):Str:=TV ⟨#[32]⟩ ["keys",iC n,"wait",iC w]
def iW(l:ck Mn):Str:=TV ⟨#[32]⟩ ("layer"::l.map wS)
def ik(s:ck Nat):Str:=TV ⟨#[43]⟩ (s.map iC)
def iK(c:ck Nat×Nat):Str:=TV ⟨#[32]⟩ ["chord",ik c.1,jz c.2]
def ku(b:Bd):ck Str:=b.ls.map iW++b.cs.map iK
def ej(b:Bd):Str:=TV ⟨#[10]⟩ (jK b.n.toNat b.wt.toNat::ku b)
theorem GL:∀n:Nat,n<10->∀w:Nat,w<10->("keys ":Str)++iC n++(" wait ":Str)++iC w=jK n w:=by left
theorem JU:("layer ":Str)=("layer":Str)++⟨#[32]⟩:=by left
theorem K2:("chord ":Str)=("chord":Str)++⟨#[32]⟩:=by rfl
theorem BQ(m:Mn):(wS m).length<=3:=by cases m<;>(first|exact(show 1<=3 by decide)|exact(show 2<=3 by decide)|exact(show 3<=3 by decide))
theorem aB{α:Type}{P:α->Prop}{a:α}{l:ck α}(e:P a)(d:∀x∈l,P x):∀x∈a::l,P x:=λx b=>by
 rcases TL.mp b with z|z
 .rw[z];exact e
 .exact d x z
theorem zi(l:ck Mn):∀w∈("layer":Str)::l.map wS,w.length<=5:=aB (by left) λw a=>by obtain⟨m,_,rfl⟩:=TZ.mp a;exact UH (BQ m) (by decide)
theorem uu(s:ck Nat):∀w∈s.map iC,w.length<=1:=λw a=>by obtain⟨k,_,rfl⟩:=TZ.mp a;exact TQ _
theorem my{s:ck Nat}(h:s.length<=5):(ik s).length<=10:=by have:=g6 (d:=43) (uu s);rw[Tv]at this;unfold ik;ext
theorem Lp{c:ck Nat×Nat}(h:c.1.length<=5):∀w∈[("chord":Str),ik c.1,jz c.2],w.length<=10:=aB (by left) (aB (my h) (aB (by show 1<=10;decide) λ_ z=>by cases z))
theorem vy{l:ck Mn}(h:l.length<=5):(iW l).length<=36:=by have:=g6 (d:=32) (zi l);rw[TJ,Tv]at this;unfold iW;ext
theorem oZ{c:ck Nat×Nat}(h:c.1.length<=5):(iK c).length<=36:=by have:=g6 (d:=32) (Lp h);have e:[("chord":Str),ik c.1,jz c.2].length=3:=rfl;rw[e]at this;unfold iK;ext
theorem vU:∀n:Nat,n<10->∀w:Nat,w<10->(jK n w).length<=36:=by left
section
variable{b:Bd}
theorem kB(h:VB b){l:ck Mn}(a:l∈b.ls):1<=l.length/\l.length<=5/\∃i:Nat,∀m∈l,VM i b.ls.length m:=by obtain⟨i,hi⟩:=Ve.mp a;obtain⟨e,d⟩:=h.vl i l hi;have:=h.n1;have:=h.n5;exact⟨by ext,by ext,i,d⟩
theorem pj(h:VB b){c:ck Nat×Nat}(d:c∈b.cs):2<=c.1.length/\c.1.length<=5/\(∀k∈c.1,k<10)/\c.2<26:=by
 have v:=h.vc c d;have f:(b.ls.headD []).length<=5:=by
  cases q:b.ls with
  |nil=>exact Vd _
  |cons e r=>exact(kB h (by simp_all)).2.1
 have:=A3 v;refine⟨v.1,by ext,λk a=>?_,v.2.2.2⟩;have:=v.2.2.1 k a;unfold vX at this
 grind
theorem jx(h:VB b):∀r∈jK b.n.toNat b.wt.toNat::ku b,r.length<=36:=by
 have g:=h.n5;have f:=h.w4;refine aB (vU _ (by ext) _ (by ext)) λr a=>?_;rcases Uy.mp a with z|z
 .obtain⟨l,d,rfl⟩:=TZ.mp z;exact vy (kB h d).2.1
 .obtain⟨c,e,rfl⟩:=TZ.mp z;exact oZ (pj h e).2.1
theorem mE(h:VB b):(ku b).length<=7:=by
 have d:=h.l3;have a:=h.c4;unfold ku
 grind
theorem G7{s:ck Nat}(a:∀k∈s,k<10)(j:s.length<=5):g9 (cf (gN 0) aU (b8 mY {ac 0}) (cG s) [CL] [])=.ok ((s.map iC).map .str):=by
 have:=rB (f:=nd) (g:=λk=>.str (iC k)) (fe:=b8 mY {ac 0}) (cp:=[]) s (by ext) rfl λk h=>by have d:=a k h;have e:=kb (i:=(k:Int)) (by ext) (by ext);rw[UI]at e;exact bC (rv:=.fz (.str (iC k))) (by fail "ev") rfl e
 rw[Uz];exact this
theorem E7{s:ck Nat}(a:∀k∈s,k<10)(d:s.length<=5):ie "+" [.list ((s.map iC).map .str)]=-(.str (ik s)):=by rw[QL];exact mi (uu s) (by grind)
end
section
variable{b:Bd}
theorem lL{d:Nat}{x y:Str}{r:ck Str}:TV ⟨#[d]⟩ (x::y::r)=x++⟨#[d]⟩++TV ⟨#[d]⟩ (y::r):=rfl
theorem G0(h:VB b):ja [bD b]=.ok (.fz (.str (ej b))):=by
 have Y:=h.n1;have X:=h.n5;have R:=h.w1;have Q:=h.w4;have Z:=h.l3;have c4:=h.c4;have e0:=RY (b:=b);have e1:=RL (b:=b);have e2:=Sb (b:=b);have e3:=Ta (b:=b);have U:=kb (i:=b.n) (by ext) (by ext);have T:=kb (i:=b.wt) (by ext) (by ext);have er:=GL b.n.toNat (by ext) b.wt.toNat (by ext);have p:("keys ":Str).length=5:=by left
 have C:(" wait ":Str).length=6:=by left
 have a1:eB (.str "keys ") (.str (iC b.n.toNat))=-(.str (("keys ":Str)++iC b.n.toNat)):=gI rfl (by rw[p];show 5+1<=1000;decide);have a2:eB (.str (("keys ":Str)++iC b.n.toNat)) (.str " wait ")=-(.str (("keys ":Str)++iC b.n.toNat++(" wait ":Str))):=gI rfl (by rw[U0,p,C];show 5+1+6<=1000;decide);have a3:eB (.str (("keys ":Str)++iC b.n.toNat++(" wait ":Str))) (.str (iC b.wt.toNat))=-(.str (jK b.n.toNat b.wt.toNat)):=gI er (by rw[U0,U0,p,C];show 5+1+6+1<=1000;decide);refine aY (ρ:=[-(bD b),CL,CL,CL,CL]) rfl ?_;unfold g7;fail "go"
 with_reducible apply fW (λi ρ=>∃o:cv PV,ρ=[-(bD b),ax (.ow ((jK b.n.toNat b.wt.toNat::(b.ls.take i).map iW).map .str)),o,CL,CL])
 .exact dc (d:=.tuple (b.ls.map qK)) (by fail "ev") rfl rfl
 .exact⟨CL,rfl⟩
 .rintro i d ρ hi ⟨o,rfl⟩
  rw[TU]at hi;cases q:b.ls[i]? with
  |none=>rw[q]at hi;cases hi
  |some l=>
   obtain rfl:d=qK l:=by rw[q]at hi;exact(Us hi).symm
   obtain⟨z,J,j,I⟩:=kB h (Uk q);have K:=(TN.mp q).1;have t:=rB (f:=mD) (g:=λm=>.str (wS m)) (fe:=aK gO 1 {ac 0}) (cp:=[]) l (by ext) rfl λm hm=>by have e:=vK (I m hm) (by ext);exact eH (rv:=.fz (.str (wS m))) (by fail "ev") rfl rfl e
   have M:(l.map λm=>lD.str (wS m))=(l.map wS).map .str:=by rw[Uz];rfl
   rw[M]at t;have E:∀w∈l.map wS,w.length<=3:=λw H=>by obtain⟨m,_,rfl⟩:=TZ.mp H;exact BQ m
   have y:ie " " [.list ((l.map wS).map .str)]=-(.str (TV ⟨#[32]⟩ (l.map wS))):=by rw[Pg];exact mi E (by rw[Tv];ext)
   have A:=g6 (d:=32) E;rw[Tv]at A;have B:eB (.str "layer ") (.str (TV ⟨#[32]⟩ (l.map wS)))=-(.str (iW l)):=gI (by
    unfold iW;cases l with
    |nil=>cases z
    |cons m r=>rw[JU,Ub,lL]) (by
    have:("layer ":Str).length=6:=by left
    ext)
   have a:((jK b.n.toNat b.wt.toNat::(b.ls.take i).map iW).map lD.str).length<1000000:=by rw[Tv,TJ,Tv,Uq];ext
   refine⟨_,rfl,gJ (pv:=.fz .none) (iP rfl (aO (rv:=.fz (.str (iW l))) av (gW (rv:=.fz (.str _)) av rfl (ad (bg (dc (d:=qK l) (by fail "ev") rfl rfl) rfl t) ai) rfl y) rfl rfl B) rfl rfl a rfl) ⟨-(qK l),?_⟩⟩;rw[U5,q];simp only[YM,UY,Ub,Vs,VV];rfl
 .rintro ρ ⟨o,rfl⟩
  rw[Tv,Va (TQ _)]
  with_reducible apply fW (λi ρ=>∃v u:cv PV,ρ=[-(bD b),ax (.ow ((jK b.n.toNat b.wt.toNat::(b.ls.map iW++(b.cs.take i).map iK)).map .str)),o,v,u])
  .exact dc (d:=.tuple (b.cs.map WD)) (by fail "ev") rfl rfl
  .exact⟨CL,CL,by rw[List.take_zero,Vs,UQ]⟩
  .rintro i d ρ hi ⟨v,u,rfl⟩
   rw[TU]at hi;cases q:b.cs[i]? with
   |none=>rw[q]at hi;cases hi
   |some c=>
    obtain rfl:d=WD c:=by rw[q]at hi;exact(Us hi).symm
    obtain⟨L,k,F,N⟩:=pj h (Uk q);have t:=G7 F k;have G:=E7 F k;have p:=my k;have cl:("chord ":Str).length=6:=by left
    have S:(" ":Str).length=1:=by left
    have B:eB (.str "chord ") (.str (ik c.1))=-(.str (("chord ":Str)++ik c.1)):=gI rfl (by ext);have P:eB (.str (("chord ":Str)++ik c.1)) (.str " ")=-(.str (("chord ":Str)++ik c.1++(" ":Str))):=gI rfl (by rw[U0];ext);have O:eB (.str (("chord ":Str)++ik c.1++(" ":Str))) (.str (jz c.2))=-(.str (iK c)):=gI (by unfold iK;rw[lL,lL,K2,Pg];show _=_++(_++_++jz c.2);simp only[WQ]) (by rw[U0,U0];have:(jz c.2).length=1:=rfl;ext);have a:((jK b.n.toNat b.wt.toNat::(b.ls.map iW++(b.cs.take i).map iK)).map lD.str).length<1000000:=by rw[Tv,TJ,T4,Tv,Tv,Uq];ext
    refine⟨[-(bD b),ax (.ow ((jK b.n.toNat b.wt.toNat::(b.ls.map iW++(b.cs.take i).map iK)).map .str)),o,-(.tuple (cG c.1)),-(.str (jz c.2))],rfl,gJ (pv:=.fz .none) (iP rfl (aO (rv:=.fz (.str (iK c))) (aO (rv:=.fz (.str _)) (aO (rv:=.fz (.str _)) av (gW (rv:=.fz (.str (ik c.1))) av rfl (ad (bg (dc (d:=.tuple (cG c.1)) (by fail "ev") rfl rfl) rfl t) ai) rfl G) rfl rfl B) av rfl rfl P) (by fail "ev") rfl rfl O) rfl rfl a rfl) ⟨-(.tuple (cG c.1)),-(.str (jz c.2)),?_⟩⟩;rw[U5,q];simp only[YM,UY,Ub,Vs,VV,VI];rfl
  .rintro ρ ⟨v,u,rfl⟩
   rw[Tv,Va (TQ _)];have y:ie "\n" [.list ((jK b.n.toNat b.wt.toNat::ku b).map .str)]=-(.str (ej b)):=by rw[N0];have:=mE h;exact mi (jx h) (by rw[TJ];ext)
   exact aR (gW (rv:=.fz (.str (ej b))) av rfl (by fail "ev") rfl y) rfl rfl
theorem Nx{L nL:Int}{m:Mn}(h:VM L nL m){x:Nat}(a:x=32\/x=10):Fr x (wS m):=by
 unfold Fr;cases m with
 |UP c=>intro z;have:=TX.mp (show x∈[97+c]from z);ext
 |none=>intro z;have:=TX.mp (show x∈[46]from z);ext
 |below=>intro z;have:=TX.mp (show x∈[95]from z);ext
 |Vh n=>intro z;have z:x∈[62,48+n.toNat]:=z;grind
 |once n=>intro z;have z:x∈[126,48+n.toNat]:=z;grind
 |XF c n=>intro z;have z:x∈[97+c,62,48+n.toNat]:=z;grind
theorem lG{k x:Nat}(a:x<48):Fr x (iC k):=by unfold Fr;intro z;have:=TX.mp (show x∈[48+k]from z);ext
theorem wn{c x:Nat}(a:x<97):Fr x (jz c):=by unfold Fr;intro z;have:=TX.mp (show x∈[97+c]from z);ext
theorem pk:Fr 32 "keys"/\Fr 32 "wait"/\Fr 32 "layer"/\Fr 32 "chord"/\Fr 10 "keys"/\Fr 10 "wait"/\Fr 10 "layer"/\Fr 10 "chord":=by unfold Fr;left
theorem CZ{s:ck Nat}{x:Nat}(a:x≠43)(h:x<48):Fr x (ik s):=gM a λw d=>by obtain⟨k,_,rfl⟩:=TZ.mp d;exact lG h
theorem kJ{P:Str->Prop}:∀w∈([]:ck Str),P w:=λ_ z=>by cases z
theorem M3{n w x:Nat}(a:x=32\/x=10):∀s∈[("keys":Str),iC n,"wait",iC w],Fr x s:=by
 obtain⟨g,f,_,_,e,d,_,_⟩:=pk;rcases a with rfl|rfl
 .exact aB g (aB (lG (by decide)) (aB f (aB (lG (by decide)) kJ)))
 .exact aB e (aB (lG (by decide)) (aB d (aB (lG (by decide)) kJ)))
theorem Nw{l:ck Mn}{L nL:Int}(d:∀m∈l,VM L nL m){x:Nat}(a:x=32\/x=10):∀s∈("layer":Str)::l.map wS,Fr x s:=by
 obtain⟨_,_,g,_,_,_,f,_⟩:=pk;refine aB ?_ λs e=>by obtain⟨m,hm,rfl⟩:=TZ.mp e;exact Nx (d m hm) a
 rcases a with rfl|rfl
 .exact g
 .exact f
theorem Jq{c:ck Nat×Nat}{x:Nat}(a:x=32\/x=10):∀s∈[("chord":Str),ik c.1,jz c.2],Fr x s:=by
 obtain⟨_,_,_,e,_,_,_,d⟩:=pk;rcases a with rfl|rfl
 .exact aB e (aB (CZ (by decide) (by decide)) (aB (wn (by decide)) kJ))
 .exact aB d (aB (CZ (by decide) (by decide)) (aB (wn (by decide)) kJ))
theorem Hd(h:VB b):∀r∈jK b.n.toNat b.wt.toNat::ku b,Fr 10 r:=by
 refine aB (gM (by decide) (M3 (.inr rfl))) λr d=>?_;rcases Uy.mp d with z|z
 .obtain⟨l,e,rfl⟩:=TZ.mp z;obtain⟨_,_,i,a⟩:=kB h e;exact gM (by decide) (Nw a (.inr rfl))
 .obtain⟨c,f,rfl⟩:=TZ.mp z;exact gM (by decide) (Jq (.inr rfl))
end
abbrev cd(z:Str):ck Nat:=z.cps.toList
theorem dS{c:Nat}{ws:ck Str}(d:ws≠[])(h:∀w∈ws,Fr c w)(g:(TV ⟨#[c]⟩ ws).length<=1000)(f:ws.length<=1000):bc c (cd (TV ⟨#[c]⟩ ws))=ws.map cd:=by
 have a:=sd d h (by ext) (by ext);have b:=iy (c:=c) (l:=cd (TV ⟨#[c]⟩ ws)) (by have:=dU (cd (TV ⟨#[c]⟩ ws));rw[pX]at this;ext);rw[pX,show ap [c]=.str ⟨#[c]⟩from rfl,a]at b;have b:=Us b;injection b with b
 have b2:ws=(bc c (cd (TV ⟨#[c]⟩ ws))).map tx:=by have inj:∀{x y:ck Str},x.map lD.str=y.map lD.str->x=y:=λ{x y} z=>(acU (λ_ _ e=>lD.str.inj e)).mp z;apply inj;rw[Uz];exact b
 have:ws.map cd=(bc c (cd (TV ⟨#[c]⟩ ws))).map (cd∘tx):=by rw[<-Uz,<-b2]
 rw[this];exact(List.map_id' _).symm
theorem oG{k:Nat}(h:k<10):bf (cd (iC k))=ax (k:Int):=by show(if jA (48+k)=Ld then ax (((48+k:Nat):Int) - 48)else CL)=_;rw[ak (by unfold jA;rw[Tu];exact⟨a4 (by ext),a4 (by ext)⟩)];congr 1;ext
abbrev Ch:=ck Int×ck Nat
def ut:Mn->Mg
 |.UP c=>.UP [97+c]
 |.Vh n=>.Vh n
 |.XF c n=>.XF [97+c] n
 |.once n=>.once n
 |.none=>.none
 |.below=>.below
def vO(c:ck Nat×Nat):Ch:=(c.1.map λk:Nat=>(k:Int),[97+c.2])
def rp(b:Bd):Gb:=⟨b.n,b.ls.map λl=>l.map ut,b.cs.map vO,b.wt⟩
theorem M5(m:Mn):mG (ut m)=mD m:=by cases m<;>rfl
theorem Nk(l:ck Mn):cU (l.map ut)=qK l:=by unfold cU qK;rw[Uz];congr 1;exact Xs λm _=>M5 m
theorem OA(c:ck Nat×Nat):cn (vO c)=WD c:=by show lD.tuple [.tuple ((c.1.map λk:Nat=>(k:Int)).map lD.int),ap [97+c.2]]=.tuple [.tuple (c.1.map nd),.str (jz c.2)];rw[Uz];rfl
theorem MG(b:Bd):gD (rp b)=bD b:=by show lD.tuple [.int b.n,.tuple ((b.ls.map λl=>l.map ut).map cU),.tuple ((b.cs.map vO).map cn),.int b.wt]=_;rw[Uz,Uz];unfold bD;rw[show b.ls.map (cU∘λl=>l.map ut)=b.ls.map qK from Xs λl _=>Nk l,show b.cs.map (cn∘vO)=b.cs.map WD from Xs λc _=>OA c]
theorem nK{c:Nat}(h:c<26):cK [97+c]=Ld:=by
 show(decide (((1:Nat):Int)=1)&&(CW (97+c)&&Ld))=Ld;have:CW (97+c)=Ld:=by show(decide (97<=97+c)&&decide (97+c<=122))=Ld;rw[a4 (by ext),a4 (by ext)];rfl
 rw[this];rfl
theorem Ee{c:Nat}(h:c<26):HH [97+c]:=⟨by show 1<=10;decide,λx a=>by rw[TX.mp a];ext⟩
theorem Om{L nL:Int}{m:Mn}(h:VM L nL m):MF (ut m):=by
 cases m with
 |UP c=>exact Ee h
 |XF c n=>exact Ee h.1
 |Vh n=>trivial
 |once n=>trivial
 |none=>trivial
 |below=>trivial
theorem Gp{L nL:Int}{m:Mn}(h:VM L nL m):pI (ut m) L nL=Ld:=by
 cases m with
 |UP c=>show(!(Ld&& !cK [97+c])&&_)=Ld;rw[nK h];rfl
 |XF c n=>show(!(Ld&& !cK [97+c])&&(!Ld||(decide (1<=n)&&decide (n<nL))))=Ld;rw[nK h.1,a4 h.2.1,a4 h.2.2];rfl
 |Vh n=>show(Ld&&(!Ld||(decide (1<=n)&&decide (n<nL))))=Ld;rw[a4 h.1,a4 h.2];rfl
 |once n=>show(Ld&&(!Ld||(decide (1<=n)&&decide (n<nL))))=Ld;rw[a4 h.1,a4 h.2];rfl
 |none=>rfl
 |below=>show(!decide (L=0))=Ld;rw[a5 h];rfl
theorem yU:∀{a c:ck Nat},(a.map λk:Nat=>(k:Int))=c.map (λk:Nat=>(k:Int))->a=c
 |[],[],_=>rfl
 |[],_::_,h=>by cases h
 |_::_,[],h=>by cases h
 |x::r,y::t,h=>by rw[Ub,Ub,amL]at h;rw[yU h.2,show x=y by ext]
section
variable{b:Bd}(Z:VB b)
include Z
theorem DZ{i:Nat}(hi:i<b.ls.length):∃l,b.ls[i]?=ax l/\bb (rp b) i=l.map ut/\(l.length:Int)=b.n/\∀m∈l,VM i (b.ls.length:Int) m:=by refine⟨b.ls[i],TF hi,?_,Z.vl i _ (TF hi)⟩;show(b.ls.map λl=>l.map ut).getD i []=_;rw[UE,TU,TF hi];rfl
theorem F5{c:ck Nat×Nat}(h:VC (b.ls.headD []) c):c.1.length<=5:=by
 obtain⟨l,e,_,d,_⟩:=DZ Z (i:=0) Z.l1;have a:b.ls.headD []=l:=by rw[aaQ,abm,e];rfl
 rw[a]at h;have:=sr h.2.1 (n:=l.length) λk hm=>by
  have:=h.2.2.1 k hm;unfold vX at this;cases q:l[k]? with
  |none=>rw[q]at this;cases this
  |some m=>exact(TN.mp q).1
 have:=Z.n5;ext
theorem MQ:GF 0 (rp b):=by
 refine⟨?_,λl g=>?_,?_,λc h=>?_⟩
 .show(b.ls.map λl=>l.map ut).length<=3;rw[Tv];exact Z.l3
 .obtain⟨f,a,rfl⟩:=TZ.mp g
  obtain⟨i,hi⟩:=Ve.mp a;obtain⟨j,d⟩:=Z.vl i f hi;refine⟨?_,λm hm=>?_⟩
  .rw[Tv];have:=Z.n5;ext
  .obtain⟨e,g0,rfl⟩:=TZ.mp hm;exact Om (d e g0)
 .show(b.cs.map vO).length<=5;rw[Tv];have:=Z.c4;ext
 .obtain⟨c0,a,rfl⟩:=TZ.mp h;have v:=Z.vc c0 a;refine⟨?_,Ee v.2.2.2⟩;show(c0.1.map λk:Nat=>(k:Int)).length<=5;rw[Tv];exact F5 Z v
theorem Kj{i:Nat}(hi:i<b.ls.length):ir (rp b) i=CL:=by
 obtain⟨l,e,d,g,f⟩:=DZ Z hi;unfold ir nJ;rw[d,Tv,ak (show(l.length:Int)=(rp b).n from g),Yf,VW];intro j a;have a:=Ur.mp a;unfold nY;have e3:(bb (rp b) i).getD j .none=ut l[j]:=by rw[d,UE,TU,TF a];rfl
 have e4:(rp b).ls.length=b.ls.length:=Tv ..;rw[e3,e4,Gp (f _ (Vz a))];exact Tz
theorem KT:mW (rp b)=Tx:=by have e4:(rp b).ls.length=b.ls.length:=Tv ..;have e5:(rp b).cs.length=b.cs.length:=Tv ..;obtain⟨f,e,h,g,_,i,_,_,d,a⟩:=Z;unfold mW tJ tG yz;rw[e4,e5];show(!(decide (1<=b.n)&&decide (b.n<=5))|| !(decide (1<=(b.ls.length:Int))&&decide ((b.ls.length:Int)<=3))||(decide ((b.cs.length:Int)>4)|| !(decide (1<=b.wt)&&decide (b.wt<=4))))=Tx;rw[a4 f,a4 e,a4 (show(1:Int)<=(b.ls.length:Int) by ext),a4 (show(b.ls.length:Int)<=3 by ext),a5 (show¬(b.cs.length:Int)>4 by ext),a4 d,a4 a];rfl
theorem Fy{p:Nat}(t:p<b.cs.length):xw (rp b) p=Tx:=by
 have G:∀q,q<b.cs.length->∃c,b.cs[q]?=ax c/\gw (rp b) q=vO c:=λq f=>⟨b.cs[q],TF f,by show(b.cs.map vO).getD q c0=_;rw[UE,TU,TF f];rfl⟩;obtain⟨c,u,F⟩:=G p t;have v:=Z.vc c (Uk u);obtain⟨l,e,H,L,K⟩:=DZ Z (i:=0) Z.l1;have r:b.ls.headD []=l:=by rw[aaQ,abm,e];rfl
 rw[r]at v;unfold xw G4 pF;rw[F,show cK (vO c).2=Ld from nK v.2.2.2];have w:sO (rp b) (vO c).1=Ld:=by
  have y:nq (vO c).1=Ld:=(mo _).mpr (by show(c.1.map λk:Nat=>(k:Int)).Pairwise (·<·);rw[List.pairwise_map];exact v.2.1.imp λh=>by ext);have B:(vO c).1.length=c.1.length:=Tv ..;have:=v.1;unfold sO;rw[y,B,a5 (by ext),ar (show¬((Tx|| !Ld)=Ld)from Tz),Vy];intro x C;obtain⟨k,E,rfl⟩:=TZ.mp C;have o:=v.2.2.1 k E;unfold vX at o;cases q:l[k]? with
  |none=>rw[q]at o;cases o
  |some m=>
   rw[q]at o;have J:=(TN.mp q).1;unfold qV;rw[H];show((decide (0<=(k:Int))&&decide ((k:Int)<b.n))&&bL ((l.map ut).getD k .none))=Ld;rw[a4 (by ext),a4 (by ext),UE,TU,q];cases m with
   |UP c=>rfl
   |_=>cases o
 have A:(vO c).1∉((rp b).cs.take p).map (·.1):=λhm=>by
  obtain⟨d,r,j⟩:=TZ.mp hm;obtain⟨q,f⟩:=Ve.mp r;have g:q<p:=by have:=(TN.mp f).1;rw[Uq]at this;ext
  rw[aaK g]at f;have a:(b.cs.map vO)[q]?=ax d:=f;rw[TU]at a;cases z:b.cs[q]? with
  |none=>rw[z]at a;cases a
  |some I=>rw[z]at a;cases a;have ne:=aaw.mp Z.cu q p (by ext) t g;rw[(TN.mp z).2,(TN.mp u).2]at ne;refine ne ?_;have j:I.1.map (λk:Nat=>(k:Int))=c.1.map λk:Nat=>(k:Int):=j;exact yU j
 rw[w,a5 A];rfl
theorem Jr:iL (rp b)=.none:=BT (KT Z) (λj a=>Kj Z (by rwa [show(rp b).ls.length=b.ls.length from Tv ..]at a)) λj a=>Fy Z (by rwa [show(rp b).cs.length=b.cs.length from Tv ..]at a)
end
theorem Bf{n:Int}(a:0<=n)(h:n<=9):bf [48+n.toNat]=ax n:=by have:=oG (k:=n.toNat) (by ext);rw[WL a]at this;exact this
theorem Pm{L nL:Int}{m:Mn}(h:VM L nL m)(b:nL<=3):jh (cd (wS m))=ax (ut m):=by
 cases m with
 |UP c=>show jh [97+c]=ax (.UP [97+c]);have a:c<26:=h;unfold jh;rw[ar (λz=>by have:=(WY z).1;ext),ar (λz=>by have:=(WY z).1;ext),ak (nK a)]
 |Vh n=>
  have hn:0<=n/\n<=9:=by have:=h;unfold VM at this;ext
  show jh [62,48+n.toNat]=ax (.Vh n);unfold jh;rw[ar (λz=>by cases z),ar (λz=>by cases z),ar (by exact Tz),ar (λz=>by cases z),ak (show([62,48+n.toNat]:ck Nat)[0]?=ax 62 from rfl)];show(bf [48+n.toNat]).map Mg.Vh=_;rw[Bf hn.1 hn.2];rfl
 |once n=>
  have hn:0<=n/\n<=9:=by have:=h;unfold VM at this;ext
  show jh [126,48+n.toNat]=ax (.once n);unfold jh;rw[ar (λz=>by cases z),ar (λz=>by cases z),ar (by exact Tz),ak (show([126,48+n.toNat]:ck Nat)[0]?=ax 126 from rfl)];show(bf [48+n.toNat]).map Mg.once=_;rw[Bf hn.1 hn.2];rfl
 |XF c n=>
  have hn:0<=n/\n<=9/\c<26:=by have:=h;unfold VM at this;ext
  show jh [97+c,62,48+n.toNat]=ax (.XF [97+c] n);rw[Rp (i:=1) rfl,ar (by decide),ak (show cK ([97+c,62,48+n.toNat].take 1)=Ld from nK hn.2.2)];show(bf [48+n.toNat]).map (Mg.XF [97+c])=_;rw[Bf hn.1 hn.2.1];rfl
 |none=>rfl
 |below=>rfl
theorem oH:cd "keys"=wK/\cd "wait"=wW/\cd "layer"=wL/\cd "chord"=wC:=by left
theorem vE{α b:Type}{f:α->cv b}{g:α->b}{l:ck α}(h:∀a∈l,f a=ax (g a)):eD (l.map f)=ax (l.map g):=by
 induction l with
 |nil=>rfl
 |cons a r d=>rw[Ub,h a TC];show(eD (r.map f)).map (g a::·)=_;rw[d λx e=>h x (TH _ e)];rfl
theorem OJ{l:ck Mn}{L nL:Int}(b:l.length<=5)(a:∀m∈l,VM L nL m):bc 32 (cd (iW l))=wL::l.map (λm=>cd (wS m)):=by have:=vy b;have:=dS (c:=32) (ws:=("layer":Str)::l.map wS) (by nofun) (Nw a (.inl rfl)) (by unfold iW at this;ext) (by rw[TJ,Tv];ext);rw[Ub,oH.2.2.1,Uz]at this;exact this
theorem Ov{l:ck Mn}{L nL:Int}(f:1<=l.length)(d:l.length<=5)(b:∀m∈l,VM L nL m)(e:nL<=3):gp (bc 32 (cd (iW l)))=ax (l.map ut):=by
 rw[OJ d b];cases l with
 |nil=>cases f
 |cons m r=>show(if wL=wL then eD (((m::r).map λm=>cd (wS m)).map jh)else CL)=_;rw[ak rfl,Uz];exact vE λa ha=>Pm (b a ha) e
theorem NK{n w:Nat}(hn:n<10)(a:w<10):bc 32 (cd (jK n w))=[wK,cd (iC n),wW,cd (iC w)]:=by have:=vU n hn w a;have:=dS (c:=32) (ws:=[("keys":Str),iC n,"wait",iC w]) (by nofun) (M3 (.inl rfl)) (by unfold jK at this;ext) (by show 4<=1000;decide);rw[Ub,Ub,Ub,Ub,Vs,oH.1,oH.2.1]at this;exact this
theorem OU{n w:Nat}(hn:n<10)(a:w<10):da (bc 32 (cd (jK n w)))=ax (ax (n:Int),ax (w:Int)):=by rw[NK hn a,pN,oG hn,oG a];rfl
theorem F1{s:ck Nat}(b:1<=s.length)(h:s.length<=5)(e:∀k∈s,k<10):eD ((bc 43 (cd (ik s))).map bf)=ax (s.map λk:Nat=>(k:Int)):=by have:=my h;have:=dS (c:=43) (ws:=s.map iC) (by intro z;rw[aco]at z;rw[z]at b;cases b) (λw d=>by obtain⟨k,_,rfl⟩:=TZ.mp d;exact lG (by decide)) (by unfold ik at this;ext) (by rw[Tv];ext);unfold ik;rw[this,Uz,Uz];exact vE λa ha=>oG (e a ha)
theorem HQ{c:ck Nat×Nat}(e:2<=c.1.length)(a:c.1.length<=5)(b:∀k∈c.1,k<10)(d:c.2<26):gp (bc 32 (cd (iK c)))=CL/\gX (bc 32 (cd (iK c)))=ax (vO c):=by have:=oZ a;have:=dS (c:=32) (ws:=[("chord":Str),ik c.1,jz c.2]) (by nofun) (Jq (.inl rfl)) (by unfold iK at this;ext) (by show 3<=1000;decide);rw[Ub,Ub,Ub,Vs,oH.2.2.2]at this;unfold iK;rw[this];refine⟨by rw[Gj,ar (by decide)],?_⟩;rw[DD,ar (by rw[show cK (cd (jz c.2))=Ld from nK d];decide),F1 (by ext) a b];rfl
theorem Jx{nL:Int}(j:nL<=3):∀(ls:ck (ck Mn)) (a:ck (ck Mg)),(∀l∈ls,1<=l.length/\l.length<=5/\∃i:Nat,∀m∈l,VM i nL m)->(ls.map λl=>cd (iW l)).foldlM fJ (a,[])=ax (a++ls.map (λl=>l.map ut),([]:ck (ck Int×ck Nat))):=by
 intro ls
 induction ls with
 |nil=>intro a _;rw[Vs,Vs,UQ];rfl
 |cons l r b=>
  intro a h;obtain⟨k,g,i,f⟩:=h l TC;show(fJ (a,[]) (cd (iW l))).bind (λs=>(r.map λl=>cd (iW l)).foldlM fJ s)=_;have e:fJ (a,[]) (cd (iW l))=ax (a++[l.map ut],[]):=by unfold fJ;rw[Ov k g f j]
  rw[e];show(r.map λl=>cd (iW l)).foldlM fJ (a++[l.map ut],[])=_;rw[b _ λx d=>h x (TH _ d),Ub,VI];rfl
theorem JE:∀(cs:ck (ck Nat×Nat)) (a:ck (ck Mg)) (b:ck (ck Int×ck Nat)),(∀c∈cs,2<=c.1.length/\c.1.length<=5/\(∀k∈c.1,k<10)/\c.2<26)->(cs.map λc=>cd (iK c)).foldlM fJ (a,b)=ax (a,b++cs.map vO):=by
 intro cs
 induction cs with
 |nil=>intro a b _;rw[Vs,Vs,UQ];rfl
 |cons c r j=>
  intro a b h;obtain⟨i,g,d,f⟩:=h c TC;show(fJ (a,b) (cd (iK c))).bind (λs=>(r.map λc=>cd (iK c)).foldlM fJ s)=_;have e:fJ (a,b) (cd (iK c))=ax (a,b++[vO c]):=by unfold fJ;rw[(HQ i g d f).1,(HQ i g d f).2];rfl
  rw[e];show(r.map λc=>cd (iK c)).foldlM fJ (a,b++[vO c])=_;rw[j _ _ λx l=>h x (TH _ l),Ub,VI];rfl
theorem P5:lD.strOk "letter"=Ld/\lD.strOk "none"=Ld/\lD.strOk "below"=Ld/\lD.strOk "layer"=Ld/\lD.strOk "once"=Ld/\lD.strOk "tap"=Ld:=by left
section
variable{b:Bd}
theorem Lu{s:Str}(h:∀x:Nat,0x110000<=x->Fr x s):lD.strOk s=Ld:=by show s.cps.all (λx=>decide (x<0x110000))=Ld;rw[Zb];intro x a;refine a4 (adR λz=>h x z ?_);exact W9.mpr a
theorem ql{s:Str}(h:lD.strOk s=Ld){x:Nat}(a:0x110000<=x):Fr x s:=by intro z;have h:s.cps.all (λx=>decide (x<0x110000))=Ld:=h;rw[Zb]at h;have:=a6 (h x (W9.mp z));ext
theorem OE{L nL:Int}{m:Mn}(h:VM L nL m)(e:nL<=3){x:Nat}(d:0x110000<=x):Fr x (wS m):=by
 unfold Fr;cases m with
 |UP c=>intro z;have a:c<26:=h;have:=TX.mp (show x∈[97+c]from z);ext
 |none=>intro z;have:=TX.mp (show x∈[46]from z);ext
 |below=>intro z;have:=TX.mp (show x∈[95]from z);ext
 |Vh n=>intro z;have hn:1<=n/\n<nL:=h;have z:x∈[62,48+n.toNat]:=z;simp only[TL,TY,or_false]at z;ext
 |once n=>intro z;have hn:1<=n/\n<nL:=h;have z:x∈[126,48+n.toNat]:=z;simp only[TL,TY,or_false]at z;ext
 |XF c n=>intro z;have a:c<26:=h.1;have hn:1<=n/\n<nL:=h.2;have z:x∈[97+c,62,48+n.toNat]:=z;simp only[TL,TY,or_false]at z;ext
theorem QN{k x:Nat}(d:k<10)(a:0x110000<=x):Fr x (iC k):=by intro z;have:=TX.mp (show x∈[48+k]from z);ext
theorem Tg{c x:Nat}(d:c<26)(a:0x110000<=x):Fr x (jz c):=by intro z;have:=TX.mp (show x∈[97+c]from z);ext
theorem NU:lD.strOk "keys"=Ld/\lD.strOk "wait"=Ld/\lD.strOk "chord"=Ld:=by left
theorem uJ(h:VB b):lD.strOk (ej b)=Ld:=by
 have w:=h.n5;have v:=h.w4;have y:=h.l3;obtain⟨n,j,g⟩:=NU;refine Lu λx a=>gM (by ext) (aB (gM (by ext) ?_) λr p=>?_)
 .exact aB (ql n a) (aB (QN (by ext) a) (aB (ql j a) (aB (QN (by ext) a) kJ)))
 .rcases Uy.mp p with z|z
  .obtain⟨l,q,rfl⟩:=TZ.mp z;obtain⟨_,_,i,o⟩:=kB h q;refine gM (by ext) (aB (ql P5.2.2.2.1 a) λs d=>?_);obtain⟨m,hm,rfl⟩:=TZ.mp d;exact OE (o m hm) (by ext) a
  .obtain⟨c,u,rfl⟩:=TZ.mp z;obtain⟨_,_,t,f⟩:=pj h u;refine gM (by ext) (aB (ql g a) (aB (gM (by ext) λs d=>?_) (aB (Tg f a) kJ)));obtain⟨k,e,rfl⟩:=TZ.mp d;exact QN (t k e) a
end
section
variable{b:Bd}
theorem rH(h:VB b):bc 10 (cd (ej b))=cd (jK b.n.toNat b.wt.toNat)::(ku b).map cd:=by have e:=mE h;have a:=g6 (d:=10) (jx h);rw[TJ]at a;exact dS (c:=10) (ws:=jK b.n.toNat b.wt.toNat::ku b) (by nofun) (Hd h) (by ext) (by rw[TJ];ext)
theorem BL(h:VB b):eF ((ku b).map cd)=ax ((rp b).ls,(rp b).cs):=by unfold eF ku;rw[UY,Y4,Uz,Uz];have f:=h.l3;have e:=Jx (nL:=(b.ls.length:Int)) (by ext) b.ls [] λl a=>kB h a;rw[Xn]at e;show(((b.ls.map λl=>cd (iW l)).foldlM fJ ([],[])).bind λs=>(b.cs.map λc=>cd (iK c)).foldlM fJ s)=_;rw[e];show(b.cs.map λc=>cd (iK c)).foldlM fJ (b.ls.map (λl=>l.map ut),[])=_;rw[JE b.cs _ _ λc d=>pj h d,Xn];rfl
theorem Dz{s:Str}(h:lD.strOk s=Ld):iz (cd s):=λc a=>by apply adR;intro z;exact ql h z a
theorem zE(h:VB b):aA [.str (ej b)]=.ok (.fz (bD b)):=by
 have e:=rH h;have f:=Dz (uJ h);have G:=h.n1;have F:=h.n5;have C:=h.w1;have B:=h.w4;have E:=mE h;have o:(cd (ej b)).length<=900:=by
  have u:=g6 (d:=10) (jx h);rw[TJ]at u;have:(ej b).length=(cd (ej b)).length:=by rw[<-dU (cd (ej b)),pX]
  unfold ej at this;unfold ej;ext
 have m:=(cO 10 (cd (ej b))).1;rw[e]at m;have t:YY ((ku b).map cd):=⟨by rw[Tv];ext,λx j=>by
  have a:=m x (TH _ j);obtain⟨r,q,rfl⟩:=TZ.mp j;have:=jx h r (TH _ q);refine⟨?_,λz p=>f z (a.2.2 z p)⟩;have:r.length=(cd r).length:=by rw[<-dU (cd r),pX]
  ext⟩
 have hn:=OU (n:=b.n.toNat) (w:=b.wt.toNat) (by ext) (by ext);rw[WL (by ext),WL (by ext)]at hn;have v:GF 400 (rp b):=by have g:=MQ h;exact⟨by have:=g.ll;ext,λl k=>⟨by have:=(g.lm l k).1;ext,(g.lm l k).2⟩,by have:=g.cl;ext,λc f=>⟨by have:=(g.cm c f).1;ext,(g.cm c f).2⟩⟩
 have y:=Jr h;show aA [ap (cd (ej b))]=_;rcases lz v (by ext)with⟨_,A⟩|⟨x,_,i⟩
 .rw[<-MG b];exact yK (yx o f e t hn (BL h) A)
 .rw[y]at i;exact a7 i x9
end
theorem sk{c:Nat}{y v:ck Nat}{q:ck (ck Nat)}(g:bc c y=v::q):∀x:ck Nat,∃p u,bc c x=p++[u]/\bc c (x++y)=p++(u++v)::q:=by
 intro x
 induction x with
 |nil=>exact⟨[],[],rfl,g⟩
 |cons a r f=>
  obtain⟨p,u,d,b⟩:=f;by_cases n:a=c
  .subst n;exact⟨[]::p,u,by rw[kn,d];rfl,by rw[VV,kn,b];rfl⟩
  .cases p with
   |nil=>exact⟨[],a::u,by rw[dM n d];rfl,by rw[VV,dM n b];rfl⟩
   |cons e ps=>exact⟨(a::e)::ps,u,by rw[dM n d];rfl,by rw[VV,dM n b];rfl⟩
theorem vm(c:Nat)(x y:ck Nat):∀w∈bc c (x++y),w∈bc c x\/w∈bc c y\/∃u∈bc c x,∃v∈bc c y,w=u++v:=by
 intro w a;obtain⟨v,q,b⟩:=eA c y;obtain⟨p,u,e,d⟩:=sk b x;rw[d]at a;rw[e,b];rcases Uy.mp a with a|a
 .exact .inl (VF _ a)
 .rcases TL.mp a with rfl|a
  .exact .inr (.inr ⟨u,Ud _ TC,v,TC,rfl⟩)
  .exact .inr (.inl (TH _ a))
theorem zH(c:Nat)(t:ck Nat)(a:Nat):∀w∈bc c (t.take a),∃v∈bc c t,w.Sublist v:=by
 intro w b;obtain⟨v,q,f⟩:=eA c (t.drop a);obtain⟨p,u,e,d⟩:=sk f (t.take a);rw[Vx]at d;rw[e]at b;rw[d];rcases Uy.mp b with b|b
 .exact⟨w,VF _ b,Yt _⟩
 .obtain rfl:=TX.mp b;exact⟨w++v,Ud _ TC,List.sublist_append_left _ _⟩
theorem Ap(c:Nat)(t:ck Nat)(a:Nat):∀w∈bc c (t.drop a),∃v∈bc c t,w.Sublist v:=by
 intro w b;obtain⟨v,q,e⟩:=eA c (t.drop a);obtain⟨p,u,f,d⟩:=sk e (t.take a);rw[Vx]at d;rw[e]at b;rw[d];rcases TL.mp b with rfl|b
 .exact⟨u++w,Ud _ TC,List.sublist_append_right _ _⟩
 .exact⟨w,Ud _ (TH _ b),Yt _⟩
structure TB(L P n T:Nat)(t:ck Nat):Prop where
 c:iz t
 l:t.length<=T
 n:t.count 10<=n
 r:∀x∈bc 10 t,x.length<=L/\x.count 43<=P
theorem TB.ok{L P n T:Nat}{t:ck Nat}(h:TB L P n T t)(f:L<=390)(e:P<=50)(d:n<300)(b:T<=900):adm t:=⟨by have:=h.l;ext,h.c,by rw[(i4 10 t).2];have:=h.n;ext,λx a=>by have:=h.r x a;ext⟩
theorem Cg{m:ck Nat}(h:m.length<=1):∀w∈bc 10 m,w.length<=1/\w.count 43<=1:=λw d=>by have a:=((cO 10 m).1 w d).2.1;have b:=ab8 (a:=43) (l:=w);ext
theorem TB.sign{L P n T:Nat}{t:ck Nat}(h:TB L P n T t){m:ck Nat}(hm:m.length<=1)(k:iz m){a b:Nat}(o:a<=b):TB (2*L+1) (2*P+1) (n+1) (T+1) (t.take a++m++t.drop b):=by
 refine⟨?_,?_,?_,?_⟩
 .intro x d
  rcases Uy.mp d with d|d
  .rcases Uy.mp d with d|d
   .exact h.c x (WA d)
   .exact k x d
  .exact h.c x (Xk d)
 .have:=h.l;simp only[T4,Uq,UB];ext
 .have A:=h.n
  have y:=ab8 (a:=10) (l:=m);have q:(t.take a).count 10+(t.drop a).count 10=t.count 10:=by rw[<-XW,Vx]
  have p:(t.drop b).count 10<=(t.drop a).count 10:=by
   have:t.drop b=(t.drop a).drop (b - a):=by rw[List.drop_drop];congr 1;ext
   rw[this];exact(List.drop_sublist _ _).count_le 10
  simp only[XW];ext
 .have i:∀w∈bc 10 (t.take a),w.length<=L/\w.count 43<=P:=λw e=>by
   obtain⟨v,f,s⟩:=zH 10 t a w e;have:=h.r v f;have:=s.length_le;have:=s.count_le 43;ext
  have j:∀w∈bc 10 (t.drop b),w.length<=L/\w.count 43<=P:=λw e=>by obtain⟨v,f,s⟩:=Ap 10 t b w e;have:=h.r v f;have:=s.length_le;have:=s.count_le 43;ext
  have g:∀w∈bc 10 (t.take a++m),w.length<=L+1/\w.count 43<=P+1:=λw e=>by
   rcases vm 10 _ _ w e with z|z|⟨u,hu,v,f,rfl⟩
   .have:=i w z;ext
   .have:=Cg hm w z;ext
   .have:=i u hu;have:=Cg hm v f;simp only[T4,XW];ext
  intro w e;rcases vm 10 _ _ w e with z|z|⟨u,hu,v,f,rfl⟩
  .have:=g w z;ext
  .have:=j w z;ext
  .have:=g u hu;have:=j v f;simp only[T4,XW];ext
def jn:ck (ck Nat)->ck Nat
 |[]=>[]
 |[w]=>w
 |w::v::r=>w++10::jn (v::r)
theorem ME{c:Nat}{w r:ck Nat}(h:c∉w):bc c (w++c::r)=w::bc c r:=by
 induction w with
 |nil=>exact kn
 |cons a w b=>have n:a≠c:=λz=>h (by rw[z];exact TC);rw[VV,dM n (b λz=>h (TH _ z))]
theorem NV{c:Nat}{w:ck Nat}(h:c∉w):bc c w=[w]:=by
 induction w with
 |nil=>rfl
 |cons a w b=>have n:a≠c:=λz=>h (by rw[z];exact TC);rw[dM n (b λz=>h (TH _ z))]
theorem LH:∀{ws:ck (ck Nat)},ws≠[]->(∀w∈ws,10∉w)->bc 10 (jn ws)=ws:=by
 intro ws
 induction ws with
 |nil=>intro h;exact a7 rfl h
 |cons w r a=>
  intro _ h;cases r with
  |nil=>exact NV (h w TC)
  |cons v r=>show bc 10 (w++10::jn (v::r))=_;rw[ME (h w TC),a (λz=>by cases z) λx b=>h x (TH _ b)]
theorem x8(c:Nat)(t:ck Nat):t.length+1=((bc c t).map λw=>w.length+1).sum:=by
 induction t with
 |nil=>rfl
 |cons a r b=>
  obtain⟨w,d,e⟩:=eA c r;by_cases n:a=c
  .subst n;rw[kn,Ub,Xg,<-b];simp only[TJ,Vu];ext
  .rw[dM n e];rw[e]at b;simp only[Ub,Xg,TJ]at b⊢;ext
theorem OT:∀ws:ck (ck Nat),TV ⟨#[10]⟩ (ws.map tx)=tx (jn ws):=by
 intro ws
 induction ws with
 |nil=>rfl
 |cons w r a=>
  cases r with
  |nil=>rfl
  |cons v r=>show tx w++tx [10]++TV ⟨#[10]⟩ ((v::r).map tx)=_;rw[a,lA,lA,VI];rfl
theorem LF{x:Nat}:∀{ws:ck (ck Nat)},x∈jn ws->x=10\/∃w∈ws,x∈w:=by
 intro ws
 induction ws with
 |nil=>intro h;cases h
 |cons w r a=>
  intro h;cases r with
  |nil=>exact .inr ⟨w,TC,h⟩
  |cons v r=>
   rcases Uy.mp (show x∈w++10::jn (v::r)from h)with h|h
   .exact .inr ⟨w,TC,h⟩
   .rcases TL.mp h with h|h
    .exact .inl h
    .rcases a h with z|⟨u,hu,z⟩
     .exact .inl z
     .exact .inr ⟨u,TH _ hu,z⟩
theorem TB.rows{L P n T:Nat}{t:ck Nat}(h:TB L P n T t){ws:ck (ck Nat)}(a:ws.Perm (bc 10 t)\/∃r∈bc 10 t,ws.Perm (r::bc 10 t)):TB (2*L+1) (2*P+1) (n+1) (T+L+1) (jn ws):=by
 have e:=(cO 10 t).1;obtain⟨k,j,g⟩:=eA 10 t;have mem:∀w∈ws,w∈bc 10 t:=λw b=>by
  rcases a with a|⟨r,hr,a⟩
  .exact a.mem_iff.mp b
  .rcases TL.mp (a.mem_iff.mp b)with rfl|z
   .exact hr
   .exact z
 have ne:ws≠[]:=λz=>by
  subst z;rcases a with a|⟨r,hr,a⟩
  .have:=a.length_eq;rw[g]at this;cases this
  .have:=a.length_eq;cases this
 have sp:=LH ne λw b=>(e w (mem w b)).1;have f:=x8 10 (jn ws);have lt:=x8 10 t;rw[sp]at f;have m:(ws.map λw=>w.length+1).sum<=((bc 10 t).map λw=>w.length+1).sum+L+1/\ws.length<=(bc 10 t).length+1:=by
  rcases a with a|⟨r,hr,a⟩
  .have:=(a.map λw:ck Nat=>w.length+1).sum_nat;have:=a.length_eq;ext
  .have:=(a.map λw:ck Nat=>w.length+1).sum_nat;have:=a.length_eq;have:=(h.r r hr).1;simp only[Ub,Xg,TJ] at*;ext
 have i:=(i4 10 (jn ws)).2;have o:=(i4 10 t).2;rw[sp]at i;refine⟨?_,by have:=h.l;ext,by have:=h.n;ext,λx d=>?_⟩
 .intro x d
  rcases LF d with rfl|⟨w,b,z⟩
  .omega
  .exact h.c x ((e w (mem w b)).2.2 x z)
 .rw[sp]at d;have:=h.r x (mem x d);ext
theorem GQ{x c:Nat}(n:x≠c)(t:ck Nat):t.count x=((bc c t).map λw=>w.count x).sum:=by
 induction t with
 |nil=>rfl
 |cons a r b=>
  obtain⟨w,d,e⟩:=eA c r;by_cases h:a=c
  .subst h;rw[kn,Ub,Xg,<-b,abF (en n),List.count_nil,XD]
  .rw[dM h e];rw[e]at b;simp only[Ub,Xg,List.count_cons]at b⊢;ext
theorem Qr(m:Mn):Fr 43 (wS m):=by
 unfold Fr;cases m with
 |UP c=>intro z;have:=TX.mp (show 43∈[97+c]from z);ext
 |none=>intro z;have:=TX.mp (show 43∈[46]from z);ext
 |below=>intro z;have:=TX.mp (show 43∈[95]from z);ext
 |Vh n=>intro z;have z:43∈[62,48+n.toNat]:=z;simp only[TL,TY,or_false]at z;ext
 |once n=>intro z;have z:43∈[126,48+n.toNat]:=z;simp only[TL,TY,or_false]at z;ext
 |XF c n=>intro z;have z:43∈[97+c,62,48+n.toNat]:=z;simp only[TL,TY,or_false]at z;ext
theorem RU:Fr 43 "layer"/\Fr 43 "chord":=by unfold Fr;left
theorem JJ{s:Str}(h:Fr 43 s):(cd s).count 43=0:=List.count_eq_zero.mpr h
theorem NW:∀n:Nat,n<10->∀w:Nat,w<10->(cd (jK n w)).count 43<=4:=by left
theorem NP(l:ck Mn):(cd (iW l)).count 43<=4:=by have:=JJ (s:=iW l) (gM (by decide) (aB RU.1 λs a=>by obtain⟨m,_,rfl⟩:=TZ.mp a;exact Qr m));ext
theorem MW{c:ck Nat×Nat}(b:2<=c.1.length)(a:c.1.length<=5):(cd (iK c)).count 43<=4:=by have f:=oZ a;have e:=dS (c:=32) (ws:=[("chord":Str),ik c.1,jz c.2]) (by nofun) (Jq (.inl rfl)) (by unfold iK at f;ext) (by show 3<=1000;decide);have d:=my a;have i:=dS (c:=43) (ws:=c.1.map iC) (by intro z;rw[aco]at z;rw[z]at b;cases b) (λw h=>by obtain⟨k,_,rfl⟩:=TZ.mp h;exact lG (by decide)) (by unfold ik at d;ext) (by rw[Tv];ext);have g:=(i4 43 (cd (ik c.1))).2;rw[show ik c.1=TV ⟨#[43]⟩ (c.1.map iC)from rfl,i,Tv,Tv]at g;have l:=JJ RU.2;have j:=JJ (wn (c:=c.2) (x:=43) (by decide));rw[GQ (x:=43) (c:=32) (by decide),show iK c=TV ⟨#[32]⟩ [("chord":Str),ik c.1,jz c.2]from rfl,e];simp only[Ub,Vs,Xg,List.sum_nil];rw[l,j,show ik c.1=TV ⟨#[43]⟩ (c.1.map iC)from rfl];ext
theorem wB(s:Str):s.length=(cd s).length:=by rw[<-dU (cd s),pX]
theorem GH{b:Bd}(h:VB b):TB 36 4 7 296 (cd (ej b)):=by
 have o:=mE h;have e:=rH h;have q:=h.n1;have p:=h.n5;have n:=h.w1;have m:=h.w4;refine⟨Dz (uJ h),?_,?_,?_⟩
 .have f:=g6 (d:=10) (jx h);rw[TJ]at f;rw[<-wB];unfold ej;ext
 .have:=(i4 10 (cd (ej b))).2;rw[e,TJ,Tv]at this;ext
 .rw[e]
  have g:=jx h;intro x a;rcases TL.mp a with rfl|a
  .have:=g _ TC;rw[wB]at this;exact⟨this,NW _ (by ext) _ (by ext)⟩
  .obtain⟨r,i,rfl⟩:=TZ.mp a
   have:=g r (TH _ i);rw[wB]at this;refine⟨this,?_⟩;rcases Uy.mp i with z|z
   .obtain⟨l,_,rfl⟩:=TZ.mp z;exact NP l
   .obtain⟨c,j,rfl⟩:=TZ.mp z;obtain⟨f,k,_⟩:=pj h j;exact MW f k
theorem TB.mono{L P n T T':Nat}{t:ck Nat}(h:TB L P n T t)(a:T<=T'):TB L P n T' t:=⟨h.c,by have:=h.l;ext,h.n,h.r⟩
def QH:ck Nat:=[48,49,50,51,32,97,98,62,126,46,95,43,122,10,107,101,65,45,9]
theorem KH{y:Int}(d:0<=y)(h:y<19):∃c,c<1114112/\AJ (.str "0123 ab>~._+z\nkeA-\t") (.int y)=-(ap [c]):=by
 have b:("0123 ab>~._+z\nkeA-\t":Str).length<=1000000:=by left
 have a:∀c,c<19->(("0123 ab>~._+z\nkeA-\t":Str).cps.toList)[c]?=ax (QH.getD c 0):=by left
 have ok:∀c,c<19->QH.getD c 0<1114112:=by left
 refine⟨QH.getD y.toNat 0,ok _ (by ext),?_⟩;show(if("0123 ab>~._+z\nkeA-\t":Str).length<=1000000 then(mL ("0123 ab>~._+z\nkeA-\t":Str).cps.toList y).map (λc=>RV.fz (.str ⟨#[c]⟩))else CL)=_;rw[ak b,oE d (a y.toNat (by ext))];rfl
theorem Nj{k n:Nat}(h:k<n):seqIndex? (k:Int) n=ax k:=by unfold seqIndex?;simp;ext
theorem JD{ws:ck (ck Nat)}{k:Nat}{w:ck Nat}(h:ws[k]?=ax w):aG (.list (ws.map ap)) (.int (k:Int))=-(ap w):=jZ (by ext) (by rw[UI,TU,h];rfl)
theorem iu(x:Int){m:Nat}(h:0<m):∃a:Nat,a<m/\br (.int x) (.int (m:Int))=-(.int (a:Int)):=by have b:=Vi x (show(m:Int)≠0 by ext);have d:=VA x (show 0<(m:Int) by ext);refine⟨(x % (m:Int)).toNat,by ext,?_⟩;rw[cC (by ext),WL b]
theorem GS{ws:ck (ck Nat)}{B:Nat}(h:∀w∈ws,w.length<=B)(e:ws.length*B+ws.length<=1000000):ie "\n" [.list (ws.map ap)]=-(ap (jn ws)):=by have:=mi (d:=10) (ws:=ws.map tx) (B:=B) (λw a=>by obtain⟨v,b,rfl⟩:=TZ.mp a;rw[dU];exact h v b) (by rw[Tv];exact e);rw[OT,Uz]at this;rw[N0];exact this
abbrev eC(t:ck Nat)(x y:Int)(d b a o7:cv PV):aD:=[-(ap t),-(.int x),-(.int y),-(.str "0123 ab>~._+z\nkeA-\t"),d,b,a,o7]
theorem nO:∀(a:ck (ck Nat)) (i:Nat),(a.map ap).eraseIdx i=(a.eraseIdx i).map ap:=by
 intro a
 induction a with
 |nil=>intro i;rfl
 |cons u r b=>
  intro i;cases i with
  |zero=>rfl
  |succ i=>show ap u::(r.map ap).eraseIdx i=ap u::(r.eraseIdx i).map ap;rw[b]
theorem yT(a:ck (ck Nat))(p:Nat)(r:ck Nat):(a.map ap).take p++ap r::(a.map ap).drop p=(a.take p++r::a.drop p).map ap:=by rw[UY,Ub,YV,X4]
theorem xy{b:ck (ck Nat)}{k:Nat}(h:k<b.length):(b[k]::b.eraseIdx k).Perm b:=by have:=(adH (a:=b[k]) (l₁:=b.take k) (l₂:=b.drop (k+1))).symm;rwa [<-List.eraseIdx_eq_take_drop_succ,<-XO h,Vx]at this
theorem vV(b:ck (ck Nat))(p:Nat)(r:ck Nat):(b.take p++r::b.drop p).Perm (r::b):=by have:=adH (a:=r) (l₁:=b.take p) (l₂:=b.drop p);rwa [Vx]at this
theorem xx{L P n T:Nat}{t:ck Nat}(h:TB L P n T t)(hT:T+L+1<=990)(x y:Int):∃t',TB (2*L+1) (2*P+1) (n+1) (T+L+1) t'/\d6 [ap t,.int x,.int y]=.ok (.fz (ap t')):=by
 have H:∃rv,bN 8 cZ [ap t,.int x,.int y]=.ok rv/\∃t',TB (2*L+1) (2*P+1) (n+1) (T+L+1) t'/\rv=.fz (ap t'):=by
  have hl:=h.l;have u:t.length<=1000:=by ext
  have ln:=mK u;obtain⟨a,ha,Q⟩:=iu x (m:=t.length+1) (by ext);obtain⟨j,hj,O⟩:=iu y (m:=19) (by decide);obtain⟨c,hc,s1⟩:=KH (y:=(j:Int)) (by ext) (by ext);have d1:bT (.int y) (.int 19)=-(.int (y/19)):=cI (by decide);obtain⟨w,hw,N⟩:=iu (y/19) (m:=6) (by decide);have Q:br (.int x) (.int ((t.length:Int)+1))=-(.int (a:Int)):=Q;have O:br (.int y) (.int 19)=-(.int (j:Int)):=O;have N:br (.int (y/19)) (.int 6)=-(.int (w:Int)):=N;refine ko (ρ:=[-(ap t),-(.int x),-(.int y),CL,CL,CL,CL,CL]) rfl ?_;unfold cZ;refine aM (ρ3:=eC t x y CL CL CL CL) av rfl rfl ?_;refine aM (ρ3:=eC t x y (-(.int a)) CL CL CL) (by fail "ev") rfl rfl ?_;refine aM (ρ3:=eC t x y (-(.int a)) (-(ap [c])) CL CL) (by fail "ev") rfl rfl ?_;refine aM (ρ3:=eC t x y (-(.int a)) (-(ap [c])) (-(.int w)) CL) (by fail "ev") rfl rfl ?_;have t0:=jq u a;have f1:aX (ap t) (ax ((a:Int)+1)) CL=-(ap (t.drop (a+1))):=fD u (a+1);have f0:=fD u a;have f2:aX (ap t) (ax (a:Int)) (ax ((a:Int)+1))=-(ap ((t.drop a).take 1)):=by have:=oB u (a:=a) (b:=a+1) (by ext);rw[show a+1 - a=1 by ext]at this;exact this
  have lt:(t.take a).length<=t.length:=by rw[Uq];ext
  have ld:(t.drop a).length<=t.length:=by rw[UB];ext
  have Z:((t.drop a).take 1).length<=1:=by rw[Uq];ext
  have l3:(t.take a).length+(t.drop a).length=t.length:=by rw[<-T4,Vx]
  have l4:(t.drop (a+1)).length<=(t.drop a).length:=by rw[UB,UB];ext
  refine aP (b:=decide ((w:Int)=0)) (by fail "ev") (λq=>?_) (λq=>ay ?_)
  .have X:=kA (a:=t.take a) (b:=t.drop (a+1)) (by ext);refine aW (pv:=.fz (ap (t.take a++t.drop (a+1)))) (by fail "evp") rfl ⟨_,?_,rfl⟩;have:=(h.sign (m:=[]) (by decide) (λx I=>by cases I) (a:=a) (b:=a+1) (by ext)).mono (T':=T+L+1) (by ext);rw[UQ]at this;exact this
  refine aP (b:=decide ((w:Int)=1)) (by fail "ev") (λq=>?_) (λq=>ay ?_)
  .have X:=kA (a:=t.take a) (b:=(t.drop a).take 1) (by ext);have M:=kA (a:=t.take a++(t.drop a).take 1) (b:=t.drop a) (by rw[T4];ext);refine aW (pv:=.fz (ap (t.take a++(t.drop a).take 1++t.drop a))) (by fail "evp") rfl ⟨_,?_,rfl⟩;exact(h.sign Z (λx I=>h.c x (Xk (WA I))) (TQ a)).mono (by ext)
  have U:iz [c]:=uG hc;have X:=kA (a:=t.take a) (b:=[c]) (by show _+1<=_;ext);refine aP (b:=decide ((w:Int)=2)) (by fail "ev") (λq=>?_) (λq=>ay ?_)
  .have M:=kA (a:=t.take a++[c]) (b:=t.drop a) (by rw[T4];show _+1+_<=_;ext);refine aW (pv:=.fz (ap (t.take a++[c]++t.drop a))) (by fail "evp") rfl ⟨_,?_,rfl⟩;exact(h.sign (m:=[c]) (TQ 1) U (TQ a)).mono (by ext)
  refine aP (b:=decide ((w:Int)=3)) (by fail "ev") (λq=>?_) (λq=>ay ?_)
  .have M:=kA (a:=t.take a++[c]) (b:=t.drop (a+1)) (by rw[T4];show _+1+_<=_;ext);refine aW (pv:=.fz (ap (t.take a++[c]++t.drop (a+1)))) (by fail "evp") rfl ⟨_,?_,rfl⟩;exact(h.sign (m:=[c]) (TQ 1) U (Xl a)).mono (by ext)
  have K:lD.str "\n"=ap [10]:=by show lD.str _=lD.str _;congr 1
  have sp:=iy (c:=10) u;rw[<-K]at sp;have E:=cO 10 t;have Y:=nk (bc 10 t);have d:=λws J=>h.rows (ws:=ws) J;have f:0<(bc 10 t).length:=by obtain⟨w0,wr,e0⟩:=eA 10 t;rw[e0];exact Nat.succ_pos _
  generalize bc 10 t=R at sp E Y d f;refine aM (ρ3:=eC t x y (-(.int a)) (-(ap [c])) (-(.int w)) (ax (.ow (R.map ap)))) (gW (af rfl) rfl (ad av ai) rfl sp) rfl rfl ?_;obtain⟨k,C,m4⟩:=iu x (m:=R.length) f;refine aM (ρ3:=eC t x y (-(.int k)) (-(ap [c])) (-(.int w)) (ax (.ow (R.map ap)))) (by fail "ev") rfl rfl ?_;have S:∀ws:ck (ck Nat),(∀v∈ws,v∈R)->ws.length<=R.length+1->ie "\n" [.list (ws.map ap)]=-(ap (jn ws)):=λws hm hn=>GS (B:=990) (λv A=>by have:=(E.1 v (hm v A)).2.1;ext) (by have:=E.2;ext);have i:R[k]?=ax R[k]:=TF C;have o:R[k]∈R:=Vz C;generalize hrk:R[k]=r at i o;refine aP (b:=decide ((w:Int)=4)) (by fail "ev") (λq=>?_) (λq=>?_)
  .obtain⟨p,J,G⟩:=iu (y/114) (m:=R.length+1) (by ext)
   have G:br (.int (y/114)) (.int ((R.length:Int)+1))=-(.int (p:Int)):=G;have d5:bT (.int y) (.int 114)=-(.int (y/114)):=cI (by decide);have ix:=JD i;have g:=vV R p r;refine lV (ρ1:=eC t x y (-(.int k)) (-(ap [c])) (-(.int w)) (ax (.ow ((R.map ap).take p++ap r::(R.map ap).drop p)))) (C7 (ρ:=eC t x y (-(.int k)) (-(ap [c])) (-(.int w)) (ax (.ow (R.map ap)))) (ρ1:=eC t x y (-(.int k)) (-(ap [c])) (-(.int w)) (ax (.ow (R.map ap)))) (ρ2:=eC t x y (-(.int k)) (-(ap [c])) (-(.int w)) (ax (.ow (R.map ap)))) (ρ3:=eC t x y (-(.int k)) (-(ap [c])) (-(.int w)) (ax (.ow (R.map ap)))) (pv1:=.fz (.int (p:Int))) (pv2:=.fz (ap r)) (n:=p) (d2:=ap r) (ds0:=R.map ap) (ds:=R.map ap) rfl (by fail "evp") rfl (by fail "evp") rfl rfl (by rw[Tv];ext) (by rw[Tv];have:=E.2;ext)) ?_;rw[yT];refine aR (gW (rv:=.fz (ap (jn (R.take p++r::R.drop p)))) av rfl (ad (bQ rfl) ai) rfl (S _ (λv A=>?_) (by rw[g.length_eq];exact TQ _))) rfl ⟨_,d _ (.inr ⟨r,o,g⟩),rfl⟩;rcases TL.mp (g.mem_iff.mp A)with rfl|z
   .exact o
   .exact z
  .obtain⟨p,J,G⟩:=iu (y/228) (m:=R.length) f
   have d5:bT (.int y) (.int 228)=-(.int (y/228)):=cI (by decide);have el:=List.length_eraseIdx_of_lt C;have F:(r::R.eraseIdx k).Perm R:=by rw[<-hrk];exact xy C
   have g:=(vV (R.eraseIdx k) p r).trans F;have M:=E.2;refine lV (ρ1:=eC t x y (-(.int k)) (-(ap [c])) (-(.int w)) (ax (.ow (((R.map ap).eraseIdx k).take p++ap r::((R.map ap).eraseIdx k).drop p)))) (C7 (ρ:=eC t x y (-(.int k)) (-(ap [c])) (-(.int w)) (ax (.ow (R.map ap)))) (ρ1:=eC t x y (-(.int k)) (-(ap [c])) (-(.int w)) (ax (.ow (R.map ap)))) (ρ2:=eC t x y (-(.int k)) (-(ap [c])) (-(.int w)) (ax (.ow ((R.map ap).eraseIdx k)))) (ρ3:=eC t x y (-(.int k)) (-(ap [c])) (-(.int w)) (ax (.ow ((R.map ap).eraseIdx k)))) (pv1:=.fz (.int (p:Int))) (pv2:=.fz (ap r)) (n:=p) (d2:=ap r) (ds0:=R.map ap) (ds:=(R.map ap).eraseIdx k) rfl (by fail "evp") rfl (Dq (ρ:=eC t x y (-(.int k)) (-(ap [c])) (-(.int w)) (ax (.ow (R.map ap)))) (ρ1:=eC t x y (-(.int k)) (-(ap [c])) (-(.int w)) (ax (.ow (R.map ap)))) (pa:=.fz (.int (k:Int))) (x:=eC t x y (-(.int k)) (-(ap [c])) (-(.int w)) (ax (.ow ((R.map ap).eraseIdx k)))) (n:=(k:Int)) (k:=k) (y:=ap r) (es:=R.map ap) (ds:=R.map ap) rfl (af rfl) rfl rfl (by ext) (by rw[Tv];exact Nj C) (by rw[TU,i];rfl) rfl) rfl rfl (by rw[nO,Tv];ext) (by rw[nO,Tv];ext)) ?_;rw[nO,yT];exact aR (gW (rv:=.fz (ap (jn ((R.eraseIdx k).take p++r::(R.eraseIdx k).drop p)))) av rfl (ad (bQ rfl) ai) rfl (S _ (λv A=>g.mem_iff.mp A) (by rw[g.length_eq];ext))) rfl ⟨_,d _ (.inl g),rfl⟩
 obtain⟨rv,e,t',h1,rfl⟩:=H;exact⟨t',h1,e⟩
theorem P6{n:Nat}{m:Mg}(h:MF m):Lk (n+2) (mG m):=by
 have b:∀{s:ck Nat},HH s->lD.strOk (tx s)=Ld:=λ{s} h=>i9 h.2;cases m with
 |UP c=>
  refine .tup (by show 2<=1000;decide) λd a=>?_;simp only[TL,TY,or_false]at a;rcases a with rfl|rfl
  .exact .str (by left)
  .exact .str (b h)
 |Vh k=>
  refine .tup (by show 2<=1000;decide) λd a=>?_;simp only[TL,TY,or_false]at a;rcases a with rfl|rfl
  .exact .str (by left)
  .exact .int
 |once k=>
  refine .tup (by show 2<=1000;decide) λd a=>?_;simp only[TL,TY,or_false]at a;rcases a with rfl|rfl
  .exact .str (by left)
  .exact .int
 |XF c k=>
  refine .tup (by show 3<=1000;decide) λd a=>?_;simp only[TL,TY,or_false]at a;rcases a with rfl|rfl|rfl
  .exact .str (by left)
  .exact .str (b h)
  .exact .int
 |none=>refine .tup (by show 1<=1000;decide) λd a=>?_;simp only[TL,TY,or_false]at a;subst a;exact .str (by left)
 |below=>refine .tup (by show 1<=1000;decide) λd a=>?_;simp only[TL,TY,or_false]at a;subst a;exact .str (by left)
theorem Od{b:Gb}(h:GF 400 b):Lk 6 (gD b):=by
 refine .tup (by show 4<=1000;decide) λd a=>?_;have j:=h.ll;have g:=h.cl;simp only[TL,TY,or_false]at a;rcases a with rfl|rfl|rfl|rfl
 .exact .int
 .refine .tup (by rw[Tv];ext) λd a=>?_;obtain⟨l,e,rfl⟩:=TZ.mp a;have v:=h.lm l e;refine .tup (by rw[Tv];ext) λd a=>?_;obtain⟨m,hm,rfl⟩:=TZ.mp a;exact P6 (v.2 m hm)
 .refine .tup (by rw[Tv];ext) λd a=>?_
  obtain⟨c,f,rfl⟩:=TZ.mp a;have v:=h.cm c f;refine .tup (by show 2<=1000;decide) λd a=>?_;simp only[TL,TY,or_false]at a;rcases a with rfl|rfl
  .refine .tup (by rw[Tv];ext) λd a=>?_;obtain⟨i,_,rfl⟩:=TZ.mp a;exact .int
  .exact .str (i9 v.2.2)
 .exact .int
abbrev PN(d:D):Prop:=d=.none\/∃i:Nat,d=nd i
theorem KN(b:Gb):iL b=.none\/∃(k:Int) (p q:D),PN p/\PN q/\iL b=.tuple [.int k,p,q]:=by
 unfold iL;by_cases h:mW b=Ld
 .rw[ak h];exact .inr ⟨0,.none,.none,.inl rfl,.inl rfl,rfl⟩
 .rw[ar h]
  cases qA b with
  |some i=>
   refine .inr ⟨0,nd i,(ir b i).getD .none,.inr ⟨i,rfl⟩,?_,rfl⟩;unfold ir;split
   .cases nJ b i with
    |none=>exact .inl rfl
    |some j=>exact .inr ⟨j,rfl⟩
   .exact .inl rfl
  |none=>
   cases qQ b with
   |some p=>exact .inr ⟨1,nd p,.none,.inr ⟨p,rfl⟩,.inl rfl,rfl⟩
   |none=>exact .inl rfl
theorem Io{k:Int}{p q:D}(b:PN p)(a:PN q):bV (.tuple [.int k,p,q]) (.tuple [.int k,p,q])=-(.bool Ld):=by
 have e:∀{d:D},PN d->lD.eqv d d=Ld/\lD.canLay0 d=Ld/\lD.depth d=0:=λ{d} h=>by
  rcases h with rfl|⟨i,rfl⟩
  .exact⟨rfl,rfl,rfl⟩
  .exact⟨a4 rfl,rfl,rfl⟩
 obtain⟨l,j,g⟩:=e b;obtain⟨f,b2,b3⟩:=e a;show(if(((Ld&&(lD.canLay0 p&&(lD.canLay0 q&&Ld)))&&decide (max 0 (max (lD.depth p) (max (lD.depth q) 0))+1<=64))&&(Ld&&(lD.canLay0 p&&(lD.canLay0 q&&Ld))))=Ld then ax (RV.fz (.bool (decide (k=k)&&(lD.eqv p p&&(lD.eqv q q&&Ld)))))else CL)=_;rw[l,j,g,f,b2,b3,a4 (rfl:k=k)];rfl
def bA:ck Str:=["","keys","keys 1 wait 1","keys 1 wait 1\nlayer","keys 1 wait 1\nlayer ","keys 1 wait 1\nlayer a\n","keys 01 wait 1\nlayer a","keys 1 wait 5\nlayer a","keys 1 wait 1\nchord 0 a\nlayer a","keys 1 wait 1\nlayer a\nchord 0 a","keys 1 wait 1\nlayer >1","keys 1 wait 1\nlayer _","keys 1 wait 1\nlayer a>","keys 1 wait 1\nlayer ~","keys 1 wait 1\nlayer a>1\nlayer _","keys 2 wait 1\nlayer a b\nchord 1+0 c","keys 2 wait 1\nlayer a b\nchord 0+ c","keys 2 wait 1\nlayer a b\nchord 0+1 C","keys 1 wait 100\nlayer a","keys 10 wait 1\nlayer a","keys 1 wait 1\nlayer a>100\nlayer b","keys 2 wait 1\nlayer a b\nchord 0+1 c\nchord 0+1 d","keys 2 wait 1\nlayer a _\nlayer a"]
theorem MZ:∀s∈bA,(cd s).length<=60/\(∀c∈cd s,c<1114112)/\(cd s).count 43<=5:=by left
theorem Np{s:Str}(h:s∈bA):adm (cd s):=by obtain⟨g,e,f⟩:=MZ s h;have b:=cO 10 (cd s);have d:=(i4 10 (cd s)).1;refine⟨by ext,e,by have:=b.2;ext,λx a=>?_⟩;have:=(b.1 x a).2.1;have:=(d x a).count_le 43;ext
def Sm(k:Nat)(t:ck Nat):Prop:=∃L P n T,TB L P n T t/\L+1<=37*2^k/\P+1<=5*2^k/\n<=7+k/\T<=259+37*2^k
theorem two_k{k:Nat}(h:k<=3):2^k<=8:=acp (n:=2) (by decide) h
theorem Os{k:Nat}{t:ck Nat}(h:Sm k t)(a:k<=3):adm t:=by obtain⟨L,P,n,T,b,g,f,e,d⟩:=h;have:=two_k a;exact b.ok (by ext) (by ext) (by ext) (by ext)
theorem G5{k:Nat}{t:ck Nat}(h:Sm k t)(a:k<=2)(x y:Int):∃t',Sm (k+1) t'/\d6 [ap t,.int x,.int y]=.ok (.fz (ap t')):=by obtain⟨L,P,n,T,b,m,l,j,i⟩:=h;have f:2^k<=4:=acp (n:=2) (by decide) a;obtain⟨t',g,e⟩:=xx b (by ext) x y;have d:2^(k+1)=2^k*2:=Nat.pow_succ 2 k;exact⟨t',⟨_,_,_,_,g,by ext,by ext,by ext,by ext⟩,e⟩
abbrev eW(ns:ck Int)(b:Bd)(t:ck Nat)(x:Int)(d a o7:cv PV):aD:=[-(.list (ns.map .int)),-(bD b),-(.str (ej b)),-(ap t),-(.int x),d,a,o7,CL,CL]
def Eg:FS:=(aj (aN (aK cA 1 {ac 3}) (gN 8))
 (aj (ce (ag (ah bV (b8 bF {ac 8}) (~~~4))) (aj (aN (aK gu 1 {ac 8}) (gN 9))
 (aj (ce (ag (ah jd (ac 9) (pC .none))) (aL (j8 (aK bH 2 {aK aA 1 {ac 3},ac 8}) (aK bH 2 {aK aA 1 {ac 2},ac 1}))) aC)
 (aN (ac 9) (gN 8)))) aC)
 (aL (j8 (ah bV (aK aA 1 {ac 3}) (ac 8)) (aK bH 2 {aK aA 1 {ac 2},ac 1})))))
theorem u7{ns:ck Int}{b:Bd}(i:VB b){t:ck Nat}(h:adm t)(x:Int)(d a o7:cv PV){N C:aD->Prop}:Go (Eg (eW ns b t x d a o7)) N C (λr=>r=.fz (.bool Ld)):=by
 have u:=zE i;have A:bH [bD b,bD b]=.ok (.fz (.bool Ld)):=sH 6 _ (Jp i);unfold Eg;rcases Qb h with⟨k,er,f⟩|⟨g,m,er,B,l⟩
 .have eq:=Io (k:=2) (p:=nd k) (q:=.none) (.inr ⟨k,rfl⟩) (.inl rfl);have w:bF [.tuple [.int 2,nd k,.none]]=-(.int 3):=rfl;refine aM (ρ3:=(eW ns b t x d a o7).set 8 (-(.tuple [.int 2,nd k,.none]))) (by fail "ev") rfl rfl ?_;refine aP (b:=Tx) (by fail "ev") (λq=>by cases q) λ_=>ay ?_;fail "go";rfl
 .have v:bF [gD g]=-(.int 4):=rfl
  refine aM (ρ3:=(eW ns b t x d a o7).set 8 (-(gD g))) (by fail "ev") rfl rfl ?_;refine aP (b:=Ld) (by fail "ev") (λ_=>eG ?_) λq=>by cases q
  refine aM (ρ3:=((eW ns b t x d a o7).set 8 (-(gD g))).set 9 (-(iL g))) (by fail "ev") rfl rfl ?_;rcases l with⟨o,f⟩|⟨n,f⟩
  .have y:bH [gD g,gD g]=.ok (.fz (.bool Ld)):=sH 6 _ (Od m)
   have j:jd (iL g) .none=-(.bool Ld):=by rw[o];rfl
   refine eG (aP (b:=Ld) (by fail "ev") (λ_=>?_) λq=>by cases q);fail "go";rfl
  .rcases KN g with z|⟨k,p,q,hp,hq,e⟩
   .exact a7 z n
   rw[e]at f⊢;have eq:=Io (k:=k) hp hq;have j:jd (.tuple [.int k,p,q]) .none=-(.bool Tx):=rfl;refine eG (aP (b:=Tx) (by fail "ev") (λq=>by cases q) λ_=>ay ?_);refine aM (ρ3:=((eW ns b t x d a o7).set 8 (-(.tuple [.int k,p,q]))).set 9 (-(.tuple [.int k,p,q]))) (by fail "ev") rfl rfl ?_;fail "go";rfl
theorem main(ns:ck Int)(f:ns.length<=63):F_law [.list (ns.map .int)]=.ok (.fz (.bool Ld)):=by
 obtain⟨b,j,X⟩:=IG ns f 7 (by decide) (by decide);have tx:=G0 j;obtain⟨c0,K⟩:=jC ns 0 (by decide) f;obtain⟨x,P,U⟩:=jL c0 30 (by decide) (by decide);obtain⟨q,R,n⟩:=iu x (m:=4) (by decide);have n:br (.int x) (.int 4)=-(.int (q:Int)):=n;refine aY (ρ:=[-(.list (ns.map .int)),CL,CL,CL,CL,CL,CL,CL,CL,CL]) rfl ?_;unfold vx;refine aM (ρ3:=[-(.list (ns.map .int)),-(bD b),CL,CL,CL,CL,CL,CL,CL,CL]) (by fail "ev") rfl rfl ?_;refine aM (ρ3:=[-(.list (ns.map .int)),-(bD b),-(.str (ej b)),CL,CL,CL,CL,CL,CL,CL]) (by fail "ev") rfl rfl ?_;refine aM (ρ3:=[-(.list (ns.map .int)),-(bD b),-(.str (ej b)),-(.str (ej b)),CL,CL,CL,CL,CL,CL]) (by fail "ev") rfl rfl ?_;refine aM (ρ3:=eW ns b (cd (ej b)) x CL CL CL) (by fail "ev") rfl rfl ?_;refine fW (λk ρ=>∃t e a,Sm k t/\ρ=eW ns b t x e a CL) (iv (ds:=[nd q]) (ad (aO (rv:=.fz (.int (q:Int))) (af rfl) av rfl rfl n) ai) rfl (kH (by ext))) ⟨_,CL,CL,⟨36,4,7,296,GH j,by decide,by decide,by decide,by decide⟩,rfl⟩ ?_ ?_
 .rintro i d ρ g ⟨t,e,a,h,rfl⟩
  obtain⟨k,rfl,E⟩:∃k:Nat,d=nd k/\k=i/\i<q:=by
   unfold cG at g;rw[TU]at g;cases z:(Uo q)[i]? with
   |none=>rw[z]at g;cases g
   |some k=>rw[z]at g;cases g;exact⟨k,rfl,js z⟩
  obtain⟨rfl,F⟩:=E;have O:fE (.int 2) (.int (k:Int))=-(.int (2*(k:Int))):=by rw[qm];exact yy (by decide)
  obtain⟨N,J⟩:=jC ns (2+2*(k:Int)) (by ext) f;obtain⟨y,_,T⟩:=jL N (35+(k:Int)) (by ext) (by ext);obtain⟨M,I⟩:=jC ns (1+2*(k:Int)) (by ext) f;obtain⟨z,_,S⟩:=jL M (31+(k:Int)) (by ext) (by ext);obtain⟨o,l,H⟩:=G5 h (by ext) z y;refine⟨eW ns b t x (-(nd k)) a CL,rfl,?_⟩;refine aM (ρ3:=eW ns b t x (-(nd k)) (-(.int y)) CL) (by fail "ev") rfl rfl ?_;refine Bp (ρ3:=eW ns b o x (-(nd k)) (-(.int y)) CL) (by fail "ev") rfl rfl ⟨o,_,_,l,rfl⟩
 .rintro ρ ⟨t,e,a,h,rfl⟩
  have A:(cG (Uo q)).length=q:=by unfold cG;rw[Tv,Ul]
  rw[A]at h;have G:=Os h (by ext);have Y:bT (.int x) (.int 4)=-(.int (x/4)):=cI (by decide);have L:bT (.int x) (.int 16)=-(.int (x/16)):=cI (by decide);obtain⟨u,Q,r⟩:=iu (x/4) (m:=4) (by decide);have r:br (.int (x/4)) (.int 4)=-(.int (u:Int)):=r;obtain⟨v,C,p⟩:=iu (x/16) (m:=23) (by decide);have p:br (.int (x/16)) (.int 23)=-(.int (v:Int)):=p;refine aP (b:=decide ((u:Int)=3)) (by fail "ev") (λ_=>?_) λ_=>ay (u7 j G x e a CL);have w:bA[v]?=ax (bA.getD v ""):=by
   have:∀v,v<23->bA[v]?=ax (bA.getD v ""):=by left
   exact this v C
  have B:aG (.list (bA.map .str)) (.int (v:Int))=-(.str (bA.getD v "")):=jZ (by ext) (by rw[UI,TU,w];rfl);refine eG (aM (ρ3:=eW ns b t x e a (ax (.ow ((bA.take 5).map .str)))) (by fail "ev") rfl rfl ?_);refine eG (aM (ρ3:=eW ns b t x e a (ax (.ow ((bA.take 6).map .str)))) (aO (rv:=.ow ((bA.take 6).map .str)) (bQ rfl) (by fail "ev") rfl rfl rfl) rfl rfl ?_);refine eG (aM (ρ3:=eW ns b t x e a (ax (.ow ((bA.take 9).map .str)))) (aO (rv:=.ow ((bA.take 9).map .str)) (bQ rfl) (by fail "ev") rfl rfl rfl) rfl rfl ?_);refine eG (aM (ρ3:=eW ns b t x e a (ax (.ow ((bA.take 12).map .str)))) (aO (rv:=.ow ((bA.take 12).map .str)) (bQ rfl) (by fail "ev") rfl rfl rfl) rfl rfl ?_);refine eG (aM (ρ3:=eW ns b t x e a (ax (.ow ((bA.take 15).map .str)))) (aO (rv:=.ow ((bA.take 15).map .str)) (bQ rfl) (by fail "ev") rfl rfl rfl) rfl rfl ?_);refine eG (aM (ρ3:=eW ns b t x e a (ax (.ow ((bA.take 17).map .str)))) (aO (rv:=.ow ((bA.take 17).map .str)) (bQ rfl) (by fail "ev") rfl rfl rfl) rfl rfl ?_);refine eG (aM (ρ3:=eW ns b t x e a (ax (.ow ((bA.take 19).map .str)))) (aO (rv:=.ow ((bA.take 19).map .str)) (bQ rfl) (by fail "ev") rfl rfl rfl) rfl rfl ?_);refine eG (aM (ρ3:=eW ns b t x e a (ax (.ow ((bA.take 21).map .str)))) (aO (rv:=.ow ((bA.take 21).map .str)) (bQ rfl) (by fail "ev") rfl rfl rfl) rfl rfl ?_);refine eG (aM (ρ3:=eW ns b t x e a (ax (.ow ((bA.take 22).map .str)))) (aO (rv:=.ow ((bA.take 22).map .str)) (bQ rfl) (by fail "ev") rfl rfl rfl) rfl rfl ?_);refine eG (aM (ρ3:=eW ns b t x e a (ax (.ow ((bA.take 23).map .str)))) (aO (rv:=.ow ((bA.take 23).map .str)) (bQ rfl) (by fail "ev") rfl rfl rfl) rfl rfl ?_);refine aM (ρ3:=eW ns b (cd (bA.getD v "")) x e a (ax (.ow (bA.map .str)))) (aO (rv:=.fz (.str (bA.getD v ""))) (bQ rfl) (by fail "ev") rfl rfl B) rfl rfl ?_;exact u7 j (Np (Uk w)) x e a _
end K24
namespace K24
open PySem L2 L3 L10 CC
set_option synthInstance.maxHeartbeats 400000
set_option synthInstance.maxSize 4000
def top(i:Nat):Wo:=PySem.Challenge.pw_chordbed_k24_whole_beds_read.main.body.getD i (.Pass ⟨0,0,0,0⟩)
def bv:ck CC.Fd:=[CC.fdX 1 "NoChord" "place",
 CC.fdX 1 "NoText" "row",
 CC.agA 1 "NoBed" "layer" "key",
 CC.V6 1 "_law_cell" ["_law_script","_law_k"] 2 bO,
 CC.V6 1 "_law_stirred" ["_law_cell_here","_law_salt"] 2 cy,
 CC.V6 2 "_law_stream" ["_law_cell_here","_law_many"] 2 gG,
 CC.V6 1 "_law_letter" ["_law_cell_here"] 1 bp,
 CC.V6 2 "_law_meaning_of" ["_law_rest","_law_layer","_law_layers"] 3 cS,
 CC.V6 3 "_law_read_bed" ["_law_xs"] 1 fw,
 CC.V6 2 "_law_wide" ["_law_cell_here","_law_salt"] 2 bP,
 CC.V6 2 "_law_meaning" ["_law_cell_here","_law_layer","_law_layers"] 3 dI,
 CC.V6 4 "_law_bed" ["_law_script","_law_at"] 2 jO,
 CC.V6 1 "_law_word" ["_law_meaning_here"] 1 gO,
 CC.V6 2 "_law_text" ["_law_bed_here"] 1 ja,
 CC.V6 1 "_law_changed" ["_law_text_here","_law_cell_here","_law_other"] 3 d6,
 CC.V6 1 "_law_figures" ["_law_word_here"] 1 bJ,
 CC.V6 1 "_law_is_letter" ["_law_sign"] 1 a9,
 CC.V6 2 "_law_meant" ["_law_word_here"] 1 fX,
 CC.V6 3 "_law_row" ["_law_words","_law_first"] 2 fA,
 CC.V6 4 "_law_reading" ["_law_text_here"] 1 cA,
 CC.V6 2 "_law_means" ["_law_meaning_here","_law_layer","_law_layers"] 3 iq,
 CC.V6 2 "_law_chord_good" ["_law_chords","_law_place","_law_keys","_law_plain"] 4 dA,
 CC.V6 3 "_law_due" ["_law_bed_here"] 1 gu,
 CC.V6 1 "read_number" ["word"] 1 bG,
 CC.V6 1 "all_read" ["values"] 1 ci,
 CC.V6 2 "read_numbers" ["words"] 1 dJ,
 CC.V6 1 "is_letter" ["text"] 1 b9,
 CC.V6 2 "read_meaning" ["word"] 1 dY,
 CC.V6 3 "read_layer" ["words"] 1 gl,
 CC.V6 2 "read_parted" ["text","sign"] 2 gL,
 CC.V6 3 "read_chord" ["words"] 1 fL,
 CC.V6 2 "may_mean" ["meaning","layer","layers"] 3 gq,
 CC.V6 1 "rises" ["keys"] 1 mJ,
 CC.V6 2 "is_chord_set" ["bed","keys"] 2 cW,
 CC.V6 1 "_law_whole" ["_law_thing"] 1 ij,
 CC.V6 1 "_law_like" ["_law_found","_law_due_here"] 2 eO,
 CC.V6 2 "_law_like" ["_law_found","_law_due_here"] 2 eX,
 CC.V6 3 "_law_like" ["_law_found","_law_due_here"] 2 eN,
 CC.V6 4 "_law_like" ["_law_found","_law_due_here"] 2 eP,
 CC.V6 5 "_law_like" ["_law_found","_law_due_here"] 2 eJ,
 CC.V6 6 "_law_like" ["_law_found","_law_due_here"] 2 eV,
 CC.V6 7 "_law_like" ["_law_found","_law_due_here"] 2 bH,
 CC.fdE 3 "check_numbers" ["bed"] 1 cY,
 CC.fdE 3 "check_layer" ["bed","layer"] 2 c7,
 CC.fdE 3 "check_chord" ["bed","place"] 2 fY,
 CC.fdE 4 "checked" ["bed"] 1 cF,
 CC.fdE 5 "read_bed" ["text"] 1 bw,
 CC.V6 7 "_law_told" ["_law_text_here"] 1 aA]
def iT:CC.Md:=⟨["max","range","tuple","len","int","str","all","list","sorted","set","enumerate","zip","isinstance","bool","ValueError"],[],[("FIGURES",(.str "0123456789")),("MOST_KEYS",(.int 5)),("MOST_LAYERS",(.int 3)),("MOST_CHORDS",(.int 4)),("MOST_WAIT",(.int 4))],[]⟩
noncomputable instance:CC.FX bv "NoChord" "place":=⟨0,1,rfl⟩
noncomputable instance:CC.FX bv "NoText" "row":=⟨1,1,rfl⟩
noncomputable instance:CC.FX2 bv "NoBed" "layer" "key":=⟨2,1,rfl⟩
noncomputable instance:CC.Fn bv CC.V6 bO 2:=⟨3,1,"_law_cell",["_law_script","_law_k"],rfl⟩
noncomputable instance:CC.Fn bv CC.V6 cy 2:=⟨4,1,"_law_stirred",["_law_cell_here","_law_salt"],rfl⟩
noncomputable instance:CC.Fn bv CC.V6 gG 2:=⟨5,2,"_law_stream",["_law_cell_here","_law_many"],rfl⟩
noncomputable instance:CC.Fn bv CC.V6 bp 1:=⟨6,1,"_law_letter",["_law_cell_here"],rfl⟩
noncomputable instance:CC.Fn bv CC.V6 cS 3:=⟨7,2,"_law_meaning_of",["_law_rest","_law_layer","_law_layers"],rfl⟩
noncomputable instance:CC.Fn bv CC.V6 fw 1:=⟨8,3,"_law_read_bed",["_law_xs"],rfl⟩
noncomputable instance:CC.Fn bv CC.V6 bP 2:=⟨9,2,"_law_wide",["_law_cell_here","_law_salt"],rfl⟩
noncomputable instance:CC.Fn bv CC.V6 dI 3:=⟨10,2,"_law_meaning",["_law_cell_here","_law_layer","_law_layers"],rfl⟩
noncomputable instance:CC.Fn bv CC.V6 jO 2:=⟨11,4,"_law_bed",["_law_script","_law_at"],rfl⟩
noncomputable instance:CC.Fn bv CC.V6 gO 1:=⟨12,1,"_law_word",["_law_meaning_here"],rfl⟩
noncomputable instance:CC.Fn bv CC.V6 ja 1:=⟨13,2,"_law_text",["_law_bed_here"],rfl⟩
noncomputable instance:CC.Fn bv CC.V6 d6 3:=⟨14,1,"_law_changed",["_law_text_here","_law_cell_here","_law_other"],rfl⟩
noncomputable instance:CC.Fn bv CC.V6 bJ 1:=⟨15,1,"_law_figures",["_law_word_here"],rfl⟩
noncomputable instance:CC.Fn bv CC.V6 a9 1:=⟨16,1,"_law_is_letter",["_law_sign"],rfl⟩
noncomputable instance:CC.Fn bv CC.V6 fX 1:=⟨17,2,"_law_meant",["_law_word_here"],rfl⟩
noncomputable instance:CC.Fn bv CC.V6 fA 2:=⟨18,3,"_law_row",["_law_words","_law_first"],rfl⟩
noncomputable instance:CC.Fn bv CC.V6 cA 1:=⟨19,4,"_law_reading",["_law_text_here"],rfl⟩
noncomputable instance:CC.Fn bv CC.V6 iq 3:=⟨20,2,"_law_means",["_law_meaning_here","_law_layer","_law_layers"],rfl⟩
noncomputable instance:CC.Fn bv CC.V6 dA 4:=⟨21,2,"_law_chord_good",["_law_chords","_law_place","_law_keys","_law_plain"],rfl⟩
noncomputable instance:CC.Fn bv CC.V6 gu 1:=⟨22,3,"_law_due",["_law_bed_here"],rfl⟩
noncomputable instance:CC.Fn bv CC.V6 bG 1:=⟨23,1,"read_number",["word"],rfl⟩
noncomputable instance:CC.Fn bv CC.V6 ci 1:=⟨24,1,"all_read",["values"],rfl⟩
noncomputable instance:CC.Fn bv CC.V6 dJ 1:=⟨25,2,"read_numbers",["words"],rfl⟩
noncomputable instance:CC.Fn bv CC.V6 b9 1:=⟨26,1,"is_letter",["text"],rfl⟩
noncomputable instance:CC.Fn bv CC.V6 dY 1:=⟨27,2,"read_meaning",["word"],rfl⟩
noncomputable instance:CC.Fn bv CC.V6 gl 1:=⟨28,3,"read_layer",["words"],rfl⟩
noncomputable instance:CC.Fn bv CC.V6 gL 2:=⟨29,2,"read_parted",["text","sign"],rfl⟩
noncomputable instance:CC.Fn bv CC.V6 fL 1:=⟨30,3,"read_chord",["words"],rfl⟩
noncomputable instance:CC.Fn bv CC.V6 gq 3:=⟨31,2,"may_mean",["meaning","layer","layers"],rfl⟩
noncomputable instance:CC.Fn bv CC.V6 mJ 1:=⟨32,1,"rises",["keys"],rfl⟩
noncomputable instance:CC.Fn bv CC.V6 cW 2:=⟨33,2,"is_chord_set",["bed","keys"],rfl⟩
noncomputable instance:CC.Fn bv CC.V6 ij 1:=⟨34,1,"_law_whole",["_law_thing"],rfl⟩
noncomputable instance:CC.Fn bv CC.V6 eO 2:=⟨35,1,"_law_like",["_law_found","_law_due_here"],rfl⟩
noncomputable instance:CC.Fn bv CC.V6 eX 2:=⟨36,2,"_law_like",["_law_found","_law_due_here"],rfl⟩
noncomputable instance:CC.Fn bv CC.V6 eN 2:=⟨37,3,"_law_like",["_law_found","_law_due_here"],rfl⟩
noncomputable instance:CC.Fn bv CC.V6 eP 2:=⟨38,4,"_law_like",["_law_found","_law_due_here"],rfl⟩
noncomputable instance:CC.Fn bv CC.V6 eJ 2:=⟨39,5,"_law_like",["_law_found","_law_due_here"],rfl⟩
noncomputable instance:CC.Fn bv CC.V6 eV 2:=⟨40,6,"_law_like",["_law_found","_law_due_here"],rfl⟩
noncomputable instance:CC.Fn bv CC.V6 bH 2:=⟨41,7,"_law_like",["_law_found","_law_due_here"],rfl⟩
noncomputable instance:CC.Fn bv CC.fdE cY 1:=⟨42,3,"check_numbers",["bed"],rfl⟩
noncomputable instance:CC.Fn bv CC.fdE c7 2:=⟨43,3,"check_layer",["bed","layer"],rfl⟩
noncomputable instance:CC.Fn bv CC.fdE fY 2:=⟨44,3,"check_chord",["bed","place"],rfl⟩
noncomputable instance:CC.Fn bv CC.fdE cF 1:=⟨45,4,"checked",["bed"],rfl⟩
noncomputable instance:CC.Fn bv CC.fdE bw 1:=⟨46,5,"read_bed",["text"],rfl⟩
noncomputable instance:CC.Fn bv CC.V6 aA 1:=⟨47,7,"_law_told",["_law_text_here"],rfl⟩
noncomputable instance k3:CC.CS bv (CC.so gQ):=by delta gQ;infer_instance
theorem e3:CC.WD bv (CC.so gQ) iT ["_law_script","_law_k"] ["_law_script","_law_k"] (top 36) 0 3 Tx=Ld:=by left
noncomputable instance k4:CC.CS bv (CC.so dD):=by delta dD;infer_instance
theorem e4:CC.WD bv (CC.so dD) iT ["_law_cell_here","_law_salt","_law_number"] ["_law_cell_here","_law_salt"] (top 37) 0 4 Tx=Ld:=by left
noncomputable instance k5:CC.CS bv (CC.so dj):=by delta dj;infer_instance
theorem e5:CC.WD bv (CC.so dj) iT ["_law_cell_here","_law_many","_law_found","_law_left","_law_k","_law_x","_law_j"] ["_law_cell_here","_law_many"] (top 39) 1 5 Tx=Ld:=by left
noncomputable instance k6:CC.CS bv (CC.so eY):=by delta eY;infer_instance
theorem e6:CC.WD bv (CC.so eY) iT ["_law_cell_here"] ["_law_cell_here"] (top 41) 0 6 Tx=Ld:=by left
noncomputable instance k7:CC.CS bv (CC.so cR):=by delta cR;infer_instance
theorem e7:CC.WD bv (CC.so cR) iT ["_law_rest","_law_layer","_law_layers","_law_sort","_law_sign","_law_there","_law_found"] ["_law_rest","_law_layer","_law_layers"] (top 43) 1 7 Tx=Ld:=by left
noncomputable instance k8:CC.CS bv (CC.so cN):=by delta cN;infer_instance
theorem e8:CC.WD bv (CC.so cN) iT ["_law_xs","_law_keys","_law_many","_law_layers","_law_layer","_law_plain","_law_chords","_law_x","_law_some"] ["_law_xs"] (top 44) 2 8 Tx=Ld:=by left
noncomputable instance k9:CC.CS bv (CC.so fG):=by delta fG;infer_instance
theorem e9:CC.WD bv (CC.so fG) iT ["_law_cell_here","_law_salt"] ["_law_cell_here","_law_salt"] (top 38) 1 9 Tx=Ld:=by left
noncomputable instance k10:CC.CS bv (CC.so dP):=by delta dP;infer_instance
theorem RE:CC.WD bv (CC.so dP) iT ["_law_cell_here","_law_layer","_law_layers","_law_sort","_law_sign","_law_there"] ["_law_cell_here","_law_layer","_law_layers"] (top 42) 1 10 Tx=Ld:=by left
noncomputable instance k11:CC.CS bv (CC.so gB):=by delta gB;infer_instance
theorem Sk:CC.WD bv (CC.so gB) iT ["_law_script","_law_at","_law_first","_law_rich","_law_keys","_law_layers","_law_layer","_law_row_here","_law_plain","_law_chords","_law_k","_law_cell_here","_law_some"] ["_law_script","_law_at"] (top 45) 3 11 Tx=Ld:=by left
noncomputable instance k12:CC.CS bv (CC.so gU):=by delta gU;infer_instance
theorem Sv:CC.WD bv (CC.so gU) iT ["_law_meaning_here"] ["_law_meaning_here"] (top 52) 0 12 Tx=Ld:=by left
noncomputable instance k13:CC.CS bv (CC.so g7):=by delta g7;infer_instance
theorem Ts:CC.WD bv (CC.so g7) iT ["_law_bed_here","_law_rows","_law_layer","_law_some","_law_sign"] ["_law_bed_here"] (top 53) 1 13 Tx=Ld:=by left
noncomputable instance k14:CC.CS bv (CC.so cZ):=by delta cZ;infer_instance
theorem Sg:CC.WD bv (CC.so cZ) iT ["_law_text_here","_law_cell_here","_law_other","_law_signs","_law_at","_law_sign","_law_way","_law_rows"] ["_law_text_here","_law_cell_here","_law_other"] (top 54) 0 14 Tx=Ld:=by left
noncomputable instance k15:CC.CS bv (CC.so dH):=by delta dH;infer_instance
theorem Sl:CC.WD bv (CC.so dH) iT ["_law_word_here"] ["_law_word_here"] (top 55) 0 15 Tx=Ld:=by left
noncomputable instance k16:CC.CS bv (CC.so c8):=by delta c8;infer_instance
theorem SX:CC.WD bv (CC.so c8) iT ["_law_sign"] ["_law_sign"] (top 47) 0 16 Tx=Ld:=by left
noncomputable instance k17:CC.CS bv (CC.so gh):=by delta gh;infer_instance
theorem Sc:CC.WD bv (CC.so gh) iT ["_law_word_here","_law_mark","_law_head","_law_there"] ["_law_word_here"] (top 56) 1 17 Tx=Ld:=by left
noncomputable instance k18:CC.CS bv (CC.so gr):=by delta gr;infer_instance
theorem To:CC.WD bv (CC.so gr) iT ["_law_words","_law_first"] ["_law_words","_law_first"] (top 57) 2 18 Tx=Ld:=by left
noncomputable instance k19:CC.CS bv (CC.so dX):=by delta dX;infer_instance
theorem S6:CC.WD bv (CC.so dX) iT ["_law_text_here","_law_rows","_law_layers","_law_chords","_law_k","_law_found","_law_keys","_law_wait"] ["_law_text_here"] (top 58) 3 19 Tx=Ld:=by left
noncomputable instance k20:CC.CS bv (CC.so fO):=by delta fO;infer_instance
theorem ST:CC.WD bv (CC.so fO) iT ["_law_meaning_here","_law_layer","_law_layers"] ["_law_meaning_here","_law_layer","_law_layers"] (top 48) 1 20 Tx=Ld:=by left
noncomputable instance k21:CC.CS bv (CC.so cQ):=by delta cQ;infer_instance
theorem Su:CC.WD bv (CC.so cQ) iT ["_law_chords","_law_place","_law_keys","_law_plain","_law_some","_law_sign"] ["_law_chords","_law_place","_law_keys","_law_plain"] (top 49) 1 21 Tx=Ld:=by left
noncomputable instance k22:CC.CS bv (CC.so iQ):=by delta iQ;infer_instance
theorem SN:CC.WD bv (CC.so iQ) iT ["_law_bed_here","_law_keys","_law_layers","_law_chords","_law_wait","_law_layer","_law_key","_law_plain","_law_place"] ["_law_bed_here"] (top 50) 2 22 Tx=Ld:=by left
noncomputable instance k23:CC.CS bv (CC.so eK):=by delta eK;infer_instance
theorem Ss:CC.WD bv (CC.so eK) iT ["word"] ["word"] (top 34) 0 23 Tx=Ld:=by left
noncomputable instance k24:CC.CS bv (CC.so iM):=by delta iM;infer_instance
theorem Sd:CC.WD bv (CC.so iM) iT ["values"] ["values"] (top 31) 0 24 Tx=Ld:=by left
noncomputable instance k25:CC.CS bv (CC.so dW):=by delta dW;infer_instance
theorem S0:CC.WD bv (CC.so dW) iT ["words"] ["words"] (top 28) 1 25 Tx=Ld:=by left
noncomputable instance k26:CC.CS bv (CC.so fH):=by delta fH;infer_instance
theorem Tc:CC.WD bv (CC.so fH) iT ["text"] ["text"] (top 24) 0 26 Tx=Ld:=by left
noncomputable instance k27:CC.CS bv (CC.so dQ):=by delta dQ;infer_instance
theorem SW:CC.WD bv (CC.so dQ) iT ["word"] ["word"] (top 32) 1 27 Tx=Ld:=by left
noncomputable instance k28:CC.CS bv (CC.so fM):=by delta fM;infer_instance
theorem Ti:CC.WD bv (CC.so fM) iT ["words"] ["words"] (top 29) 2 28 Tx=Ld:=by left
noncomputable instance k29:CC.CS bv (CC.so eU):=by delta eU;infer_instance
theorem SZ:CC.WD bv (CC.so eU) iT ["text","sign"] ["text","sign"] (top 33) 1 29 Tx=Ld:=by left
noncomputable instance k30:CC.CS bv (CC.so fQ):=by delta fQ;infer_instance
theorem SA:CC.WD bv (CC.so fQ) iT ["words","keys"] ["words"] (top 30) 2 30 Tx=Ld:=by left
noncomputable instance k31:CC.CS bv (CC.so gv):=by delta gv;infer_instance
theorem Th:CC.WD bv (CC.so gv) iT ["meaning","layer","layers","word"] ["meaning","layer","layers"] (top 20) 1 31 Tx=Ld:=by left
noncomputable instance k32:CC.CS bv (CC.so kN):=by delta kN;infer_instance
theorem Tj:CC.WD bv (CC.so kN) iT ["keys"] ["keys"] (top 23) 0 32 Tx=Ld:=by left
noncomputable instance k33:CC.CS bv (CC.so cX):=by delta cX;infer_instance
theorem Sy:CC.WD bv (CC.so cX) iT ["bed","keys"] ["bed","keys"] (top 22) 1 33 Tx=Ld:=by left
noncomputable instance k34:CC.CS bv (CC.so fU):=by delta fU;infer_instance
theorem Tf:CC.WD bv (CC.so fU) iT ["_law_thing"] ["_law_thing"] (top 40) 0 34 Tx=Ld:=by left
noncomputable instance k36:CC.CS bv (CC.so (aJ eO)):=by delta aJ;infer_instance
theorem Sq:CC.WD bv (CC.so (aJ eO)) iT ["_law_found","_law_due_here"] ["_law_found","_law_due_here"] (top 51) 1 36 Tx=Ld:=by left
noncomputable instance k37:CC.CS bv (CC.so (aJ eX)):=by delta aJ;infer_instance
theorem Tn:CC.WD bv (CC.so (aJ eX)) iT ["_law_found","_law_due_here"] ["_law_found","_law_due_here"] (top 51) 2 37 Tx=Ld:=by left
noncomputable instance k38:CC.CS bv (CC.so (aJ eN)):=by delta aJ;infer_instance
theorem SG:CC.WD bv (CC.so (aJ eN)) iT ["_law_found","_law_due_here"] ["_law_found","_law_due_here"] (top 51) 3 38 Tx=Ld:=by left
noncomputable instance k39:CC.CS bv (CC.so (aJ eP)):=by delta aJ;infer_instance
theorem SB:CC.WD bv (CC.so (aJ eP)) iT ["_law_found","_law_due_here"] ["_law_found","_law_due_here"] (top 51) 4 39 Tx=Ld:=by left
noncomputable instance k40:CC.CS bv (CC.so (aJ eJ)):=by delta aJ;infer_instance
theorem S5:CC.WD bv (CC.so (aJ eJ)) iT ["_law_found","_law_due_here"] ["_law_found","_law_due_here"] (top 51) 5 40 Tx=Ld:=by left
noncomputable instance k41:CC.CS bv (CC.so (aJ eV)):=by delta aJ;infer_instance
theorem S7:CC.WD bv (CC.so (aJ eV)) iT ["_law_found","_law_due_here"] ["_law_found","_law_due_here"] (top 51) 6 41 Tx=Ld:=by left
noncomputable instance k42:CC.CS bv (CC.so bZ):=by delta bZ;infer_instance
theorem SU:CC.WD bv (CC.so bZ) iT ["bed"] ["bed"] (top 18) 2 42 Ld=Ld:=by left
noncomputable instance k43:CC.CS bv (CC.so cB):=by delta cB;infer_instance
theorem Sz:CC.WD bv (CC.so cB) iT ["bed","layer","meanings","key","meaning"] ["bed","layer"] (top 19) 2 43 Ld=Ld:=by left
noncomputable instance k44:CC.CS bv (CC.so cz):=by delta cz;infer_instance
theorem S3:CC.WD bv (CC.so cz) iT ["bed","place","keys"] ["bed","place"] (top 21) 2 44 Ld=Ld:=by left
noncomputable instance k45:CC.CS bv (CC.so d7):=by delta d7;infer_instance
theorem Tl:CC.WD bv (CC.so d7) iT ["bed","layer","place"] ["bed"] (top 17) 3 45 Ld=Ld:=by left
noncomputable instance k46:CC.CS bv (CC.so db):=by delta db;infer_instance
theorem SH:CC.WD bv (CC.so db) iT ["text","rows","numbers","layers","chords","place","row","words","layer","chord"] ["text"] (top 27) 4 46 Ld=Ld:=by left
noncomputable instance k48:CC.CS bv (CC.so vx):=by delta vx;infer_instance
theorem SE:CC.WD bv (CC.so vx) iT ["_law_script","_law_bed_here","_law_good","_law_text_here","_law_first","_law_k","_law_other","_law_some","_law_due_here","_law_refusal"] ["_law_script"] (top 60) 7 48 Tx=Ld:=by left
end K24
namespace L2
open PySem PySem.Spec PyProof.Rows
section
variable{Z:St}{H:Hp}{Q:VK}{D:Ends}
theorem E4{K:cL}{ta b:TE}{f:Str}(h:b Z H λy H1=>ta Z H1 λx H2=>∃a C dx fs,x=.ref a/\H2 a=ax (.ins C dx fs)/\Cls K C/\nV K C f/\fs.length<1000/\D.nx Z (bz H2 a (.ins C dx (Jh f y fs)))):Rc K ta b f D Z H:=h
theorem KK{c:TT}{t u:TE}(h:c Z H λb H1=>if b=Ld then t Z H1 Q else u Z H1 Q):S4 c t u Z H Q:=h
theorem L6{K:cL}{ta:TE}{f:Str}(h:ta Z H λx H1=>∃a C dx fs v,x=.ref a/\H1 a=ax (.ins C dx fs)/\Cls K C/\nV K C f/\fs.lookup f=ax v/\Q v H1):QW K ta f Z H Q:=h
theorem Fb{C:TM}{m:Str}{sp:Sp}{E:XK}{ta:TE}{t:TA}(h:ta Z H λx H1=>∃a dx fs,x=.ref a/\H1 a=ax (.ins C dx fs)/\fs.lookup m=CL/\t Z H1 λvs H2=>sp (x::(vs++[])) H2 Q E):OM C m sp [] E ta t Z H Q:=h
theorem GR{C:TM}{sp:Sp}{E:XK}{t:TA}(h:t Z H λvs H1=>∀x dx,H1 x=CL->H1 dx=CL->dx≠x->sp (.ref x::(vs++[])) (bz (bz H1 dx (.own x)) x (.ins C dx [])) (λv H2=>v=.VX/\Q (.ref x) H2) E):Nb C sp [] E t Z H Q:=h
end
end L2
local macro_rules| `(tactic|fail "gh")=> `(tactic|repeat (first
 |specialize L2.K4 ?_
 |specialize L2.LM ?_
 |specialize L2.E4 ?_
 |specialize L2.KK ?_
 |specialize L2.L6 ?_
 |specialize L2.Fb ?_
 |specialize L2.GR ?_
 |specialize L2.FD ?_
 |((with_reducible show L2.lB _ _ _ _);refine⟨_,rfl,?_⟩)
 |specialize L2.QB ?_
 |specialize L2.Oo ?_
 |specialize L2.al9 ?_
 |specialize L2.aly ?_
 |specialize L2.anZ ?_
 |((specialize L2.aqI ?_ ?_);first|exact⟨by decide,by decide⟩|exact⟨by decide,by decide,by decide⟩|exact(show(0:Int)<_ by decide)|exact⟨by decide,by left⟩)
 |((specialize L2.ND ?_ ?_);exact rfl)
 |((specialize L2.Pi ?_ ?_);exact rfl)
 |specialize L2.K3 ?_
 |specialize L2.GP ?_
 |specialize L2.KF ?_
 |specialize L2.FW ?_
 |specialize L2.agT ?_
 |specialize L2.aix ?_
 |specialize L2.F9 ?_
 |specialize L2.QS ?_
 |specialize L2.MM ?_
 |specialize L2.aj2 ?_
 |specialize L2.N9 ?_
 |specialize L2.Kh ?_
 |specialize L2.aim ?_
 |specialize L2.ajT ?_
 |specialize L2.aiF ?_
 |specialize L2.J0 ?_
 |specialize L2.GU ?_
 |specialize L2.OO ?_
 |specialize L2.Ek ?_
 |specialize L2.LV ?_
 |specialize L2.Je ?_
 |specialize L2.Ob ?_
 |specialize L2.alU ?_
 |specialize L2.afB ?_
 |specialize L2.aiO ?_
 |specialize L2.aj3 ?_
 |specialize L2.agm ?_
 |specialize L2.agW ?_
 |specialize L2.aik ?_
 |specialize L2.ahV ?_
 |specialize L2.ajd ?_
 |specialize L2.ain ?_
 |specialize L2.aiH ?_
 |specialize L2.agO ?_
 |specialize L2.aiC ?_
 |specialize L2.ag2 ?_
 |specialize L2.aiL ?_
 |specialize L2.ahZ ?_))
namespace K24
open PySem L2
theorem NZ{n:Nat}(h:n<=10000):n<T8:=Y6 h (by left)
theorem kf{n:Nat}(h:n<=10000):n<=T8:=WZ (NZ h)
section
variable{P:Ug}{w:Ux}{K:cL}{mg:Str->cv Tw}{base:Heap}{f:TM}{fd:U3}
def Cgt(CR:TM)(H:Hp)(e:TM):Prop:=∃ob,H e=ax (.frz ob (.own e))/\ob.cls=.ref CR/\(∀p,ob.dict=ax p->∃fs,H p=ax (.xd fs))/\ZM ob=Ld
theorem Cgt.same{CR:TM}{H H':Hp}{e:TM}(h:Cgt CR H e)(s:Vl H H'):Cgt CR H' e:=by obtain⟨a,j,i,g,d⟩:=h;exact⟨a,s _ _ j,i,λp b=>let⟨fs,z⟩:=g p b;⟨fs,s _ _ z⟩,d⟩
theorem dk{K:cL}{CR C:TM}{m:ck Tw}{H:Hp}{e:TM}{b:Bool}{Q:VK}(h:Cgt CR H e)(L:L4.Xh K CR m)(k:Uv K (.ref CR) (.ref C)=ax b)(q:Q (.bl b) H):L4.DB K [.ref e,.ref C] H Q:=by obtain⟨a,j,i,g,d⟩:=h;exact⟨_,.inl ⟨C,rfl,e,a,CR,m,b,rfl,j,i,g,d,L,k,q⟩⟩
theorem Jf{K:cL}{CR:TM}{n:String}{m:ck Tw}{H:Hp}{e:TM}{b:Bool}{Q:VK}(h:Cgt CR H e)(L:L4.Xh K CR m)(k:Uv K (.ref CR) (.type n)=ax b)(q:Q (.bl b) H):L4.DB K [.ref e,.ty n] H Q:=by obtain⟨a,j,i,g,d⟩:=h;exact⟨_,.inr ⟨n,rfl,e,a,CR,m,b,rfl,j,i,g,d,L,k,q⟩⟩
theorem qE{K:cL}(C:TM):Uv K (.ref C) (.ref C)=ax Ld:=by unfold Uv;rw[ak (beq_iff_eq.mpr rfl)]
theorem b5{K:cL}{CR C:TM}(b:T7 K (.ref CR) (.ref CR)=ax Ld)(g:Vf K C=Ld)(d:U6 K (.ref C)=ax (.type "type"))(a:T7 K (.ref CR) (.ref C)=ax Tx):Uv K (.ref CR) (.ref C)=ax Tx:=by
 have ne:(Tw.ref CR==Tw.ref C)=Tx:=by
  cases e:(Tw.ref CR==Tw.ref C)with
  |false=>rfl
  |true=>obtain rfl:=Tw.ref.inj (beq_iff_eq.mp e);rw[b]at a;cases a
 unfold Uv;rw[ne,ar Tz];show(if((W4 K C).isSome&&U6 K (.ref C)==ax (.type "type"))=Ld then T7 K (.ref CR) (.ref C)else CL)=_;rw[show(W4 K C).isSome=Ld from g,d,ak (by rw[Xa];exact beq_iff_eq.mpr rfl)];exact a
theorem wA{K:cL}{CR:TM}(h:T7 K (.ref CR) (.type "ValueError")=ax Ld):Uv K (.ref CR) (.type "ValueError")=ax Ld:=by unfold Uv;rw[ar (by intro z;cases beq_iff_eq.mp z)];show(if PySem.W.kitMeta "ValueError"=Ld then T7 K (.ref CR) (.type "ValueError")else CL)=_;rw[ak (by left)];exact h
def jQ(C:TM)(j:Nat):Sp:=λvs H Q _=>∃e,vs=[.ref e]/\Cgt C H e/\∀H',Vl H H'->Q (.int (j:Int)) H'
theorem im:V1 ["_law_e","_law_found"] ["_law_e"] (az (top 46)):=⟨rfl,rfl,rfl,by left,rfl,by left,by left⟩
theorem Rk:∀j,j<10->([decide (j=0),decide (j=1),decide (j=2),decide (j=3),decide (j=4),decide (j=5),decide (j=6),decide (j=7),decide (j=8),decide (j=9)]:ck Bool).count Ld=1:=by decide
theorem Qu:∀j,j<10->([decide (j=0),decide (j=1),decide (j=2),decide (j=3),decide (j=4),decide (j=5),decide (j=6),decide (j=7),decide (j=8),decide (j=9)]:ck Bool)[j]?=ax Ld:=by decide
theorem Qg:∀j,j<10->∀m,m<j->([decide (j=0),decide (j=1),decide (j=2),decide (j=3),decide (j=4),decide (j=5),decide (j=6),decide (j=7),decide (j=8),decide (j=9)]:ck Bool)[m]?≠ax Ld:=by decide
theorem sT{C UO Uu UC WG WH Wf VO Wg WI W5:TM}{mR:ck Tw}{j:Nat}(I:j<10)(F:ZE K "_law_kind" "_law_kind" (top 46) f fd)(L:L4.Xh K C mR)(Yu:mg "NoBed"=ax (.ref UO))(Xq:mg "NoChord"=ax (.ref Uu))(X0:mg "NoText"=ax (.ref UC))(Yr:mg "NoBook"=ax (.ref WG))(Yo:mg "NoWord"=ax (.ref WH))(XX:mg "NoFrame"=ax (.ref Wf))(W7:mg "NoReading"=ax (.ref VO))(XY:mg "TooMany"=ax (.ref Wg))(Yq:mg "NoKeys"=ax (.ref WI))(YZ:mg "NoRow"=ax (.ref W5))(N:Uv K (.ref C) (.ref UO)=ax (decide (j=0)))(Y:Uv K (.ref C) (.ref Uu)=ax (decide (j=1)))(S:Uv K (.ref C) (.ref UC)=ax (decide (j=2)))(R:Uv K (.ref C) (.ref WG)=ax (decide (j=3)))(O:Uv K (.ref C) (.ref WH)=ax (decide (j=4)))(U:Uv K (.ref C) (.ref Wf)=ax (decide (j=5)))(Z:Uv K (.ref C) (.ref VO)=ax (decide (j=6)))(X:Uv K (.ref C) (.ref Wg)=ax (decide (j=7)))(T:Uv K (.ref C) (.ref WI)=ax (decide (j=8)))(M:Uv K (.ref C) (.ref W5)=ax (decide (j=9)))(kV:Uv K (.ref C) (.type "ValueError")=ax Ld)(a:mg "isinstance"=CL)(aax:mg "ValueError"=CL):
  FnOk P w K mg base kS 1 f fd ["_law_e"] (jQ C j):=by
 refine F.ok im (λvs H Q E h=>?_) (λWc A y s H vs Q E hr h=>?_)
 .obtain⟨_,rfl,_⟩:=h;rfl
 obtain⟨e,rfl,l,q⟩:=h;refine⟨_,(aH (cw (i:=1) im.nd rfl (a8 rfl) (tO (au (dg L4.dC rfl a bx (au (pv 0) (au (fP (v:=.ref UO) rfl Yu rfl) bj))) (au (dg L4.dC rfl a bx (au (pv 0) (au (fP (v:=.ref Uu) rfl Xq rfl) bj))) (au (dg L4.dC rfl a bx (au (pv 0) (au (fP (v:=.ref UC) rfl X0 rfl) bj))) (au (dg L4.dC rfl a bx (au (pv 0) (au (fP (v:=.ref WG) rfl Yr rfl) bj))) bj))))))
   (aH (cw (i:=1) im.nd rfl (a8 rfl) (D2 L3.tD (pv 1) (tO (au (dg L4.dC rfl a bx (au (pv 0) (au (fP (v:=.ref WH) rfl Yo rfl) bj))) (au (dg L4.dC rfl a bx (au (pv 0) (au (fP (v:=.ref Wf) rfl XX rfl) bj))) (au (dg L4.dC rfl a bx (au (pv 0) (au (fP (v:=.ref VO) rfl W7 rfl) bj))) bj))))))
   (aH (cw (i:=1) im.nd rfl (a8 rfl) (D2 L3.tD (pv 1) (tO (au (dg L4.dC rfl a bx (au (pv 0) (au (fP (v:=.ref Wg) rfl XY rfl) bj))) (au (dg L4.dC rfl a bx (au (pv 0) (au (fP (v:=.ref WI) rfl Yq rfl) bj))) (au (dg L4.dC rfl a bx (au (pv 0) (au (fP (v:=.ref W5) rfl YZ rfl) bj))) bj))))))
   (aH (jV (PW.pt (Hj (B0 (AW (dg L4.dC rfl a bx (au (pv 0) (au (ym (v:=.ty "ValueError") rfl aax (show UK "ValueError"=ax (.type "ValueError")from rfl) rfl) bj))))) (AU (fq N5 (vA WM aak PySem.F.type_list_count L4.zz (pv 1) (au BC bj)) hJ (iB _))))) (bh (jc (Ik DL hJ))) eZ)
   (bh (jc (vA WM aal PySem.F.type_list_index L4.AI (pv 1) (au BC bj)))))))),?_⟩
 fail "gh";refine dk l L N ?_;fail "gh";refine dk l L Y ?_;fail "gh";refine dk l L S ?_;fail "gh";refine dk l L R ?_;fail "gh";refine⟨kf (Uj rfl),λp hp=>?_⟩;have s1:Vl H (bz H p (.lst [.bl (decide (j=0)),.bl (decide (j=1)),.bl (decide (j=2)),.bl (decide (j=3))])):=aV hp _;have k:=l.same s1;fail "gh";refine dk k L O ?_;fail "gh";refine dk k L U ?_;fail "gh";refine dk k L Z ?_;fail "gh";refine⟨kf (Uj rfl),λr g=>?_⟩;have n2:p≠r:=λz=>by rw[<-z,aF]at g;cases g
 refine⟨p,r,[.bl (decide (j=0)),.bl (decide (j=1)),.bl (decide (j=2)),.bl (decide (j=3))],[.bl (decide (j=4)),.bl (decide (j=5)),.bl (decide (j=6))],rfl,rfl,.inl (Rd.of ((am n2).trans aF)),.inl (Rd.of aF),kf (Uj rfl),λn G=>?_⟩;have s2:=s1.trans (aV g (.lst [.bl (decide (j=4)),.bl (decide (j=5)),.bl (decide (j=6))]));have u:=s2.trans (aV G (.lst ([.bl (decide (j=0)),.bl (decide (j=1)),.bl (decide (j=2)),.bl (decide (j=3))]++[.bl (decide (j=4)),.bl (decide (j=5)),.bl (decide (j=6))])));have b:=l.same u;fail "gh";have e3:(bz (bz (bz H p (.lst [.bl (decide (j=0)),.bl (decide (j=1)),.bl (decide (j=2)),.bl (decide (j=3))])) r (.lst [.bl (decide (j=4)),.bl (decide (j=5)),.bl (decide (j=6))])) n (.lst ([.bl (decide (j=0)),.bl (decide (j=1)),.bl (decide (j=2)),.bl (decide (j=3))]++[.bl (decide (j=4)),.bl (decide (j=5)),.bl (decide (j=6))]))) n=ax (.lst ([.bl (decide (j=0)),.bl (decide (j=1)),.bl (decide (j=2)),.bl (decide (j=3))]++[.bl (decide (j=4)),.bl (decide (j=5)),.bl (decide (j=6))])):=aF;generalize bz (bz (bz H p (.lst [.bl (decide (j=0)),.bl (decide (j=1)),.bl (decide (j=2)),.bl (decide (j=3))])) r (.lst [.bl (decide (j=4)),.bl (decide (j=5)),.bl (decide (j=6))])) n (.lst ([.bl (decide (j=0)),.bl (decide (j=1)),.bl (decide (j=2)),.bl (decide (j=3))]++[.bl (decide (j=4)),.bl (decide (j=5)),.bl (decide (j=6))]))=H3 at u b e3;refine dk b L X ?_;fail "gh";refine dk b L T ?_;fail "gh";refine dk b L M ?_;fail "gh";refine⟨kf (Uj rfl),λo d=>?_⟩;have n4:n≠o:=λz=>by rw[<-z,e3]at d;cases d
 refine⟨n,o,_,[.bl (decide (j=7)),.bl (decide (j=8)),.bl (decide (j=9))],rfl,rfl,.inl (Rd.of ((am n4).trans e3)),.inl (Rd.of aF),kf (show 10<=10000 by decide),λm B=>?_⟩;have t:=(u.trans (aV d (.lst [.bl (decide (j=7)),.bl (decide (j=8)),.bl (decide (j=9))]))).trans (aV B (.lst (([.bl (decide (j=0)),.bl (decide (j=1)),.bl (decide (j=2)),.bl (decide (j=3))]++[.bl (decide (j=4)),.bl (decide (j=5)),.bl (decide (j=6))])++[.bl (decide (j=7)),.bl (decide (j=8)),.bl (decide (j=9))])));have e5:(bz (bz H3 o (.lst [.bl (decide (j=7)),.bl (decide (j=8)),.bl (decide (j=9))])) m (.lst (([.bl (decide (j=0)),.bl (decide (j=1)),.bl (decide (j=2)),.bl (decide (j=3))]++[.bl (decide (j=4)),.bl (decide (j=5)),.bl (decide (j=6))])++[.bl (decide (j=7)),.bl (decide (j=8)),.bl (decide (j=9))]))) m=ax (.lst (([.bl (decide (j=0)),.bl (decide (j=1)),.bl (decide (j=2)),.bl (decide (j=3))]++[.bl (decide (j=4)),.bl (decide (j=5)),.bl (decide (j=6))])++[.bl (decide (j=7)),.bl (decide (j=8)),.bl (decide (j=9))])):=aF;generalize bz (bz H3 o (.lst [.bl (decide (j=7)),.bl (decide (j=8)),.bl (decide (j=9))])) m (.lst (([.bl (decide (j=0)),.bl (decide (j=1)),.bl (decide (j=2)),.bl (decide (j=3))]++[.bl (decide (j=4)),.bl (decide (j=5)),.bl (decide (j=6))])++[.bl (decide (j=7)),.bl (decide (j=8)),.bl (decide (j=9))]))=H5 at t e5;have J:=l.same t;fail "gh";refine Jf J L kV ?_;fail "gh";rw[ar (by decide)];fail "gh";refine⟨.inl ⟨rfl,_,XG.of e5⟩,?_⟩;fail "gh";refine⟨m,[decide (j=0),decide (j=1),decide (j=2),decide (j=3),decide (j=4),decide (j=5),decide (j=6),decide (j=7),decide (j=8),decide (j=9)],Ld,rfl,e5,rfl,?_⟩;rw[Rk j I];fail "gh";rw[ar (by decide)];fail "gh";refine⟨.inl ⟨rfl,_,XG.of e5⟩,?_⟩;fail "gh";exact⟨m,[decide (j=0),decide (j=1),decide (j=2),decide (j=3),decide (j=4),decide (j=5),decide (j=6),decide (j=7),decide (j=8),decide (j=9)],Ld,j,rfl,e5,rfl,Qu j I,Qg j I,by ext,q _ t⟩
end
section
open L3 L4
variable{P:Ug}{w:Ux}{K:cL}{mg:Str->cv Tw}{base:Heap}{f:TM}{Z:U3}
theorem kZ:V1 ["self","place"] ["self","place"] (az (ig (top 5) 0)):=⟨rfl,rfl,rfl,by left,rfl,by left,by left⟩
theorem zA{C B fI:TM}(F:ZE K "__init__" "NoChord.__init__" (ig (top 5) 0) f Z)(m:L9.XC K C B fI)(j:mg "BedError"=ax (.ref B))(d:Xe K B (.type "type")=Ld)(k:Xf K (.ref B) (.type "type") "__init__"=ax (.val (.builtin "ValueError.__init__")))
  (b:VZ K (.ref B) "__getattribute__"=ax (ax (.builtin "type.__getattribute__"))) (i:T6 K (.ref C) "place"=ax CL):FnOk P w K mg base kS 1 f Z ["self","place"] (L9.oV C "place"):=by
 refine F.ok kZ (λvs H Q E h=>?_) (λr A a s H vs Q E o h=>?_)
 .obtain⟨_,_,rfl,_⟩:=h;rfl
 obtain⟨e,v,rfl,n,l,q⟩:=h;refine⟨_,(aH (oU (L9.pQ rfl j d k b m (au (pv 0) (au (L9.uh (L9.ug (by decide) (L9.sE (pv 1) L9.wY)) (by decide)) bj)))) (bh (L9.sN m i (pv 0) (pv 1) rfl))),?_⟩;fail "gh";refine⟨V.ref e,rfl,v,rfl,n,λy=>⟨e,y,rfl,l,?_⟩⟩;exact⟨v,rfl,V.ref e,rfl,e,rfl,l,λp i g=>q p i g⟩
theorem lH:V1 ["self","row"] ["self","row"] (az (ig (top 6) 0)):=⟨rfl,rfl,rfl,by left,rfl,by left,by left⟩
theorem Ag{C B fI:TM}(F:ZE K "__init__" "NoText.__init__" (ig (top 6) 0) f Z)(m:L9.XC K C B fI)(j:mg "BedError"=ax (.ref B))(d:Xe K B (.type "type")=Ld)(k:Xf K (.ref B) (.type "type") "__init__"=ax (.val (.builtin "ValueError.__init__")))
  (b:VZ K (.ref B) "__getattribute__"=ax (ax (.builtin "type.__getattribute__"))) (i:T6 K (.ref C) "row"=ax CL):FnOk P w K mg base kS 1 f Z ["self","row"] (L9.oV C "row"):=by
 refine F.ok lH (λvs H Q E h=>?_) (λr A a s H vs Q E o h=>?_)
 .obtain⟨_,_,rfl,_⟩:=h;rfl
 obtain⟨e,v,rfl,n,l,q⟩:=h;refine⟨_,(aH (oU (L9.pQ rfl j d k b m (au (pv 0) (au (L9.uh (L9.ug (by decide) (L9.sE (pv 1) L9.wY)) (by decide)) bj)))) (bh (L9.sN m i (pv 0) (pv 1) rfl))),?_⟩;fail "gh";refine⟨V.ref e,rfl,v,rfl,n,λy=>⟨e,y,rfl,l,?_⟩⟩;exact⟨v,rfl,V.ref e,rfl,e,rfl,l,λp i g=>q p i g⟩
theorem l8:V1 ["self","layer","key"] ["self","layer","key"] (az (ig (top 4) 0)):=⟨rfl,rfl,rfl,by left,rfl,by left,by left⟩
theorem uE{C B fI:TM}(F:ZE K "__init__" "NoBed.__init__" (ig (top 4) 0) f Z)(l:L9.XC K C B fI)(j:mg "BedError"=ax (.ref B))(g:Xe K B (.type "type")=Ld)(k:Xf K (.ref B) (.type "type") "__init__"=ax (.val (.builtin "ValueError.__init__")))
  (d:VZ K (.ref B) "__getattribute__"=ax (ax (.builtin "type.__getattribute__"))) (i:T6 K (.ref C) "layer"=ax CL) (n:T6 K (.ref C) "key"=ax CL):FnOk P w K mg base kS 1 f Z ["self","layer","key"] (L9.oX C "layer" "key"):=by
 refine F.ok l8 (λvs H Q E h=>?_) (λz A b s H vs Q E t h=>?_)
 .obtain⟨_,_,_,rfl,_⟩:=h;rfl
 obtain⟨e,v,u,rfl,o,r,m,q⟩:=h;refine⟨_,(aH (oU (L9.pQ rfl j g k d l (au (pv 0) (au (L9.uh (L9.ug (by decide) (L9.sE (pv 1) (L9.ug (by decide) (L9.sE (pv 2) L9.wY)))) (by decide)) bj)))) (aH (L9.sN l i (pv 0) (pv 1) rfl) (bh (L9.Bg l n (pv 0) (pv 2) rfl)))),?_⟩;fail "gh";refine⟨V.ref e,rfl,v,rfl,o,u,rfl,r,λy=>⟨e,y,rfl,m,?_⟩⟩;refine⟨v,rfl,V.ref e,rfl,e,rfl,m,λp i a=>?_⟩;refine⟨u,rfl,V.ref e,rfl,e,p,[("layer",v)],rfl,?_,aF,(show 1<1000 by decide),?_⟩
 .rw[am (en a),aF]
 .rw[GV];exact q p i a
end
end K24
namespace K24
open PySem L2
section
variable{P:Ug}{w:Ux}{K:cL}{mg:Str->cv Tw}{base:Heap}{f:TM}{fd:U3}
theorem ma{X:Cx}{K:cL}{P:Ug}{w:Ux}{mg:Str->cv Tw}{base:Heap}{k j n:Nat}{x:Str}{ps:ck Str}{F:L3.FN}{E:XK}{e:Ue}{es:ck Ue}{t:TA}{p a:Pos}(C:L4.B2 P w K mg base k x ps n F)(r:X.prog=P)(i:X.w=w)(u:X.K=K)(hm:X.mg=mg)(q:X.base=base)(h:jH (L4.nU X.prog X.w) X E)(l:Wj j X.A)(ha:PA X (e::es) t)(d:k<=j:=by decide)(m:Gl X x:=by rfl)
  (g:(x==("__debug__":Str))=Tx:=by decide) (o:Uh (e::es) X.env=(Tx,eval e X.env)::Uh es X.env:=by rfl) (b:(backTo a (Uh es X.env)).any (·.1)=Tx:=by rfl):
  PE X (.Call (.Name x p) (e::es) [] a) (pW (L3.sI K n F) [] E t):=by
 subst r i u hm q;exact L4.x5 C h l ha d m g o b
theorem aI:V1 ["_law_text_here","_law_caught","_law_found","_law_e","_law_kind_here"] ["_law_text_here"] (az (top 59)):=⟨rfl,rfl,rfl,by left,rfl,by left,by left⟩
theorem GN{CN CC CT CB:TM}{m m2 m3 mB:ck Tw}(F:ZE K "_law_told" "_law_told" (top 59) f fd)(ad7:lx P w K mg base 1 "_law_kind" ["_law_e"] (jQ CN 0))(adZ:lx P w K mg base 1 "_law_kind" ["_law_e"] (jQ CC 1))(adX:lx P w K mg base 1 "_law_kind" ["_law_e"] (jQ CT 2))
  (aci:L4.B2 P w K mg base 5 "read_bed" ["text"] 1 bw)
  (hB:mg "BedError"=ax (.ref CB)) (xB:L4.j9 K CB mB) (bB:mB.contains (.type "BaseException")=Ld)
  (xN:L4.j9 K CN m) (upN:(Tw.ref CN::m).contains (.ref CB)=Ld) (nN:T9 K T5 "NoBed"=ax (ax (.ref CN))) (LN:L4.Xh K CN m) (hhN:VG K CN=Ld) (hpl:T6 K (.ref CN) "layer"=ax CL) (hpk:T6 K (.ref CN) "key"=ax CL)
  (xC:L4.j9 K CC m2) (upC:(Tw.ref CC::m2).contains (.ref CB)=Ld) (nC:T9 K T5 "NoChord"=ax (ax (.ref CC))) (LC:L4.Xh K CC m2) (hhC:VG K CC=Ld) (hpp:T6 K (.ref CC) "place"=ax CL)
  (xT:L4.j9 K CT m3) (upT:(Tw.ref CT::m3).contains (.ref CB)=Ld) (nT:T9 K T5 "NoText"=ax (ax (.ref CT))) (LT:L4.Xh K CT m3) (hhT:VG K CT=Ld) (hpr:T6 K (.ref CT) "row"=ax CL):
  FnOk P w K mg base kS 7 f fd ["_law_text_here"] (L3.sI K 1 aA):=by
 refine F.ok aI (λvs H Q E h=>h.1) (λWc A outer s H vs Q E hr h=>?_);have hu:=hr.units;obtain⟨hl,O,ds,hO,dv,j⟩:=h;obtain⟨b,rfl⟩:∃b,ds=[b]:=by
  have:=dv.length
  match ds,this.symm.trans hl with
  |[b],_=>exact⟨b,rfl⟩
 obtain⟨v0,rfl,d0⟩:∃v0,vs=[v0]/\L3.DV O K H v0 b:=by
  cases dv with
  |cons d0 r0=>cases r0;exact⟨_,rfl,d0⟩
 have away:∀H5,Vl H H5->∀t,H5 t=CL->H t=CL:=λH5 s5 t ht=>by
  cases z:H t with
  |none=>rfl
  |some o=>rw[s5 _ _ z]at ht;cases ht
 cases J:bw [b]with
 |bad=>unfold aA at j;dsimp only at j;rw[J]at j;exact j.elim
 |ok rv=>
  cases rv with
  |ow es=>unfold aA at j;dsimp only at j;rw[J]at j;exact j.elim
  |fz d=>
   have q:∀v C,Vl H C->L3.DV O K C v d->Q v C:=by
    have e:aA [b]=.ok (.fz d):=by unfold aA;dsimp only;rw[J]
    rw[e]at j;exact j
   refine⟨_,(aH (cw (i:=1) aI.nd rfl (a8 rfl) fx)
    (aH (cw (i:=2) aI.nd rfl (a8 rfl) fx)
    (aH (L4.tY (i:=3) (E2:=λ_ _ _=>False) rfl aI.nd rfl rfl rfl hB xB bB rfl rfl
     (λl=>bh (cw (i:=2) aI.nd rfl (a8 rfl) (ma aci rfl rfl rfl rfl rfl (L4.jR rfl) hr (au (pv 0) bj))))
     (λl e=>bh (cw (i:=1) aI.nd rfl (a8 rfl) (pv 3)))
     (λc dx a h=>h.elim))
    (aH (jV (fq qG (pv 1) fx (iB _)) (bh (jc (pv 2))) eZ)
    (aH cT (aH cT (aH cT (aH cT (bh cT))))))))),?_⟩
   fail "gh";unfold L4.BO;refine⟨?_,λc dx a h2=>h2.elim⟩;fail "gh";refine⟨rfl,O,[b],hO,.cons d0 .nil,?_⟩;rw[J];intro v C s' R;fail "gh";refine⟨rfl,Ld,?_,?_⟩
   .show V.bl (decide (V.VX=V.VX))=V.bl Ld;rw[a4 rfl]
   rw[ak rfl];fail "gh";exact q _ _ s' R
 |er x=>
  have aho:(∃k l,bw [b]=.er ⟨"NoBed",[("key",k),("layer",l)]⟩/\L9.nw k=Ld/\L9.nw l=Ld)\/(∃d,bw [b]=.er ⟨"NoChord",[("place",d)]⟩/\L9.nw d=Ld)\/∃d,bw [b]=.er ⟨"NoText",[("row",d)]⟩/\L9.nw d=Ld:=by
   unfold aA at j;dsimp only at j;rw[J]at j;obtain⟨xc,xf⟩:=x;dsimp only at j;split at j
   .rename_i N
    subst N;split at j
    .rename_i g k f l
     split at j
     .rename_i hf;obtain⟨rfl,rfl,hk,hl⟩:=hf;exact .inl ⟨k,l,J,hk,hl⟩
     .exact j.elim
    .exact j.elim
   .split at j
    .rename_i N
     subst N;split at j
     .rename_i f d
      split at j
      .rename_i hf;obtain⟨rfl,hd⟩:=hf;exact .inr (.inl ⟨d,J,hd⟩)
      .exact j.elim
     .exact j.elim
    .split at j
     .rename_i N
      subst N;split at j
      .rename_i f d
       split at j
       .rename_i hf;obtain⟨rfl,hd⟩:=hf;exact .inr (.inr ⟨d,J,hd⟩)
       .exact j.elim
      .exact j.elim
     .exact j.elim
  rcases aho with⟨kk,ll,J,hk0,hl0⟩|⟨d,J,hd0⟩|⟨d,J,hd0⟩
  .have q:∀v C,Vl H C->L3.DV O K C v (.tuple [.int 0,ll,kk])->Q v C:=by
    have e:aA [b]=.ok (.fz (.tuple [.int 0,ll,kk])):=by unfold aA;dsimp only;rw[J];dsimp only;rw[ak rfl,ak ⟨rfl,rfl,hk0,hl0⟩]
    rw[e]at j;exact j
   clear j;refine⟨_,(aH (cw (i:=1) aI.nd rfl (a8 rfl) fx)
    (aH (cw (i:=2) aI.nd rfl (a8 rfl) fx)
    (aH (L4.tY (i:=3) (E2:=λc dx a=>Vl H a/\c=.ref CN/\∃p fs v u,dx=ax p/\a p=ax (.xd fs)/\fs.lookup ("layer":Str)=ax v/\fs.lookup ("key":Str)=ax u/\L3.DV O K a v ll/\L3.DV O K a u kk) rfl aI.nd rfl rfl rfl hB xB bB rfl rfl
     (λl=>bh (cw (i:=2) aI.nd rfl (a8 rfl) (ma aci rfl rfl rfl rfl rfl (L4.jR rfl) hr (au (pv 0) bj))))
     (λl e=>bh (cw (i:=1) aI.nd rfl (a8 rfl) (pv 3)))
     (λc dx a h=>⟨CN,m,h.2.1,xN,upN⟩))
    (aH (jV (fq qG (pv 1) fx (iB _)) (bh (jc (pv 2))) eZ)
    (aH (cw (i:=4) aI.nd rfl (a8 rfl) (tK ad7 hr (au (pv 1) bj)))
    (aH (jV (fq ri (pv 4) hJ (iB _)) (bh (jc (tZ (au hJ (au (L9.oW (pv 1) rfl) (au (L9.oW (pv 1) rfl) bj)))))) eZ)
    (aH cT (aH cT (bh cT))))))))),?_⟩
   fail "gh";unfold L4.BO;refine⟨?_,λc dx a h2 G e n hl he N hd hn=>?_⟩
   .fail "gh"
    refine⟨rfl,O,[b],hO,.cons d0 .nil,?_⟩;rw[J];rintro c dx C s' ⟨⟨a',e1,e2⟩,fs,g2,g3⟩;obtain⟨nn,v,k1,k2⟩:=g3 "layer" ll rfl;obtain⟨_,u,k3,k4⟩:=g3 "key" kk rfl;have e3:=nN.symm.trans e2;cases e3;cases dx with
    |none=>exact a7 rfl nn
    |some p=>exact⟨s',e1,p,fs,v,u,rfl,g2 p rfl,k1,k3,k2,k4⟩
   .obtain⟨Z,Y,X,U,T,rfl⟩:∃Z Y X U T,G=[Z,Y,X,U,T]:=by
     match G,hl with
     |[Z,Y,X,U,T],_=>exact⟨Z,Y,X,U,T,rfl⟩
    obtain⟨s1,rfl,p,fs,v,u,rfl,hx,hv,hu',R,dvu⟩:=h2;have r:Vl a (bz a e (.frz n (.own e))):=aV he _;have s2:Vl H (bz a e (.frz n (.own e))):=s1.trans r;have y:=r _ _ hx;have L:L3.DV O K (bz a e (.frz n (.own e))) v ll:=L3.DV.ev (L3.Ev.grow r) R;have du2:L3.DV O K (bz a e (.frz n (.own e))) u kk:=L3.DV.ev (L3.Ev.grow r) dvu;have eE:(bz a e (.frz n (.own e))) e=ax (.frz n (.own e)):=aF;have cg:Cgt CN (bz a e (.frz n (.own e))) e:=⟨n,aF,N,λp' I=>by rw[hd]at I;cases I;exact⟨fs,y⟩,hn⟩;generalize bz a e (.frz n (.own e))=H2 at s2 y L du2 eE cg;fail "gh";refine⟨rfl,Tx,?_,?_⟩
    .show V.bl (decide (V.ref e=V.VX))=V.bl Tx;rw[a5 (λz=>nomatch z)]
    rw[ar Tz];fail "gh";refine⟨e,rfl,cg,λH3 s3=>?_⟩;fail "gh";have xf:∀(M:L2.St) (B:Hp) (S:VK),M[1]?=ax (ax (.ref e))->Vl H2 B->S v B->L9.uz K (lB 1) "layer" M B S:=λM B S z s4 hq=>⟨V.ref e,z,e,n,CN,m,p,fs,v,rfl,s4 _ _ eE,N,hd,hn,LN,hhN,hpl,s4 _ _ y,hv,hq⟩;have xg:∀(M:L2.St) (B:Hp) (S:VK),M[1]?=ax (ax (.ref e))->Vl H2 B->S u B->L9.uz K (lB 1) "key" M B S:=λM B S z s4 hq=>⟨V.ref e,z,e,n,CN,m,p,fs,u,rfl,s4 _ _ eE,N,hd,hn,LN,hhN,hpk,s4 _ _ y,hu',hq⟩;rw[ak (by decide)];fail "gh";refine xf _ _ _ rfl s3 ?_;fail "gh";refine xg _ _ _ rfl s3 ?_;fail "gh";refine⟨kf (show 3<=10000 by decide),λt ht=>?_⟩;have s6:Vl H2 (bz H3 t (.tup [.int 0,v,u])):=s3.trans (aV ht _);exact q _ _ (s2.trans s6) (.tup ⟨.inl (.inl aF),λz=>a7 (away H3 (s2.trans s3) t ht) (hO t z)⟩ (.cons (.int 0) (.cons (L3.DV.ev (L3.Ev.grow s6) L) (.cons (L3.DV.ev (L3.Ev.grow s6) du2) .nil))))
  .have q:∀v C,Vl H C->L3.DV O K C v (.tuple [.int 1,d,.none])->Q v C:=by
    have e:aA [b]=.ok (.fz (.tuple [.int 1,d,.none])):=by unfold aA;dsimp only;rw[J];dsimp only;rw[ar (by decide),ak rfl,ak ⟨rfl,hd0⟩]
    rw[e]at j;exact j
   clear j;refine⟨_,(aH (cw (i:=1) aI.nd rfl (a8 rfl) fx)
    (aH (cw (i:=2) aI.nd rfl (a8 rfl) fx)
    (aH (L4.tY (i:=3) (E2:=λc dx a=>Vl H a/\c=.ref CC/\∃p fs v,dx=ax p/\a p=ax (.xd fs)/\fs.lookup ("place":Str)=ax v/\L3.DV O K a v d) rfl aI.nd rfl rfl rfl hB xB bB rfl rfl
     (λl=>bh (cw (i:=2) aI.nd rfl (a8 rfl) (ma aci rfl rfl rfl rfl rfl (L4.jR rfl) hr (au (pv 0) bj))))
     (λl e=>bh (cw (i:=1) aI.nd rfl (a8 rfl) (pv 3)))
     (λc dx a h=>⟨CC,m2,h.2.1,xC,upC⟩))
    (aH (jV (fq qG (pv 1) fx (iB _)) (bh (jc (pv 2))) eZ)
    (aH (cw (i:=4) aI.nd rfl (a8 rfl) (tK adZ hr (au (pv 1) bj)))
    (aH (jV (fq ri (pv 4) hJ (iB _)) (bh cT) eZ)
    (aH (jV (fq ri (pv 4) hJ (iB _)) (bh (jc (tZ (au hJ (au (L9.oW (pv 1) rfl) (au fx bj)))))) eZ)
    (aH cT (bh cT))))))))),?_⟩
   fail "gh";unfold L4.BO;refine⟨?_,λc dx a h2 G e n hl he N hd hn=>?_⟩
   .fail "gh"
    refine⟨rfl,O,[b],hO,.cons d0 .nil,?_⟩;rw[J];rintro c dx C s' ⟨⟨a',e1,e2⟩,fs,g2,g3⟩;obtain⟨nn,v,k1,k2⟩:=g3 "place" d rfl;have e3:=nC.symm.trans e2;cases e3;cases dx with
    |none=>exact a7 rfl nn
    |some p=>exact⟨s',e1,p,fs,v,rfl,g2 p rfl,k1,k2⟩
   .obtain⟨Z,Y,X,U,T,rfl⟩:∃Z Y X U T,G=[Z,Y,X,U,T]:=by
     match G,hl with
     |[Z,Y,X,U,T],_=>exact⟨Z,Y,X,U,T,rfl⟩
    obtain⟨s1,rfl,p,fs,v,rfl,hx,hv,R⟩:=h2;have r:Vl a (bz a e (.frz n (.own e))):=aV he _;have s2:Vl H (bz a e (.frz n (.own e))):=s1.trans r;have y:=r _ _ hx;have L:L3.DV O K (bz a e (.frz n (.own e))) v d:=L3.DV.ev (L3.Ev.grow r) R;have eE:(bz a e (.frz n (.own e))) e=ax (.frz n (.own e)):=aF;have cg:Cgt CC (bz a e (.frz n (.own e))) e:=⟨n,aF,N,λp' I=>by rw[hd]at I;cases I;exact⟨fs,y⟩,hn⟩;generalize bz a e (.frz n (.own e))=H2 at s2 y L eE cg;fail "gh";refine⟨rfl,Tx,?_,?_⟩
    .show V.bl (decide (V.ref e=V.VX))=V.bl Tx;rw[a5 (λz=>nomatch z)]
    rw[ar Tz];fail "gh";refine⟨e,rfl,cg,λH3 s3=>?_⟩;fail "gh";have xf:∀(M:L2.St) (B:Hp) (S:VK),M[1]?=ax (ax (.ref e))->Vl H2 B->S v B->L9.uz K (lB 1) "place" M B S:=λM B S z s4 hq=>⟨V.ref e,z,e,n,CC,m2,p,fs,v,rfl,s4 _ _ eE,N,hd,hn,LC,hhC,hpp,s4 _ _ y,hv,hq⟩;rw[ar (by decide)];fail "gh";rw[ak (by decide)];fail "gh";refine xf _ _ _ rfl s3 ?_;fail "gh";refine⟨kf (show 3<=10000 by decide),λt ht=>?_⟩;have s6:Vl H2 (bz H3 t (.tup [.int 1,v,.VX])):=s3.trans (aV ht _);exact q _ _ (s2.trans s6) (.tup ⟨.inl (.inl aF),λz=>a7 (away H3 (s2.trans s3) t ht) (hO t z)⟩ (.cons (.int 1) (.cons (L3.DV.ev (L3.Ev.grow s6) L) (.cons .VX .nil))))
  .have q:∀v C,Vl H C->L3.DV O K C v (.tuple [.int 2,d,.none])->Q v C:=by
    have e:aA [b]=.ok (.fz (.tuple [.int 2,d,.none])):=by unfold aA;dsimp only;rw[J];dsimp only;rw[ar (by decide),ar (by decide),ak rfl,ak ⟨rfl,hd0⟩]
    rw[e]at j;exact j
   clear j;refine⟨_,(aH (cw (i:=1) aI.nd rfl (a8 rfl) fx)
    (aH (cw (i:=2) aI.nd rfl (a8 rfl) fx)
    (aH (L4.tY (i:=3) (E2:=λc dx a=>Vl H a/\c=.ref CT/\∃p fs v,dx=ax p/\a p=ax (.xd fs)/\fs.lookup ("row":Str)=ax v/\L3.DV O K a v d) rfl aI.nd rfl rfl rfl hB xB bB rfl rfl
     (λl=>bh (cw (i:=2) aI.nd rfl (a8 rfl) (ma aci rfl rfl rfl rfl rfl (L4.jR rfl) hr (au (pv 0) bj))))
     (λl e=>bh (cw (i:=1) aI.nd rfl (a8 rfl) (pv 3)))
     (λc dx a h=>⟨CT,m3,h.2.1,xT,upT⟩))
    (aH (jV (fq qG (pv 1) fx (iB _)) (bh (jc (pv 2))) eZ)
    (aH (cw (i:=4) aI.nd rfl (a8 rfl) (tK adX hr (au (pv 1) bj)))
    (aH (jV (fq ri (pv 4) hJ (iB _)) (bh cT) eZ)
    (aH (jV (fq ri (pv 4) hJ (iB _)) (bh cT) eZ)
    (aH (jV (fq ri (pv 4) hJ (iB _)) (bh (jc (tZ (au hJ (au (L9.oW (pv 1) rfl) (au fx bj)))))) eZ)
    (bh cT))))))))),?_⟩
   fail "gh";unfold L4.BO;refine⟨?_,λc dx a h2 G e n hl he N hd hn=>?_⟩
   .fail "gh"
    refine⟨rfl,O,[b],hO,.cons d0 .nil,?_⟩;rw[J];rintro c dx C s' ⟨⟨a',e1,e2⟩,fs,g2,g3⟩;obtain⟨nn,v,k1,k2⟩:=g3 "row" d rfl;have e3:=nT.symm.trans e2;cases e3;cases dx with
    |none=>exact a7 rfl nn
    |some p=>exact⟨s',e1,p,fs,v,rfl,g2 p rfl,k1,k2⟩
   .obtain⟨Z,Y,X,U,T,rfl⟩:∃Z Y X U T,G=[Z,Y,X,U,T]:=by
     match G,hl with
     |[Z,Y,X,U,T],_=>exact⟨Z,Y,X,U,T,rfl⟩
    obtain⟨s1,rfl,p,fs,v,rfl,hx,hv,R⟩:=h2;have r:Vl a (bz a e (.frz n (.own e))):=aV he _;have s2:Vl H (bz a e (.frz n (.own e))):=s1.trans r;have y:=r _ _ hx;have L:L3.DV O K (bz a e (.frz n (.own e))) v d:=L3.DV.ev (L3.Ev.grow r) R;have eE:(bz a e (.frz n (.own e))) e=ax (.frz n (.own e)):=aF;have cg:Cgt CT (bz a e (.frz n (.own e))) e:=⟨n,aF,N,λp' I=>by rw[hd]at I;cases I;exact⟨fs,y⟩,hn⟩;generalize bz a e (.frz n (.own e))=H2 at s2 y L eE cg;fail "gh";refine⟨rfl,Tx,?_,?_⟩
    .show V.bl (decide (V.ref e=V.VX))=V.bl Tx;rw[a5 (λz=>nomatch z)]
    rw[ar Tz];fail "gh";refine⟨e,rfl,cg,λH3 s3=>?_⟩;fail "gh";have xf:∀(M:L2.St) (B:Hp) (S:VK),M[1]?=ax (ax (.ref e))->Vl H2 B->S v B->L9.uz K (lB 1) "row" M B S:=λM B S z s4 hq=>⟨V.ref e,z,e,n,CT,m3,p,fs,v,rfl,s4 _ _ eE,N,hd,hn,LT,hhT,hpr,s4 _ _ y,hv,hq⟩;rw[ar (by decide)];fail "gh";rw[ar (by decide)];fail "gh";rw[ak (by decide)];fail "gh";refine xf _ _ _ rfl s3 ?_;fail "gh";refine⟨kf (show 3<=10000 by decide),λt ht=>?_⟩;have s6:Vl H2 (bz H3 t (.tup [.int 2,v,.VX])):=s3.trans (aV ht _);exact q _ _ (s2.trans s6) (.tup ⟨.inl (.inl aF),λz=>a7 (away H3 (s2.trans s3) t ht) (hO t z)⟩ (.cons (.int 2) (.cons (L3.DV.ev (L3.Ev.grow s6) L) (.cons .VX .nil))))
end
end K24
theorem QP{α:Type}:∀{l:ck α},l.length=1->∃a,l=[a]
 |[a],_=>⟨a,rfl⟩
theorem Rm{α:Type}:∀{l:ck α},l.length=2->∃a b,l=[a,b]
 |[a,b],_=>⟨a,b,rfl⟩
theorem RP{α:Type}:∀{l:ck α},l.length=3->∃a b c,l=[a,b,c]
 |[a,b,c],_=>⟨a,b,c,rfl⟩
theorem Tq{α:Type}:∀{l:ck α},l.length=4->∃a b c d,l=[a,b,c,d]
 |[a,b,c,d],_=>⟨a,b,c,d,rfl⟩
local macro_rules| `(tactic|fail "ba")=> `(tactic|(intro _ _ _ _ _ _ us hl;first|(obtain⟨_,h⟩:=QP hl;subst h;kernel_rfl)|(obtain⟨_,_,h⟩:=Rm hl;subst h;kernel_rfl)|(obtain⟨_,_,_,h⟩:=RP hl;subst h;kernel_rfl)|(obtain⟨_,_,_,_,h⟩:=Tq hl;subst h;kernel_rfl)|(match us,hl with|[_,_,_,_,_],_=>rfl)|(match us,hl with|[_,_,_,_,_,_],_=>rfl)|(match us,hl with|[],_=>rfl)))| `(tactic|fail "fl")=> `(tactic|first|exact List.forall_mem_nil _|(refine List.forall_mem_cons.mpr ⟨?_,?_⟩;(·first|(show T6 _ _ _=_;k_is)|(show T9 _ _ _=_;k_is));fail "fl"))| `(tactic|fail "ki")=> `(tactic|first|(refine' L3.NI.mk ?a' ⟨_,L2.Ef ?b' ?c' ?d'⟩;(case a'=>k_is);(case b'=>k_is);(case c'=>k_is);(case d'=>k_is))|(refine' L3.MI.mk ?a' ?e' ⟨_,L2.Ef ?b' ?c' ?d'⟩;(case a'=>k_is);(case e'=>k_is);(case b'=>k_is);(case c'=>k_is);(case d'=>k_is))|(refine' L3.CI.mk ?a' ?b' ?c' ?d' ?e' ?f' ?g' ?i';(case a'=>k_is);(case b'=>k_is);(case c'=>k_is);(case d'=>k_is);(case e'=>k_is);(case f'=>k_is);(case g'=>k_is);(case i'=>fail "fl"))|(refine' L3.DI.mk ?a' ⟨_,L3.aih ?b' ?c' ?d' ?e'⟩;(case a'=>k_is);(case b'=>k_is);(case c'=>k_is);(case d'=>k_is);(case e'=>k_is))|k_is|k_exc|rfl|fail "fl"|left|(rw[<-ac7];rfl))
namespace K24
open PySem L2 L3 CC
theorem all_mk{l:acT}{w:Ux}{K:cL}{h:Heap}{mg:Str->cv Tw}{fa:TM}
  {acs:Tok}
  {aa5:Tok}
  {aae:Tok}
  {aac:Tok}
  {abd:Tok}
  {f0 f1 f2 f3 f4 f5 f6 f7 f8 f9 f10 f11 f12 f13 f14 f15 f16 f17 f18 f19 f20 f21 f22 f23 f24 f25 f26 f27 f28 f29 f30 f31 f32 f33 f34 f35 f36 f37 f38 f39 f40 B A y:TM}
  {b E d J H L f I C M g:TM} {mB:ck Tw}
  {nmR qR:Str} {NR:TM} {bsR:ck Tw} {snR:ck Str} {ajq:ck Tw} {abR:Bool} {akH:cv Bool} {ddR:cv TM} {k0R k1R k2R k3R k5R:cv Tw}
  {nmS qS:Str} {NS:TM} {bsS:ck Tw} {snS:ck Str} {akh:ck Tw} {abS:Bool} {ajt:cv Bool} {ddS:cv TM} {k0S k1S k2S k3S k5S:cv Tw}
  {nmT qT:Str} {NT:TM} {bsT:ck Tw} {snT:ck Str} {ake:ck Tw} {abT:Bool} {ajn:cv Bool} {ddT:cv TM} {k0T k1T k2T k3T k5T:cv Tw}
  {nmB qB:Str} {NB:TM} {bsB:ck Tw} {hdB:Bool} {snB:ck Str} {N:ck Tw} {abB:Bool} {akK:cv Bool} {ddB:cv TM} {k0B k1B k2B k3B k5B:cv Tw} {idB:String}
  {ocR:Tw} {odR:cv TM} {esR:Array Xr} {nR:Nat} {slR:Array (cv Tw)}
  {ocS:Tw} {odS:cv TM} {esS:Array Xr} {nS:Nat} {slS:Array (cv Tw)}
  {ocT:Tw} {odT:cv TM} {esT:Array Xr} {nT:Nat} {slT:Array (cv Tw)} (X:K.In h) (G:h.Ns T5 mg) (hfa:mg "law"=ax (.ref fa))
  (h0:NI K f0 "_law_cell" (top 36))
  (h1:NI K f1 "_law_stirred" (top 37))
  (h2:NI K f2 "_law_stream" (top 39))
  (h3:NI K f3 "_law_letter" (top 41))
  (h4:NI K f4 "_law_meaning_of" (top 43))
  (h5:NI K f5 "_law_read_bed" (top 44))
  (h6:NI K f6 "_law_wide" (top 38))
  (h7:NI K f7 "_law_meaning" (top 42))
  (h8:NI K f8 "_law_bed" (top 45))
  (h9:NI K f9 "_law_word" (top 52))
  (h10:NI K f10 "_law_text" (top 53))
  (h11:NI K f11 "_law_changed" (top 54))
  (h12:NI K f12 "_law_figures" (top 55))
  (h13:NI K f13 "_law_is_letter" (top 47))
  (h14:NI K f14 "_law_meant" (top 56))
  (h15:NI K f15 "_law_row" (top 57))
  (h16:NI K f16 "_law_reading" (top 58))
  (h17:NI K f17 "_law_means" (top 48))
  (h18:NI K f18 "_law_chord_good" (top 49))
  (h19:NI K f19 "_law_due" (top 50))
  (h20:NI K f20 "read_number" (top 34))
  (h21:NI K f21 "all_read" (top 31))
  (h22:NI K f22 "read_numbers" (top 28))
  (h23:NI K f23 "is_letter" (top 24))
  (h24:NI K f24 "read_meaning" (top 32))
  (h25:NI K f25 "read_layer" (top 29))
  (h26:NI K f26 "read_parted" (top 33))
  (h27:NI K f27 "read_chord" (top 30))
  (h28:NI K f28 "check_numbers" (top 18))
  (h29:NI K f29 "may_mean" (top 20))
  (h30:NI K f30 "check_layer" (top 19))
  (h31:NI K f31 "rises" (top 23))
  (h32:NI K f32 "is_chord_set" (top 22))
  (h33:NI K f33 "check_chord" (top 21))
  (h34:NI K f34 "checked" (top 17))
  (h35:NI K f35 "read_bed" (top 27))
  (h36:NI K f36 "_law_whole" (top 40))
  (o:NI K f37 "_law_like" (top 51))
  (t:NI K f38 "_law_kind" (top 46))
  (h39:NI K f39 "_law_told" (top 59))
  (h40:NI K f40 "law" (top 60))
  (ZT:T9 K T5 "NoBed"=ax (ax (.ref b)))
  (abU:T9 K T5 "NoFrame"=ax (ax (.ref E)))
  (YJ:T9 K T5 "NoChord"=ax (ax (.ref d)))
  (aaI:T9 K T5 "NoReading"=ax (ax (.ref M)))
  (acD:T9 K T5 "NoKeys"=ax (ax (.ref H)))
  (adg:T9 K T5 "NoRow"=ax (ax (.ref L)))
  (Zo:T9 K T5 "NoText"=ax (ax (.ref f)))
  (acq:T9 K T5 "NoWord"=ax (ax (.ref I)))
  (abV:T9 K T5 "TooMany"=ax (ax (.ref C)))
  (acz:T9 K T5 "NoBook"=ax (ax (.ref J)))
  (aa2:T9 K T5 "BedError"=ax (ax (.ref g)))
  (xR:K.lookup b=ax (excClassObj nmR qR b NR bsR (.ref g::[.type "ValueError",.type "Exception",.type "BaseException",.type "object"]) Ld snR ajq abR akH ddR k0R k1R k2R k3R k5R "ValueError.__new__"))
  (xS:K.lookup d=ax (excClassObj nmS qS d NS bsS (.ref g::[.type "ValueError",.type "Exception",.type "BaseException",.type "object"]) Ld snS akh abS ajt ddS k0S k1S k2S k3S k5S "ValueError.__new__"))
  (xB:K.lookup g=ax (excClassObj nmB qB g NB bsB mB hdB snB N abB akK ddB k0B k1B k2B k3B k5B idB))
  (eI:W3 K g [.type "ValueError",.type "Exception",.type "BaseException",.type "object"] "ValueError.__new__"=Ld)
  (beB:mB.contains (.type "BaseException")=Ld)
  (gaR:T6 K (.ref b) "__getattribute__"=ax (ax (.builtin "BaseException.__getattribute__")))
  (gtR:T6 K (.ref b) "__getattr__"=ax CL)
  (ckR:T6 K (.ref b) "__class__"=ax (ax (.builtin "object.__class__")))
  (obR:YA K b (.type "object")=ax Ld)
  (n:T7 K (.ref b) (.ref b)=ax Ld)
  (svR:T7 K (.ref b) (.type "ValueError")=ax Ld)
  (aaX:T7 K (.ref b) (.ref d)=ax Tx)
  (abN:T7 K (.ref b) (.ref f)=ax Tx)
  (ab1:T7 K (.ref b) (.ref J)=ax Tx)
  (abK:T7 K (.ref b) (.ref I)=ax Tx)
  (abb:T7 K (.ref b) (.ref E)=ax Tx)
  (aag:T7 K (.ref b) (.ref M)=ax Tx)
  (abg:T7 K (.ref b) (.ref C)=ax Tx)
  (abI:T7 K (.ref b) (.ref H)=ax Tx)
  (acv:T7 K (.ref b) (.ref L)=ax Tx)
  (lR:K.lookup NR=ax ⟨ocR,odR,.dict esR nR,slR⟩)
  (r:(esR.all λe=>match e.key with|.str _ _=>Ld|_=>Tx)=Ld)
  (inR:T9 K NR "__init__"=ax (ax (.ref B)))
  (saR:T6 K (.ref b) "__setattr__"=ax (ax (.builtin "object.__setattr__")))
  (hdR:VG K b=Ld)
  (aba:T6 K (.ref b) "layer"=ax CL)
  (adq:T6 K (.ref b) "key"=ax CL)
  (gaS:T6 K (.ref d) "__getattribute__"=ax (ax (.builtin "BaseException.__getattribute__")))
  (gtS:T6 K (.ref d) "__getattr__"=ax CL)
  (ckS:T6 K (.ref d) "__class__"=ax (ax (.builtin "object.__class__")))
  (obS:YA K d (.type "object")=ax Ld)
  (m:T7 K (.ref d) (.ref d)=ax Ld)
  (svS:T7 K (.ref d) (.type "ValueError")=ax Ld)
  (acx:T7 K (.ref d) (.ref b)=ax Tx)
  (abY:T7 K (.ref d) (.ref f)=ax Tx)
  (abZ:T7 K (.ref d) (.ref J)=ax Tx)
  (ab2:T7 K (.ref d) (.ref I)=ax Tx)
  (aa7:T7 K (.ref d) (.ref E)=ax Tx)
  (aaf:T7 K (.ref d) (.ref M)=ax Tx)
  (aaY:T7 K (.ref d) (.ref C)=ax Tx)
  (abH:T7 K (.ref d) (.ref H)=ax Tx)
  (acA:T7 K (.ref d) (.ref L)=ax Tx)
  (lS:K.lookup NS=ax ⟨ocS,odS,.dict esS nS,slS⟩)
  (O9:(esS.all λe=>match e.key with|.str _ _=>Ld|_=>Tx)=Ld)
  (J9:T9 K NS "__init__"=ax (ax (.ref A)))
  (saS:T6 K (.ref d) "__setattr__"=ax (ax (.builtin "object.__setattr__")))
  (hdS:VG K d=Ld)
  (aa6:T6 K (.ref d) "place"=ax CL)
  (xT:K.lookup f=ax (excClassObj nmT qT f NT bsT (.ref g::[.type "ValueError",.type "Exception",.type "BaseException",.type "object"]) Ld snT ake abT ajn ddT k0T k1T k2T k3T k5T "ValueError.__new__"))
  (gaT:T6 K (.ref f) "__getattribute__"=ax (ax (.builtin "BaseException.__getattribute__")))
  (gtT:T6 K (.ref f) "__getattr__"=ax CL)
  (ckT:T6 K (.ref f) "__class__"=ax (ax (.builtin "object.__class__")))
  (obT:YA K f (.type "object")=ax Ld)
  (k:T7 K (.ref f) (.ref f)=ax Ld)
  (svT:T7 K (.ref f) (.type "ValueError")=ax Ld)
  (acJ:T7 K (.ref f) (.ref b)=ax Tx)
  (aa0:T7 K (.ref f) (.ref d)=ax Tx)
  (abP:T7 K (.ref f) (.ref J)=ax Tx)
  (abX:T7 K (.ref f) (.ref I)=ax Tx)
  (abh:T7 K (.ref f) (.ref E)=ax Tx)
  (aad:T7 K (.ref f) (.ref M)=ax Tx)
  (abc:T7 K (.ref f) (.ref C)=ax Tx)
  (abG:T7 K (.ref f) (.ref H)=ax Tx)
  (acw:T7 K (.ref f) (.ref L)=ax Tx)
  (lT:K.lookup NT=ax ⟨ocT,odT,.dict esT nT,slT⟩)
  (q:(esT.all λe=>match e.key with|.str _ _=>Ld|_=>Tx)=Ld)
  (inT:T9 K NT "__init__"=ax (ax (.ref y)))
  (saT:T6 K (.ref f) "__setattr__"=ax (ax (.builtin "object.__setattr__")))
  (hdT:VG K f=Ld)
  (ade:T6 K (.ref f) "row"=ax CL)
  (abf:Vf K b=Ld)
  (abi:U6 K (.ref b)=ax (.type "type"))
  (ZY:Vf K d=Ld)
  (ZP:U6 K (.ref d)=ax (.type "type"))
  (aar:Vf K f=Ld)
  (aaq:U6 K (.ref f)=ax (.type "type"))
  (Zj:Vf K J=Ld)
  (Zl:U6 K (.ref J)=ax (.type "type"))
  (Ze:Vf K I=Ld)
  (Zk:U6 K (.ref I)=ax (.type "type"))
  (YH:Vf K E=Ld)
  (YG:U6 K (.ref E)=ax (.type "type"))
  (X8:Vf K M=Ld)
  (Yb:U6 K (.ref M)=ax (.type "type"))
  (YD:Vf K C=Ld)
  (YI:U6 K (.ref C)=ax (.type "type"))
  (Zh:Vf K H=Ld)
  (Zf:U6 K (.ref H)=ax (.type "type"))
  (ZS:Vf K L=Ld)
  (ZR:U6 K (.ref L)=ax (.type "type"))
  (p:Xe K g (.type "type")=Ld)
  (u:Xf K (.ref g) (.type "type") "__init__"=ax (.val (.builtin "ValueError.__init__")))
  (Ak:VZ K (.ref g) "__getattribute__"=ax (ax (.builtin "type.__getattribute__")))
  (h41:MI K b B "__init__" "NoBed.__init__" (ig (top 4) 0))
  (h42:MI K d A "__init__" "NoChord.__init__" (ig (top 5) 0))
  (h43:MI K f y "__init__" "NoText.__init__" (ig (top 6) 0))
  (abJ:T9 K T5 "FIGURES"=ax (ax (.str "0123456789" acs)))
  (aaE:T9 K T5 "MOST_KEYS"=ax (ax (.int 5 aa5)))
  (ZX:T9 K T5 "MOST_LAYERS"=ax (ax (.int 3 aae)))
  (ZU:T9 K T5 "MOST_CHORDS"=ax (ax (.int 4 aac)))
  (aaz:T9 K T5 "MOST_WAIT"=ax (ax (.int 4 abd)))
  (yb:∀x∈iT.bl,T9 K T5 x=ax CL):
  ∃fd:U3,(∀(s:TK) (v:Tw),Zp s fd ⟨[v],[]⟩ [("_law_script",v)])/\∀base:Heap,K.In base->base.Ns T5 mg->FnOk l.prog w K mg base kS 8 fa fd ["_law_script"] (L3.sI K 1 F_law):=by
 refine h40.law X G hfa (by fail "ba") λbase fd aeH=>?_;have W:Tp l.prog w K mg base h:=⟨X,G⟩;have r:Wu K NR=Ld:=by unfold Wu;rw[lR];exact r
 have XR:L4.j9 K b (.ref g::[.type "ValueError",.type "Exception",.type "BaseException",.type "object"]):=⟨_,_,_,_,_,_,_,_,_,_,_,_,_,_,_,_,xR⟩;have LR:L4.Xh K b (.ref g::[.type "ValueError",.type "Exception",.type "BaseException",.type "object"]):=⟨XR,rfl,gaR,gtR,ckR,obR⟩;have YR:L9.XC K b g B:=⟨⟨_,_,_,_,_,_,_,_,_,_,_,_,_,_,xR,r,inR⟩,eI,saR⟩;have O9:Wu K NS=Ld:=by unfold Wu;rw[lS];exact O9
 have XS:L4.j9 K d (.ref g::[.type "ValueError",.type "Exception",.type "BaseException",.type "object"]):=⟨_,_,_,_,_,_,_,_,_,_,_,_,_,_,_,_,xS⟩;have LS:L4.Xh K d (.ref g::[.type "ValueError",.type "Exception",.type "BaseException",.type "object"]):=⟨XS,rfl,gaS,gtS,ckS,obS⟩;have YS:L9.XC K d g A:=⟨⟨_,_,_,_,_,_,_,_,_,_,_,_,_,_,xS,O9,J9⟩,eI,saS⟩;have q:Wu K NT=Ld:=by unfold Wu;rw[lT];exact q
 have XT:L4.j9 K f (.ref g::[.type "ValueError",.type "Exception",.type "BaseException",.type "object"]):=⟨_,_,_,_,_,_,_,_,_,_,_,_,_,_,_,_,xT⟩;have LT:L4.Xh K f (.ref g::[.type "ValueError",.type "Exception",.type "BaseException",.type "object"]):=⟨XT,rfl,gaT,gtT,ckT,obT⟩;have YT:L9.XC K f g y:=⟨⟨_,_,_,_,_,_,_,_,_,_,_,_,_,_,xT,q,inT⟩,eI,saT⟩;have XB:L4.j9 K g mB:=⟨_,_,_,_,_,_,_,_,_,_,_,_,_,_,_,_,xB⟩;have Yu:=UM X G ZT;have Xq:=UM X G YJ;have X0:=UM X G Zo;have Yr:=UM X G acz;have Yo:=UM X G acq;have XX:=UM X G abU;have W7:=UM X G aaI;have XY:=UM X G abV;have Yq:=UM X G acD;have YZ:=UM X G adg;have Yd:=UM X G aa2;obtain⟨fdR,zR⟩:=h41.F;obtain⟨_,_,_,_,_,_,_,_,_,rfl,lIR,_⟩:=zR.ex;have oR:=uE (P:=l.prog) (w:=w) (mg:=mg) (base:=base) zR YR Yd p u Ak aba adq;obtain⟨fdS,zS⟩:=h42.F;obtain⟨_,_,_,_,_,_,_,_,_,rfl,lIS,_⟩:=zS.ex;have oS:=zA (P:=l.prog) (w:=w) (mg:=mg) (base:=base) zS YS Yd p u Ak aa6;obtain⟨fdT,zT⟩:=h43.F;obtain⟨_,_,_,_,_,_,_,_,_,rfl,lIT,_⟩:=zT.ex;have oT:=Ag (P:=l.prog) (w:=w) (mg:=mg) (base:=base) zT YT Yd p u Ak ade;have a:acC K mg iT:=⟨λx hx=>PySem.W.mg_none_of X G (yb x hx),CC.exN,(CC.csC (CC.csT (UM X G abJ)) (CC.csC (CC.csI (UM X G aaE)) (CC.csC (CC.csI (UM X G ZX)) (CC.csC (CC.csI (UM X G ZU)) (CC.csC (CC.csI (UM X G aaz)) CC.csN))))),CC.clN⟩;have s0:=CC.fs0 (T:=bv) (P:=l.prog) (w:=w) (K:=K) (mg:=mg) (base:=base);have aef:lx l.prog w K mg base 1 "_law_kind" ["_law_e"] (jQ b 0):=t.cal (P:=l.prog) (w:=w) (mg:=mg) (base:=base) X G (by fail "ba") λ_ z=>sT (j:=0) (by decide) z LR Yu Xq X0 Yr Yo XX W7 XY Yq YZ (qE _) (b5 n ZY ZP aaX) (b5 n aar aaq abN) (b5 n Zj Zl ab1) (b5 n Ze Zk abK) (b5 n YH YG abb) (b5 n X8 Yb aag) (b5 n YD YI abg) (b5 n Zh Zf abI) (b5 n ZS ZR acv) (wA svR) (a.bl "isinstance" (by left)) (a.bl "ValueError" (by left));have ad1:lx l.prog w K mg base 1 "_law_kind" ["_law_e"] (jQ d 1):=t.cal (P:=l.prog) (w:=w) (mg:=mg) (base:=base) X G (by fail "ba") λ_ z=>sT (j:=1) (by decide) z LS Yu Xq X0 Yr Yo XX W7 XY Yq YZ (b5 m abf abi acx) (qE _) (b5 m aar aaq abY) (b5 m Zj Zl abZ) (b5 m Ze Zk ab2) (b5 m YH YG aa7) (b5 m X8 Yb aaf) (b5 m YD YI aaY) (b5 m Zh Zf abH) (b5 m ZS ZR acA) (wA svS) (a.bl "isinstance" (by left)) (a.bl "ValueError" (by left));have ad3:lx l.prog w K mg base 1 "_law_kind" ["_law_e"] (jQ f 2):=t.cal (P:=l.prog) (w:=w) (mg:=mg) (base:=base) X G (by fail "ba") λ_ z=>sT (j:=2) (by decide) z LT Yu Xq X0 Yr Yo XX W7 XY Yq YZ (b5 k abf abi acJ) (b5 k ZY ZP aa0) (qE _) (b5 k Zj Zl abP) (b5 k Ze Zk abX) (b5 k YH YG abh) (b5 k X8 Yb aad) (b5 k YD YI abc) (b5 k Zh Zf abG) (b5 k ZS ZR acw) (wA svT) (a.bl "isinstance" (by left)) (a.bl "ValueError" (by left));have s1:=CC.Xp s0 rfl (⟨_,_,_,_,_,_,YS,lIS,h42.i,oS,zS.binds (by fail "ba"),YJ,Xq⟩);have s2:=CC.Xp s1 rfl (⟨_,_,_,_,_,_,YT,lIT,h43.i,oT,zT.binds (by fail "ba"),Zo,X0⟩);have s3:=CC.Xp s2 rfl (⟨_,_,_,_,_,_,YR,lIR,h41.i,oR,zR.binds (by fail "ba"),ZT,Yu⟩);have s4:=CC.Xp s3 rfl (h0.c W λ_ z=>CC.Wb a s3 z e3);have s5:=CC.Xp s4 rfl (h1.c W λ_ z=>CC.Wb a s4 z e4);have s6:=CC.Xp s5 rfl (h2.c W λ_ z=>CC.Wb a s5 z e5);have s7:=CC.Xp s6 rfl (h3.c W λ_ z=>CC.Wb a s6 z e6);have s8:=CC.Xp s7 rfl (h4.c W λ_ z=>CC.Wb a s7 z e7);have s9:=CC.Xp s8 rfl (h5.c W λ_ z=>CC.Wb a s8 z e8);have s10:=CC.Xp s9 rfl (h6.c W λ_ z=>CC.Wb a s9 z e9);have s11:=CC.Xp s10 rfl (h7.c W λ_ z=>CC.Wb a s10 z RE);have s12:=CC.Xp s11 rfl (h8.c W λ_ z=>CC.Wb a s11 z Sk);have s13:=CC.Xp s12 rfl (h9.c W λ_ z=>CC.Wb a s12 z Sv);have s14:=CC.Xp s13 rfl (h10.c W λ_ z=>CC.Wb a s13 z Ts);have s15:=CC.Xp s14 rfl (h11.c W λ_ z=>CC.Wb a s14 z Sg);have s16:=CC.Xp s15 rfl (h12.c W λ_ z=>CC.Wb a s15 z Sl);have s17:=CC.Xp s16 rfl (h13.c W λ_ z=>CC.Wb a s16 z SX);have s18:=CC.Xp s17 rfl (h14.c W λ_ z=>CC.Wb a s17 z Sc);have s19:=CC.Xp s18 rfl (h15.c W λ_ z=>CC.Wb a s18 z To);have s20:=CC.Xp s19 rfl (h16.c W λ_ z=>CC.Wb a s19 z S6);have s21:=CC.Xp s20 rfl (h17.c W λ_ z=>CC.Wb a s20 z ST);have s22:=CC.Xp s21 rfl (h18.c W λ_ z=>CC.Wb a s21 z Su);have s23:=CC.Xp s22 rfl (h19.c W λ_ z=>CC.Wb a s22 z SN);have s24:=CC.Xp s23 rfl (h20.c W λ_ z=>CC.Wb a s23 z Ss);have s25:=CC.Xp s24 rfl (h21.c W λ_ z=>CC.Wb a s24 z Sd);have s26:=CC.Xp s25 rfl (h22.c W λ_ z=>CC.Wb a s25 z S0);have s27:=CC.Xp s26 rfl (h23.c W λ_ z=>CC.Wb a s26 z Tc);have s28:=CC.Xp s27 rfl (h24.c W λ_ z=>CC.Wb a s27 z SW);have s29:=CC.Xp s28 rfl (h25.c W λ_ z=>CC.Wb a s28 z Ti);have s30:=CC.Xp s29 rfl (h26.c W λ_ z=>CC.Wb a s29 z SZ);have s31:=CC.Xp s30 rfl (h27.c W λ_ z=>CC.Wb a s30 z SA);have s32:=CC.Xp s31 rfl (h29.c W λ_ z=>CC.Wb a s31 z Th);have s33:=CC.Xp s32 rfl (h31.c W λ_ z=>CC.Wb a s32 z Tj);have s34:=CC.Xp s33 rfl (h32.c W λ_ z=>CC.Wb a s33 z Sy);have s35:=CC.Xp s34 rfl (h36.c W λ_ z=>CC.Wb a s34 z Tf);have s36:=CC.Xp s35 rfl (o.c W λ_ z=>L3.J7 rfl);have s37:=CC.Xp s36 rfl (o.c W λ_ z=>CC.Wb a s36 z Sq);have s38:=CC.Xp s37 rfl (o.c W λ_ z=>CC.Wb a s37 z Tn);have s39:=CC.Xp s38 rfl (o.c W λ_ z=>CC.Wb a s38 z SG);have s40:=CC.Xp s39 rfl (o.c W λ_ z=>CC.Wb a s39 z SB);have Z:=CC.Xp s40 rfl (o.c W λ_ z=>CC.Wb a s40 z S5);have Y:=CC.Xp Z rfl (o.c W λ_ z=>CC.Wb a Z z S7);have U:=CC.Xp Y rfl (h28.ady X G (by fail "ba") λ_ z=>CC.adu a Y z SU);have S:=CC.Xp U rfl (h30.ady X G (by fail "ba") λ_ z=>CC.adu a U z Sz);have R:=CC.Xp S rfl (h33.ady X G (by fail "ba") λ_ z=>CC.adu a S z S3);have Q:=CC.Xp R rfl (h34.ady X G (by fail "ba") λ_ z=>CC.adu a R z Tl);have O:=CC.Xp Q rfl (h35.ady X G (by fail "ba") λ_ z=>CC.adu a Q z SH);have s48:=CC.Xp O rfl (h39.c W λ_ z=>GN z aef ad1 ad3 (O 46 _ (by decide) rfl) Yd XB beB XR (by rw[Vk,Vk,ez,We,V4]) ZT LR hdR aba adq XS (by rw[Vk,Vk,ez,We,V4]) YJ LS hdS aa6 XT (by rw[Vk,Vk,ez,We,V4]) Zo LT hdT ade);exact CC.Wb a s48 aeH SE
end K24
inductive PySem.W.Fast|tw12371373566758817112|tw6489937921417483623|tw3526992631031890626|tw15826867140908915123|tw10856232184735549030|tw5535212600907765019|tw3303143760482696511|tw13992858056630529316|tw16396762431614898157|tw665927289885281753|tw8336505945049950216|tw5189053139958974296|tw18272984126115927142|tw5822284138800034710|tw7781185995128542349|tw13090534742125528243|tw9621412089807556165|tw15118660722470706421|tw6819180015291559655|tw3034782650716450337|tw439866523634587871|tw3048742735154952323|tw2994051865726872420|tw9611636261581487492|tw6462855443109292686|tw16036568345701007506|tw14876479290509354245|tw3161248608652639771|tw17505766447805106524|tw15344463538380637687|tw4649140627574277409|tw11663287352029438178|tw18122514057910309626|tw14398584466199399995|tw11969886011181743187|tw17173904081643509898|tw11669277101982264690|tw8841629411567518723|tw19944762111557342|tw5172094247009101642|tw14755943443303571969|tw1270385843426025954|tw18419795816359190098|tw16878361383394660339|tw16238043998169127546|tw169042500926248146|tw7376768520121641479|tw11079559538908666742|tw13367118046375920004|tw14974060523765990015|tw13056611555344614656|tw13000960231995899063|tw3079704578976871285|tw11891275978571467017|tw4563923741980237315|tw1108133906988571240|tw8781221220084735515|tw5935926881409868527|tw4750620773021686908|tw18392626185406369950|tw866455691319834317|tw8063815996830418971|tw15703791690101476013|tw11091094317314790213|tw17262700193728423756|tw3037008980582111846|tw17612111628957098497|tw11601861394385919851|tw17271915729296793640|tw10655358240277840245|tw7581383126076716032|tw9025109687841899031|tw11016433983592028191|tw16922521896150189367|tw9631684451868708892|tw8730229130559988960|tw6613551677120239547|tw15137645074806009472|tw16539775771919285997|tw4494918963186768100|tw18180667664671839892|tw2131500972752595558|tw14426548098589138978|tw14037496027416668176|tw3594715392902516003|tw17035263558309701591|tw1836952289048955163|tw15285716219895763367|tw4971281771625777628|tw5388804509200642330|tw14072332686971215152|tw6500633523337679462|tw6515207750939734254|tw2486588632742996809|tw6155278152357792121|tw12197662647371963177|tw4956830700114925443|tw10760919340056781850|tw16860486976742989803|tw3835975055433292155|tw17063312308980394734|tw16134978572092456275|tw11704129059279288279|tw822836965468004001|tw526124882734425356|tw1249534216285115309|tw1519703419579289739|tw18048012696695648528|tw4656795474213017555|tw1998718649088646611|tw3769134851944205200|tw16148185666461693378|tw6656267785623276917|tw6477011206024342550|tw7114432700539313812|tw672390857664677176|tw9987047398102026775|tw115967927795672072|tw7308333613918817101|tw2005969748894364581|tw5802640126261694825|tw11082435328153223531|tw549715895326301829|tw12299923839755882626|tw493680206284260314|tw17261966118199026129|tw10425981788767369703|tw2546763769071541801|tw1179199189445002674|tw14013240703633756611|tw3437389235212916575|tw12599927272469870955|tw1821791812128599994|tw6972274045983851353|tw1962001236527024868|tw6536755700159271142|tw3060198878216045863|tw14481299813372859625|tw17576694769056414091|tw695786971905469305|tw5955159858797784693|tw9406125592837679538|tw889305869418018161|tw9996065240027945527|tw11706151015840106600|tw11403766318740557274|tw11362999445469860695|tw11339527801649263082|tw8095380465501660678|tw14716175463888036051|tw11213258544449837371|tw3437407109012823299|tw2442031508259133596|tw17755797932524326136|tw14726635923934851291|tw12800749713524162698|tw12786863180059200202|tw6555033759111577169|tw12529818850856460039|tw10278803085891291297|tw16166513845532525895|tw11230871964103085587|tw13698371946814067724|tw6720895860732293510|tw17443667910373599477|tw13217553073305229242|tw1994947158605821145|tw13587357173979847568|tw13436421268307498665|tw1783099163313624849|tw1028807603255801553|tw2396786322981135824|tw7194207118179211567|tw13501380907947160623|tw12373691088017286564|tw12975332639871643291|tw12197143686204538898|tw12981230899048452929|tw2769706403103863557|tw15103421334711084797|tw15729729379383047458|tw10391795384709711807|tw5476650860755922042|tw10207588569205080894|tw7680573763630665038|tw5575364127935938444|tw8607815065327170723|tw14645686335089048963|tw17013084166176598739|tw7252342320392473567|tw1475297316054912828|tw1148395613994500493|tw10137835993730662524|tw11413577690045695953|tw1056933894138169893|tw6233447657445927718|tw6057711546943466160|tw13185613246403480883|tw2080551783395182725|tw9264256824563738706|tw7029047723981695203|tw5218964612440401688|tw12812923486295353637|tw5661897444580727476|tw238718035567234023|tw813806418000283117|tw7044006355644712166|tw3484540490129358581|tw11096834382604522663|tw15797649730120001982|tw1488965230921173319|tw9317437568728864967|tw18402816599694139269|tw1715607042372572395|tw13533690552214416856|tw4734325390401160155|tw2364077882633869721|tw16615851226720598052|tw15876444796188631444|tw13597569580632140246|tw12670105076621934020|tw8397476219000659531|tw2896548258578835265|tw5243365190175601435|tw18172449360177165508|tw16501995897738743821|tw16222853697897804666|tw16853082407109587756|tw2013814730159859138|tw14365947413452490482|tw3795265377559051727|tw5503566639054731520|tw17567554506920995783|tw17248820266243411969|tw1366145164886588983|tw6834525441101360881|tw15414746028422004872|tw9847290868040444253|tw206569988867800207|tw5193340670716887722|tw7228856880689865328|tw8582927757522242272|tw9365299359811341317|tw14526938402162271856|tw4201002669194744928|tw6752464120848191887|tw5296208103278788297|tw10181673005911589354|tw9735091158783619152|tw15114681629720277420
open PySem PySem.W PyProof.Rows
set_option maxRecDepth 100000 in
set_option maxHeartbeats 0 in
theorem PySem.Challenge.cw_chordbed_k24_whole_beds_read_holds : PySem.Challenge.rw_chordbed_k24_whole_beds_read.Holds := by
 w_on;o_law;k_head;(case hw=>w_witness2)
 k_fill
 refine L3.OB (l:=PySem.Challenge.rw_chordbed_k24_whole_beds_read) (n:=63) (k:=8) (x:= "_law_script") (F:=K24.F_law) rfl (by decide) rfl ⟨rfl,by decide,by decide⟩ (λw h Y=>PySem.W.kIn_of Y) ?F K24.main
 case F=>
  intro w d e h b G a
  apply K24.all_mk b G a
  all_goals fail "ki"
