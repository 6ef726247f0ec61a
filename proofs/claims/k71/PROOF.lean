import PyProof.Rows.All
import Wide.All
import OpenK.AllK
import Wide.FinOn
import Lean
import PyProof.EqAt
import PyProof.EqKinds
import PyProof.TupleCall
import KE.KIntText
import KE.KRevSl
import PyProof.Rows.SeqMore
import PyProof.WalkInts
import PyProof.Rows.MinMaxN
import PyProof.ExcInit
import OpenK.KMake
import PyProof.InstStoreFacts
import PyProof.FString2
import PyProof.Rows.FStr
import PyProof.Rows.SetFrom
import PyProof.SeqRoads2
import PyProof.RangeFor
import PyProof.WalksMore
import PyProof.StrBlock2
import PyProof.Rows.SortShell
import PyProof.TupleOfSeq
import KE.KDictList
import KE.KDictOf
import PyProof.IsiH_tuple
import PyProof.Rows.RuleN_abs
import PyProof.Rows.Range3
import KE.KRevIter
import PyProof.StrLawsRepr
import PyProof.ReprStr
import PyProof.IsiH_list
import PyProof.Rows.TupDisplay
import PySem.Challenge.RW_chordbed_k71_typing_rooms
set_option compiler.extract_closed false
set_option genSizeOf false
set_option genInjectivity false
set_option Elab.async false
set_option linter.all false
set_option maxRecDepth 100000
abbrev av:=@if_pos
abbrev ax:=@if_neg
abbrev aP:=@decide_eq_true
abbrev a4:=@decide_eq_false
abbrev a5:=@of_decide_eq_true
abbrev a6:=@absurd
abbrev a7:=@Or.inl
abbrev bb:=@Or.inr
abbrev bg:=@List
abbrev br:=@Option
abbrev bt:=@PySem.Heap.get?_push_of_some
abbrev bP:=@PySem.Heap.lt_size
abbrev b5:=@PySem.Heap.get?_push_size
abbrev b7:=@PySem.Heap.get?_update_other
abbrev b9:=@PySem.Heap.get?_update_self
abbrev cn:=@PySem.Heap.size_push
abbrev cv:=@PySem.Heap.get?_none_of_le
abbrev c9:=@PySem.Obj.data_mapFields
abbrev da:=@PySem.Obj.isFreed_of_fields
abbrev db:=@Ne.symm
abbrev dw:=@congrArg
abbrev dN:=@beq_self_eq_true
local macro_rules|`(tactic|left)=>`(tactic|decide+kernel)|`(tactic|change $e)=>`(tactic|with_reducible exact $e)|`(tactic|specialize $e)=>`(tactic|with_reducible refine $e)
local macro_rules|`(tactic|exists $e)=>`(tactic|with_reducible apply $e)|`(def $i:declId $s:optDeclSig $v:declVal)=>`(noncomputable def $i:declId $s:optDeclSig $v:declVal)|`(abbrev $i:declId $s:optDeclSig $v:declVal)=>`(noncomputable abbrev $i:declId $s:optDeclSig $v:declVal)
local macro_rules|`(tactic|omega)=>`(tactic|lia)
open Option renaming some->lD,none->Th,isSome_map->XH,getD_some->X3,map_eq_some_iff->Yc,isSome_iff_exists->aaB,isSome_some->acd,toList_none->acf,getD_none->acL,map->afG
open PySem renaming wpAny_bind->Ld,Value->Ti,wpAny_pure->Tr,Addr->Tt,PyData->Tu,Shared->Tv,sizeLine->TL,mainGlobals->TZ,Program->T5,starEach->Uc,Around->Uk,Builtin->Ul,NameKind->Up,World->Uu,wpAny_field->UC,Expr->UD,wpAny_newObj_type->UG,FuncData->UO,wpAny_callSpecial?_slot->UR,bootBuiltins->UT,wpAny_holding->UY,wpAny_call_entry->UZ,sysModules->U3,wpAny_seqItems->Vf,swapsWith->Vg,sizeLine_eq->Vr,mem_of_lookup->Vs,wpAny_setField->Vt,compareOp->Vw,wpAny_loadPart_at->Vx,wpAny_dictEntries->Vy,Stmt->VH,DictEntry->VN,cellsFrom->VO,wpAny_standAt->V3,wpAny_typeNameOfWhole_keyiter->Wd,wpAny_Call_Name_kw->Wf,wpAny_setField_rec->Wg,wpAny_passesOwn->Wk,binaryOp->Wl,wpAny_truthy_bool->Wt,wpAny_letGo->WH,codeAny_call_builtin->WI,wpAny_isSubtype_exc->WO,wpAny_pyIter_list->WT,plainId_quiet->WU,codeAny_builtin->WX,wpAny_getItem_str_slice->W6,Scope->Xi,ExcBaseFacts->Xk,PassesOwn->Xq,wpAny_isInstance->Xt,wpAny_execs_nil->XG,wpAny_dictEpoch->XJ,codeAny_mono->XS,wpAny_typeOf->XU,wpAny_call->X7,call_meets->X8,GenState->YF,BindsTo->YS,wpAny_rule->YT,post_val_or_str->Y3,wpAny_pyIter_tuple->Y7,wpAny_notOrdered_dict->Y9,IsPart->Zm,wpAny_of_eq->Zn,wpAny_updateSeq_pair->Zo,wpAny_tryCatch->Zp,wpAny_onRaise->ZX,wpAny_attempt->ZY,typeIs_int->aac,tupleKind_room_in1->aad,Keyword->aas,ZipApart->aau,call_meetsIn->aav,wpAny_Call_ofName->aaw,eqIsQuiet_byValue->aax,plainObj_wpAny_Assign_Attribute->aaA,Result->aaG,Within->aa6,pushCells_keeps->aa7,wpAny_updateSeq->aa9,size_of_entries->aba,OsState->abt,Model->abC,Code->abD,typeIs_str->abE,ReadsAll->abG,IsZip->abH,wpAny_binaryOp_repeat_ref->ace,wpAny_comprehension_free->acu,Drawn->acK,wpAny_pyNext_list_item->acY,JoinOk->ac2,wpAny_Assign_Subscript->ac4,wpAny_isTrue_Compare1->adC,wpAny_pyNext_list_end->adD,wpAny_pyIter_listiter->adE,builtinLookup_eq_fast->adK,wpAny_isOneOf_keyiter->adL,wpAny_loadName_local->adR,Reads->adT,wpAny_mkInt->adW,wpAny_loadName_cell->aeq,wpAny_raiseNew_none->aer,wpAny_Name->aeO,wpAny_Constant_int->aeP,wpAny_load->aeR,wpAny_getItem_heap->aeT,wpAny_setItem_heap->aeU,wpAny_assign_Name->afB,wpAny_sequenceKey->afC,slot_list_getitem->afD,wpAny_Call_method->afE,OwnTail->afF,wpAny_pyHash_int->af6,wpAny_pyHash_str->af7,wpAny_execs_cons->af8,wpAny_lookBehind->aga,pastItsLine_dict->agb,noFill_tuple_add->agd,call->agf,wpAny_pyIter_zip->agg,beq_builtin_none->agh,wpAny_forIn_list->agi,wpAny_specialOf->ahq,typeLookup_type->ahr,wpAny_loadPart->air,isSubtype_stop->aiy,refuseLoop_ref->aiz,HeapKind->aiA,wpAny_fieldsOf->aiB,rangeSize_one->akm,intBits_le_64->akn,seq_tuple_add->ako,evalPart_none->akp,call_list_seq->akq,wpAny_handled->akr,wpAny_in_heap->aks,strLen_append->akt,wpAny_newList->aku,ItemsOf->akv
open PySem.W renaming Frag->Tg,nsIn->T7,findIn->Us,mg_none_of->U1,emptyDict->U9,fnOf->Va,keepIn->Vm,mg_of->Vu,instObj->VI,hasDictIn->V9,isFn->Wm,kia_one->WA,specialIn->WM,cellsFrom_some->WN,plainGet->WZ,callWith_K->Xr,codeIn->Xs,methodCall_KW->Ye,lookIn->Yo,InstAt->Yp,tailIn->Yt,plainGet_of->YG,excIn->YL,methodObj->Y5,plainOver->Y6,takerIn->ZJ,makesIn->ZK,readsIn->ZM,findCls->ZN,nsOkIn->aae,pyHash_slot->abu,tail_of_in->abJ,handedIn->acs,OpenLaw->acN,typeIn->acZ,kitOne->ac1,notCls->ac5,mroIn->adF,clsIn->adI
open List renaming length_map->Tj,getElem?_eq_some_iff->Tn,mem_cons_self->Ts,mem_cons_of_mem->Tx,length_append->Tz,getElem?_append_left->TF,getElem?_map->TH,replicate->TJ,getElem?_eq_getElem->TK,mem_singleton->TN,length_cons->TR,size_toArray->TU,map_cons->TX,range->TY,mem_cons->T1,mem_map->T3,lookup_cons->T4,getElem?_set_ne->Ue,mem_of_getElem?->Ug,mem_append_right->Uh,map_map->Ui,map_append->Uj,getElem?_append_right->Um,append_nil->Uo,length_range->Uq,length_replicate->Ut,find?_cons->Uw,append_assoc->Ux,mem_append->Uy,mem_iff_getElem?->UH,length_take->UI,length_set->UJ,mem_append_left->UK,getElem?_set_self->UL,replicate_succ->UN,getElem?_set->UQ,Nodup->US,pairwise_singleton->U0,nodup_cons->U5,pairwise_cons->U7,drop_eq_nil_of_le->Vc,drop_eq_getElem_cons->Ve,all_eq_true->Vi,not_mem_nil->Vj,mem_flatMap->Vk,length_nil->Vq,getElem?_concat_length->Vz,mem_filter->VQ,flatten_cons->VV,mem_range->V0,getElem?_replicate->V1,lookup->V7,of_mem_zip->Wa,lookup_cons_self->We,nodup_append->Wi,length_drop->Wu,filter_cons->Wv,mem_of_find?_eq_some->Wy,map_congr_left->WB,mem_map_of_mem->WC,take_add_one->WY,length_singleton->Xb,length_filter_le->Xd,take_length->Xh,any_cons->Xj,forIn_cons->Xo,map_nil->Xx,mem_filterMap->XA,contains_cons->XB,length->XT,pairwise_map->XW,getElem?_take_of_lt->X0,filterMap_cons_none->X5,filterMap_cons_some->X6,foldl->Yi,take_of_length_le->Yk,foldl_cons->Yq,set_append_right->YC,forIn_nil->YK,nodup_nil->YN,mem_of_mem_take->YO,filterMap_cons->Y2,mem_replicate->Zi,map_inj_right->Zj,getElem?_inj->ZA,any_eq_true->Z7,nil_append->aaq,drop_zero->aaD,filterMap_eq_nil_iff->aaJ,pairwise_iff_getElem->aaK,getElem?_cons_succ->aa8,getElem?_cons_zero->abc,filter_cons_of_pos->abd,filter_cons_of_neg->abe,mem_singleton_self->abf,pairwise_lt_range->abw,mem_of_mem_drop->ach,pairwise_append->aci,getElem_range->acO,set_cons_zero->acP,set_cons_succ->acQ,getElem_mem->adG,zipIdx_cons->adH,cons_append->adJ,zipIdx_nil->adV,headD_cons->adX,length_zip->adZ,filterMap->aeu,map->aev,take_zero->aex,map_take->aeV,map_drop->aeW,take_nil->aeX,map_id->agj,find?->ahu
open Bool renaming true->To,false->Tw,false_ne_true->TV,and_eq_true->T6,false_eq_true->Vh,and_self->VD,true_or->WW,false_or->X4,or_true->Yj,or_eq_true->Ys,false_and->YJ,and_eq_true_iff->YM,not_true->Y8,and_true->Za,eq_false_iff->ZC,true_and->aaZ,or_eq_false_iff->acg,not_eq_true'->ac3,eq_iff_iff->adU,bne_false->aes,or_false->aeS
open Nat renaming le_of_ble_eq_true->Tq,le_refl->TB,ne_of_lt->T8,lt_of_lt_of_le->T9,zero_le->Ur,le_trans->Uv,ne_of_gt->U4,lt_irrefl->Vo,add_sub_cancel_left->V4,lt_succ_self->Ww,zero_add->Wx,lt_trans->W0,le_succ->Xm,le_of_succ_le->X1,lt_succ_of_lt->X2,le_of_lt->Yn,add_assoc->Zh,sub_self->ZO,min_le_right->aab,mul_le_mul->aaI,add_comm->abF,sub_zero->abI,cast->acw,lt_of_le_of_lt->ac0,le_add_right->adY,min_eq_left->aet,not_lt_zero->aew,le_of_eq->agc,succ_mul->age,max_le->aiC
open Option.some renaming inj->TQ
open PyProof.Rows renaming envOfC->Ud,slot_tuple_getitem->UU,callWith_type1->W5,callWith_builtin1->ahp,kws_cons->ahs,kws_nil->aht
open Array renaming length_toList->UM,getElem?_eq_some_iff->UP,getElem?_toList->Wc,getElem?_setIfInBounds_self_of_lt->YB,getElem?_setIfInBounds_ne->Zw,find?_toList->acr,forIn_toList->acv,all_toList->ac6,toList->aeQ
open Int renaming toNat_natCast->UX,le_refl->YU,ofNat->aaf,toNat->abv,toNat_of_nonneg->acM,emod_lt_of_pos->ac7,emod_nonneg->aey
open PySem.F renaming slot_list_append->VR,type_list_append->VS,plainAttrs_list->VW,excBase_ValueError->Wh,plainAttrs_dict->WK,slot_dict_values->XI,attrBase_ValueError->ZZ,slot_dict_getitem->aar,args_tuple_add_2->aat,type_dict_values->aay,entry_tuple_add->aaC,slot_tuple_add->aaH,plainAttrs_str->aaL,slot_dict_pop->aa0,slot_dict_get->aa1,slot_dict_len->aa2,slot_str_join->aa3,type_str_join->aa4,slot_dict_ne->abb
open PySem.SeqAt renaming eqv_refl->X9,compareEq_reads->ais,compareNe_reads->ait,in_list_reads->aiu,in_tuple_reads->aiv,notIn_list_reads->aiw,notIn_tuple_reads->aix
open List.Pairwise renaming nil->Yr,filterMap->agk,filter->agp
open List.Perm renaming refl->ZL,swap->alQ
open PySem.Str renaming join->ZP
open Int.ofNat renaming inj->aag
open PySem.PassesOwn renaming never->aeY
open PySem.W.Looks renaming here->af9
open PySem.StrLaws renaming sliced_plain->agl,strSliceIndices_plain->agm,joinFits->agn,glued_eq_join->ago
open PySem.Within renaming cons->aho
open List.Nodup renaming sublist->akx
open PySem.IsL renaming update->alP
open List.cons renaming injEq->alR
namespace L2
open PySem PySem.Spec PyProof.Rows
abbrev cN:=Sum Int Str
def u9:cN->Ti->Bool
 |.inl k,v=>Ti.isInt k v
 |.inr x,v=>Ti.isStrOf x v
def Sw(w:Uu):cN->Int
 |.inl k=>hashInt k
 |.inr x=>hashStr w x
theorem c8:∀{k:cN} {v:Ti},u9 k v=To->(∃i t,k=Sum.inl i/\v=Ti.int i t)\/(∃x t,k=Sum.inr x/\v=Ti.str x t)
 |.inl i,v,h=>by obtain⟨t,e⟩:=Ti.isInt_shape h;exact .inl ⟨i,t,rfl,e⟩
 |.inr x,v,h=>by obtain⟨t,e⟩:=Ti.isStrOf_shape h;exact .inr ⟨x,t,rfl,e⟩
theorem Ex(i:Int)(t:Tok):u9 (.inl i) (.int i t)=To:=by simp[u9,Ti.isInt]
theorem D4(x:Str)(t:Tok):u9 (.inr x) (.str x t)=To:=by simp[u9,Ti.isStrOf]
theorem Pc(a b:Int):decide ((Sum.inl a:cN)=Sum.inl b)=(a==b):=by
 by_cases e:a=b
 .subst e;simp
 .have h:¬(Sum.inl a:cN)=Sum.inl b:=λq=>e (Sum.inl.inj q);rw[a4 h];exact(beq_eq_false_iff_ne.mpr e).symm
theorem Oq(a b:Str):decide ((Sum.inr a:cN)=Sum.inr b)=decide (a=b):=by
 by_cases e:a=b
 .subst e;simp
 .have h:¬(Sum.inr a:cN)=Sum.inr b:=λq=>e (Sum.inr.inj q);rw[a4 h,a4 e]
theorem PY(a:Int)(b:Str):decide ((Sum.inl a:cN)=Sum.inr b)=Tw:=a4 (λq=>nomatch q)
theorem Pq(a:Str)(b:Int):decide ((Sum.inr a:cN)=Sum.inl b)=Tw:=a4 (λq=>nomatch q)
def cY(prog:T5)(w:Uu):PySem.KeyKind prog w cN where
 is:=u9
 hash:=Sw w
 inj:=λv a b ha g=>by
  rcases c8 ha with⟨i,t,rfl,rfl⟩|⟨x,t,rfl,rfl⟩
  .rcases c8 g with⟨j,u,rfl,e⟩|⟨y,u,rfl,e⟩
   .injection e with e1 _;rw[e1]
   .exact nomatch e
  .rcases c8 g with⟨j,u,rfl,e⟩|⟨y,u,rfl,e⟩
   .exact nomatch e
   .injection e with e1 _;rw[e1]
 byValue:=λk v h=>by rcases c8 h with⟨i,t,rfl,rfl⟩|⟨x,t,rfl,rfl⟩<;>rfl
 pyHash:=λf h=>by
  rcases c8 f with⟨i,t,rfl,rfl⟩|⟨x,t,rfl,rfl⟩
  .exact af6 h
  .exact af7 h
 eqBool:=λl f h=>by
  rcases c8 l with⟨i,t,rfl,rfl⟩|⟨x,t,rfl,rfl⟩
  .rcases c8 f with⟨j,u,rfl,rfl⟩|⟨y,u,rfl,rfl⟩
   .rw[Pc]at h;exact wpAny_eqBool_int h
   .rw[PY]at h;exact SeqAt.EqAt.int_str i t y u _ _ _ _ h
  .rcases c8 f with⟨j,u,rfl,rfl⟩|⟨y,u,rfl,rfl⟩
   .rw[Pq]at h;exact SeqAt.EqAt.str_int x t j u _ _ _ _ h
   .rw[Oq]at h;exact wpAny_eqBool_str h
 «strs»:=λk x t v h=>by
  rcases c8 h with⟨i,u,rfl,e⟩|⟨y,u,rfl,e⟩
  .exact nomatch e
  .injection e with e1 _
   subst e1;cases v<;>rfl
theorem zE(prog:T5)(w:Uu)(i:Int)(t:Tok):(cY prog w).is (.inl i) (.int i t)=To:=Ex i t
theorem yd(prog:T5)(w:Uu)(x:Str)(t:Tok):(cY prog w).is (.inr x) (.str x t)=To:=D4 x t
inductive V where
 |V8|bl (b:Bool)|int (i:Int)|str (x:Str)|byt (b:Array UInt8)|flt (b:UInt64)|ref (a:Tt)|ty (n:String)
 deriving DecidableEq
def RelV:V->Ti->Prop
 |.V8,u=>u=Ti.none
 |.bl b,u=>u=Ti.bool b
 |.int i,u=>∃t,u=Ti.int i t
 |.str x,u=>∃t,u=Ti.str x t
 |.byt b,u=>∃t,u=Ti.bytes b t
 |.flt b,u=>∃t,u=Ti.float b t
 |.ref a,u=>u=Ti.ref a
 |.ty n,u=>u=Ti.type n
abbrev Vals:bg V->bg Ti->Prop:=Paired RelV
theorem Vals.length(r:Vals xs us):xs.length=us.length:=Paired.length r
theorem Vals.get:∀{xs:bg V} {us:bg Ti} {i:Nat} {x:V},Vals xs us->xs[i]?=lD x->∃u,us[i]?=lD u/\RelV x u
 |_,_,_,_,.nil,e=>by simp at e
 |_,_,0,_,.cons r _,e=>by simp at e;subst e;exact⟨_,rfl,r⟩
 |_,_,i+1,x,.cons _ t,e=>by obtain⟨u,b,a⟩:=Vals.get t (by simpa using e);exact⟨u,by simpa using b,a⟩
theorem Vals.append:∀{xs ys:bg V} {us ws:bg Ti},Vals xs us->Vals ys ws->Vals (xs++ys) (us++ws)
 |_,_,_,_,.nil,s=>s
 |_,_,_,_,.cons r t,s=>.cons r (Vals.append t s)
theorem Vals.take:∀{xs:bg V} {us:bg Ti} (n:Nat),Vals xs us->Vals (xs.take n) (us.take n)
 |_,_,0,_=>.nil
 |_,_,_+1,.nil=>.nil
 |_,_,n+1,.cons r t=>.cons r (Vals.take n t)
theorem Vals.drop:∀{xs:bg V} {us:bg Ti} (n:Nat),Vals xs us->Vals (xs.drop n) (us.drop n)
 |_,_,0,r=>r
 |_,_,_+1,.nil=>.nil
 |_,_,n+1,.cons _ t=>Vals.drop n t
def Xn:br V->br Ti->Prop
 |some v,lD u=>RelV v u
 |none,Th=>True
 |_,_=>False
def KV:bg (κ×V)->bg (κ×Ti)->Prop:=Paired λ(p:κ×V) (q:κ×Ti)=>p.1=q.1/\RelV p.2 q.2
def kV:cN->V
 |.inl i=>.int i
 |.inr x=>.str x
inductive HO where
 |lst (xs:bg V)
 |tup (xs:bg V)
 |dK (Ub:bg (cN×V))|dT (Ub:bg (bg cN×V))
 |set (S:Int->Bool) (n:Nat)
 |ins (C dx:Tt) (fs:bg (Str×V))
 |own (x:Tt)
 |xd (fs:bg (Str×V))
 |met (f x:Tt)
 |rng (lo hi:Int)
 |frz (o:Obj) (u:HO)
 |tbl (ps:Array Ti)
 |ext (φ:Heap->Prop)
 |exw (φ:Uu->Heap->Prop)
abbrev Hp:=Tt->br HO
def bq(H:Hp)(a:Tt)(o:HO):Hp:=λb=>if b=a then lD o else H b
theorem aF:bq H a o a=lD o:=by unfold bq;rw[av rfl]
theorem az(h:b≠a):bq H a o b=H b:=by unfold bq;rw[ax h]
theorem QE{H:Hp}{a b:Tt}{o u:HO}(h:H a=lD o)(h':H b=lD u)(d:o≠u):a≠b:=by intro e;subst e;rw[h]at h';exact d (TQ h')
theorem b6{H:Hp}(h:H a=lD o)(h':H b=Th):a≠b:=by intro e;subst e;rw[h]at h';cases h'
def ZQ(h:Heap)(a:Tt)(b:Array Ti):Prop:=∃o,h.get? a=lD o/\(o.cls=.type "tuple"/\∃n,o.data=.seq b n)/\o.dict=Th
theorem ZQ.tup(x:ZQ h a items):IsTup h a items:=let⟨o,e,c,_⟩:=x;⟨o,e,c⟩
theorem ZQ.lt(x:ZQ h a items):a<h.objs.size:=let⟨_,e,_⟩:=x;bP e
theorem ZQ.new(h:Heap)(xs:Array Ti):ZQ (h.push {cls:=.type "tuple",data:=.seq xs}) h.objs.size xs:=⟨_,b5 _ rfl,⟨rfl,_,rfl⟩,rfl⟩
section
variable(P:T5)(w:Uu)
def ObjOk(H:Hp)(h:Heap)(a:Tt):HO->Prop
 |.lst xs=>xs.length<=TL/\∃(b:bg Ti) (n:Nat),Vals xs b/\h.get? a=lD {cls:=.type "list",data:=.seq b.toArray n}
 |.tup xs=>xs.length<=TL/\∃b:bg Ti,Vals xs b/\ZQ h a b.toArray
 |.dK Ub=>Ub.length<=TL/\(a==U3)=Tw/\∃vs,KV Ub vs/\h.DictOf (cY P w) a vs
 |.dT Ub=>Ub.length<=TL/\(a==U3)=Tw/\∃xs:bg (bg cN×Tt×Ti),
   Paired (λ(p:bg cN×V) (q:bg cN×Tt×Ti)=>p.1=q.1/\H q.2.1=lD (.tup (p.1.map kV))/\RelV p.2 q.2.2) Ub xs/\
   ∃o es ep,h.get? a=lD o/\o.ExactDict/\o.data=.dict es ep/\es.toList=xs.map (entryOfKey (tupleKind (cY P w)))/\(xs.map (·.1)).Nodup
 |.set S n=>h.SetOf (intKind P w) a S n
 |.ins C dx fs=>H dx=lD (.own a)/\fs.length<=1000/\dx≠a/\h.get? a=lD (VI C dx)/\
   ∃mA,h.Ns1 dx mA/\(∀f,Xn (fs.lookup f) (mA f))/\aa6 mA (fs.map (·.1))
 |.own _=>∃o,h.get? a=lD o
 |.xd fs=>∃mA,h.Ns1 a mA/\∀f,Xn (fs.lookup f) (mA f)
 |.rng lo hi=>∃t u v,h.get? a=lD {cls:=.type "range",data:=.fields #[.int lo t,.int hi u,.int 1 v]}
 |.frz o u=>h.get? a=lD o/\ObjOk H h a u
 |.tbl ps=>h.get? a=lD {cls:=.none,data:=.fields ps}
 |.met f x=>h.get? a=lD (Y5 (.ref f) (.ref x))
 |.ext φ=>φ h/\(∃o,h.get? a=lD o)/\∀h1 h2:Heap,φ h1->(∀o,h1.get? a=lD o->h2.get? a=lD o)->φ h2
 |.exw φ=>φ w h/\(∃o,h.get? a=lD o)/\∀h1 h2:Heap,φ w h1->(∀o,h1.get? a=lD o->h2.get? a=lD o)->φ w h2
def YE(H:Hp)(h:Heap):Prop:=∀a o,H a=lD o->ObjOk P w H h a o
end
section
variable{P:T5}{w:Uu}{H H':Hp}{h h':Heap}{a:Tt}{o:HO}
theorem ObjOk.lt(x:ObjOk P w H h a o):a<h.objs.size:=by
 cases o with
 |lst xs=>obtain⟨_,_,_,_,e⟩:=x;exact bP e
 |tup xs=>obtain⟨_,_,_,p⟩:=x;exact p.lt
 |dK Ub=>obtain⟨_,_,_,_,o,_,_,e,_⟩:=x;exact bP e
 |dT Ub=>obtain⟨_,_,_,_,o,_,_,e,_⟩:=x;exact bP e
 |set S n=>obtain⟨o,_,_,_,e,_⟩:=x;exact bP e
 |ins C dx fs=>obtain⟨_,_,_,e,_⟩:=x;exact bP e
 |own y=>obtain⟨_,e⟩:=x;exact bP e
 |xd fs=>obtain⟨_,⟨_,_,_,e,_⟩,_⟩:=x;exact bP e
 |rng lo hi=>obtain⟨_,_,_,e⟩:=x;exact bP e
 |frz b u=>obtain⟨e,_⟩:=x;exact bP e
 |tbl ps=>exact bP (show h.get? a=lD _ from x)
 |met f y=>exact bP (show h.get? a=lD _ from x)
 |ext φ=>obtain⟨_,⟨_,e⟩,_⟩:=x;exact bP e
 |exw φ=>obtain⟨_,⟨_,e⟩,_⟩:=x;exact bP e
theorem Paired.Xg:∀{l₁:bg α} {l₂:bg β},Paired F l₁ l₂->(∀a b,F a b->G a b)->Paired G l₁ l₂
 |_,_,.nil,_=>.nil
 |_,_,.cons r t,f=>.cons (f _ _ r) (Paired.Xg t f)
theorem ObjOk.Yg(x:ObjOk P w H h a o)(k:∀b u,(b=a\/H b=lD (.own a))->h.get? b=lD u->h'.get? b=lD u)
  (G:∀b,H b=lD (.own a)->H' b=lD (.own a)) (F:∀b xs,H b=lD (.tup xs)->H' b=lD (.tup xs)):ObjOk P w H' h' a o:=by
 induction o with
 |lst xs=>obtain⟨z,B,n,r,e⟩:=x;exact⟨z,B,n,r,k _ _ (.inl rfl) e⟩
 |tup xs=>obtain⟨z,B,r,g,e,c⟩:=x;exact⟨z,B,r,g,k _ _ (.inl rfl) e,c⟩
 |dK Ub=>obtain⟨z,y,vs,r,g,i,j,e,c⟩:=x;exact⟨z,y,vs,r,g,i,j,k _ _ (.inl rfl) e,c⟩
 |dT Ub=>obtain⟨z,y,xs,r,g,i,j,e,c⟩:=x;exact⟨z,y,xs,Paired.Xg r λp q z=>⟨z.1,F _ _ z.2.1,z.2.2⟩,g,i,j,k _ _ (.inl rfl) e,c⟩
 |set S n=>obtain⟨g,i,j,t,e,c⟩:=x;exact⟨g,i,j,t,k _ _ (.inl rfl) e,c⟩
 |ins C dx fs=>obtain⟨d,z,ne,e,A,⟨m,i,j,I,c⟩,r⟩:=x;exact⟨G _ d,z,ne,k _ _ (.inl rfl) e,A,⟨m,i,j,k _ _ (.inr d) I,c⟩,r⟩
 |own y=>obtain⟨g,e⟩:=x;exact⟨g,k _ _ (.inl rfl) e⟩
 |xd fs=>obtain⟨A,⟨m,i,j,e,c⟩,r⟩:=x;exact⟨A,⟨m,i,j,k _ _ (.inl rfl) e,c⟩,r⟩
 |rng lo hi=>obtain⟨t,u,v,e⟩:=x;exact⟨t,u,v,k _ _ (.inl rfl) e⟩
 |frz g u E=>obtain⟨e,q⟩:=x;exact⟨k _ _ (.inl rfl) e,E q⟩
 |tbl ps=>have e:h.get? a=lD {cls:=.none,data:=.fields ps}:=x;show h'.get? a=lD {cls:=.none,data:=.fields ps};exact k a _ (.inl rfl) e
 |met f y=>have e:h.get? a=lD (Y5 (.ref f) (.ref y)):=x;show h'.get? a=lD (Y5 (.ref f) (.ref y));exact k a _ (.inl rfl) e
 |ext φ=>obtain⟨p,⟨o,e⟩,l⟩:=x;exact⟨l _ _ p λo q=>k _ _ (.inl rfl) q,⟨o,k _ _ (.inl rfl) e⟩,l⟩
 |exw φ=>obtain⟨p,⟨o,e⟩,l⟩:=x;exact⟨l _ _ p λo q=>k _ _ (.inl rfl) q,⟨o,k _ _ (.inl rfl) e⟩,l⟩
theorem YE.lt(x:YE P w H h)(e:H a=lD o):a<h.objs.size:=(x a o e).lt
theorem YE.fresh(x:YE P w H h)(e:h.objs.size<=a):H a=Th:=by
 cases q:H a with
 |none=>rfl
 |some u=>exact a6 (T9 (x.lt q) e) (Vo _)
theorem YE.kept(x:YE P w H h)(k:∀b u,h.get? b=lD u->h'.get? b=lD u):YE P w H h':=λa o e=>
 (x a o e).Yg (λb u _ q=>k b u q) (λ_ q=>q) λ_ _ q=>q
theorem YE.laid(x:YE P w H h)(k:∀b u,h.get? b=lD u->h'.get? b=lD u)(g:h.objs.size<=a)(new:ObjOk P w (bq H a o) h' a o):YE P w (bq H a o) h':=λb u e=>by
 have hn:=x.fresh g;by_cases f:b=a
 .subst f;rw[aF]at e;cases e;exact new
 .rw[az f]at e;exact(x b u e).Yg (λc v _ q=>k c v q) (λc q=>by rw[az (b6 q hn)];exact q) λc xs q=>by rw[az (b6 q hn)];exact q
end
def Rd(H:Hp)(a:Tt)(u:HO):Prop:=H a=lD u\/∃o,H a=lD (.frz o u)
theorem Rd.ok(r:Rd H a u)(x:YE P w H h):ObjOk P w H h a u:=by
 rcases r with r|⟨o,r⟩
 .exact x a u r
 .obtain⟨_,q⟩:=x a _ r;exact q
def Q3:br HO->Prop
 |some (.lst _)=>True
 |some (.dK _)=>True
 |some (.dT _)=>True
 |some (.set _ _)=>True
 |some (.ins _ _ _)=>True
 |some (.ext _)=>True
 |some (.exw _)=>True
 |_=>False
section
variable{P:T5}{w:Uu}{H:Hp}{h h':Heap}{x e:Tt}{Z:HO}
theorem YE.write(ok:YE P w H h)(g:Q3 (H x))(o:e=x\/H e=lD (.own x))(k:∀b u,b≠e->h.get? b=lD u->h'.get? b=lD u)(l:∃u,h'.get? e=lD u)
  (new:ObjOk P w (bq H x Z) h' x Z):YE P w (bq H x Z) h':=λb u q=>by
 have f:∀c y,H c=lD (.own y)->c≠x:=λc y r z=>by subst z;rw[r]at g;exact g
 have m:∀c xs,H c=lD (.tup xs)->c≠x:=λc xs r z=>by subst z;rw[r]at g;exact g
 by_cases j:b=x
 .subst j;rw[aF]at q;cases q;exact new
 .rw[az j]at q
  by_cases a:b=e
  .have n:H b=lD (.own x):=by
    rcases o with z|z
    .exact a6 (a.trans z) j
    .rw[a];exact z
   rw[q]at n;cases n;obtain⟨v,p⟩:=l;exact⟨v,by rw[a];exact p⟩
  .refine(ok b u q).Yg (λc v i r=>k c v ?_ r) (λc r=>by rw[az (f c b r)];exact r) λc xs r=>by rw[az (m c xs r)];exact r
   rcases i with rfl|i
   .exact a
   .rintro rfl
    rcases o with z|z
    .exact f c b i z
    .rw[i]at z;cases z;exact j rfl
end
structure Un(fs ex:bg Tt)(H H':Hp)(h h':Heap):Prop where
 keep:∀b o,h.get? b=lD o->H b=Th->b∉fs->b∉ex->h'.get? b=lD o
 slot:∀b o,h.get? b=lD o->H b=Th->b∈fs->b∉ex->∃sl,h'.get? b=lD {o with slots:=sl}
 free:∀b o,h.get? b=lD o->H b=Th->b∉ex->H' b=Th
 there:∀b o,h.get? b=lD o->b∉ex->∃o',h'.get? b=lD o'
 ZR:∀b xs,H b=lD (.tup xs)->H' b=lD (.tup xs)
 Zv:∀b o u,H b=lD (.frz o u)->H' b=lD (.frz o u)
 ZS:∀b ps,H b=lD (.tbl ps)->∃more,H' b=lD (.tbl (ps++more))
section
variable{fs fs' ex ex':bg Tt}{H H1 H2:Hp}{h h1 h2 h':Heap}{a x e:Tt}{o:HO}
theorem Un.any(u:Un fs ex H H1 h h1)(q:h.get? b=lD ob)(n:H b=Th)(f:b∉ex):∃sl,h1.get? b=lD {ob with slots:=sl}:=by
 by_cases g:b∈fs
 .exact u.slot b ob q n g f
 .exact⟨ob.slots,u.keep b ob q n g f⟩
theorem Un.kept(k:∀b u,h.get? b=lD u->h'.get? b=lD u):Un fs ex H H h h':=
 ⟨λb f q _ _ _=>k b f q,λb f q _ _ _=>⟨f.slots,k b f q⟩,λ_ _ _ n _=>n,λb f q _=>⟨f,k b f q⟩,λ_ _ q=>q,λ_ _ _ q=>q,λ_ ps q=>⟨#[],by rw[q];simp⟩⟩
theorem Un.refl:Un fs ex H H h h:=Un.kept λ_ _ q=>q
theorem Un.laid(k:∀b u,h.get? b=lD u->h'.get? b=lD u)(f:h.objs.size<=a)(hn:H a=Th):Un fs ex H (bq H a o) h h' where
 keep:=λb u q _ _ _=>k b u q
 slot:=λb u q _ _ _=>⟨u.slots,k b u q⟩
 free:=λb u q n _=>by rw[az (T8 (T9 (bP q) f))];exact n
 there:=λb u q _=>⟨u,k b u q⟩
 ZR:=λb xs q=>by rw[az (b6 q hn)];exact q
 Zv:=λb u xs q=>by rw[az (b6 q hn)];exact q
 ZS:=λb ps q=>⟨#[],by rw[az (b6 q hn),q];simp⟩
theorem Un.write(g:Q3 (H x))(p:e=x\/H e=lD (.own x))(k:∀b u,b≠e->h.get? b=lD u->h'.get? b=lD u)(i:∃u,h'.get? e=lD u):Un fs ex H (bq H x o) h h':=by
 have j:∀b,H b=Th->b≠x:=λb n z=>by subst z;rw[n]at g;exact g
 have l:∀b,H b=Th->b≠e:=λb n z=>by
  subst z;rcases p with r|r
  .exact j b n r
  .rw[n]at r;cases r
 have hm:∀b u,H b=lD u->¬Q3 (lD u)->b≠x:=λb u q m z=>by subst z;rw[q]at g;exact m g
 refine⟨λb u q n _ _=>k b u (l b n) q,λb u q n _ _=>⟨u.slots,k b u (l b n) q⟩,λb u q n _=>by rw[az (j b n)];exact n,λb u q _=>?_,
  λb xs q=>by rw[az (hm b _ q λz=>z)];exact q,λb u xs q=>by rw[az (hm b _ q λz=>z)];exact q,λb ps q=>⟨#[],by rw[az (hm b _ q λz=>z),q];simp⟩⟩
 by_cases f:b=e
 .subst f;exact i
 .exact⟨u,k b u f q⟩
end
def Rp(h:Heap)(H:Hp):bg Tt:=(TY h.objs.size).filter λa=>(H a).isSome
def xi(h:Heap)(H:Hp):Heap:=PySem.W.hideAll h (Rp h H)
theorem Eh(h:Heap)(H:Hp):(xi h H).objs.size=h.objs.size:=PySem.W.hideAll_size _ _
theorem HJ(e:h.get? b=lD o)(n:H b=Th):(xi h H).get? b=lD o:=
 PySem.W.hideAll_get _ e λhm=>by have q:=(VQ.mp hm).2;rw[n]at q;simp at q
theorem KO(e:(xi h H).get? b=lD o):h.get? b=lD o/\H b=Th:=by
 have a:=PySem.W.of_hideAll (Rp h H) e;refine⟨a,?_⟩;cases q:H b with
 |none=>rfl
 |some x=>have hm:b∈Rp h H:=VQ.mpr ⟨V0.mpr (bP a),by simp[q]⟩;have z:(xi h H).get? b=Th:=PySem.W.hideAll_none (Rp h H) hm;rw[z]at e;cases e
structure Mod(K:Tg)(mg:Str->br Ti)(base:Heap):Prop where
 kin:K.In base
 glob:base.Ns TZ mg
 blt:∃mb,base.Ns builtinsNs mb/\∀x:Str,x≠ "__name__"->mb x=UT x
 nolimit:base.NoLimit
structure Cx where
 prog:T5
 w:Uu
 K:Tg
 mg:Str->br Ti
 base:Heap
 A:Uk
 N:bg Str
 s₀:Tv
 H₀:Hp
 env:Env
 outer:bg Env
 stack:bg Env
 ex:bg Tt
 fn:Str->Bool
 calm:Bool
 pn:bg (Tt×Obj)
 xe:Ti->Tv->Prop
def zw(l:bg Env):bg Tt:=l.filterMap (·.frame)
abbrev Cx.fs(X:Cx):bg Tt:=zw X.outer
def RA(sc:Xi)(x:Str):Prop:=sc.names.lookup x=lD .local\/sc.names.lookup x=lD .cell\/sc.names.lookup x=lD .free
def Q5(sc:Xi)(x:Str):Prop:=sc.names.lookup x=lD .local\/sc.names.lookup x=lD .cell
def Sm(env:Env)(h:Heap)(m:Str->br Ti)(x:Str)(u:Ti):Prop:=
 (env.kindOf x=lD .local/\m x=lD u)\/((env.kindOf x=lD .cell\/env.kindOf x=lD .free)/\∃c,env.cells.lookup x=lD c/\h.IsCell c (lD u))
structure Cx.Ok(X:Cx):Prop where
 mod:Mod X.K X.mg X.base
 kind:X.env.scope.kind=.function
 glob:X.env.globals=TZ
 blt:X.env.builtins=builtinsNs
 above:X.s₀.heap.objs.size<=X.env.locals
 inj:∀x y c,X.env.cells.lookup x=lD c->X.env.cells.lookup y=lD c->x=y
 has:∀x,(X.env.kindOf x=lD .cell\/X.env.kindOf x=lD .free)->∃c,X.env.cells.lookup x=lD c
 cab:∀x c,X.fn x=To->X.env.cells.lookup x=lD c->X.s₀.heap.objs.size<=c
 hd:X.calm=To->X.A.handled=Th
 frames:X.A.frames=lD X.stack
 stk:X.stack=X.outer\/(X.stack=X.env::X.outer/\X.env.frame=lD X.env.locals)
 exf:∀b∈X.ex,b≠X.env.locals/\∀x c,X.env.cells.lookup x=lD c->c≠b
 bs:∀b o,X.base.get? b=lD o->X.s₀.heap.get? b=lD o/\X.H₀ b=Th
 bsz:X.base.objs.size<=X.s₀.heap.objs.size
 abm:∀b o,X.base.get? b=lD o->b∉X.ex
 abg:∀b∈X.ex,b∉X.fs
 Y0:X.s₀.heap.FunFrames X.base X.outer
 frf:∀b∈X.fs,X.H₀ b=Th
structure Inv(X:Cx)(pins:bg (Tt×Obj))(σ:bg (br V))(H:Hp)(s:Tv):Prop where
 ok:X.Ok
 os:s.os=X.s₀.os
 bare:AllBare s.gens
 base:Un X.fs X.ex X.H₀ H X.s₀.heap s.heap
 loc:∃m,s.heap.Ns X.env.locals m/\∀(i:Nat) (x:Str) (v:V),X.N[i]?=lD x->σ[i]?=lD (lD v)->RA X.env.scope x->∃u,RelV v u/\Sm X.env s.heap m x u
 cell:∀x c,X.env.cells.lookup x=lD c->∃v,s.heap.IsCell c v
 free:H X.env.locals=Th
 Xe:∀x c,X.env.cells.lookup x=lD c->H c=Th
 pin:∀p∈X.pn++pins,s.heap.get? p.1=lD p.2/\H p.1=Th/\p.1≠X.env.locals/\p.1∉X.fs/\∀v,p.2.data≠.cell v
 UW:YE X.prog X.w H s.heap
 len:σ.length=X.N.length
section
variable{X:Cx}{Z:bg (Tt×Obj)}{Y:bg (br V)}{H H':Hp}{s:Tv}{h':Heap}
theorem Cx.Ok.ai4(ok:X.Ok)(e:X.base.get? b=lD o):b∉X.fs:=λa=>by have:=(ok.Y0.mem a).1;rw[e]at this;cases this
theorem Inv.bs(I:Inv X Z Y H s):∀b o,X.base.get? b=lD o->s.heap.get? b=lD o/\H b=Th:=λb o e=>
 ⟨I.base.keep b o (I.ok.bs b o e).1 (I.ok.bs b o e).2 (I.ok.ai4 e) (I.ok.abm b o e),I.base.free b o (I.ok.bs b o e).1 (I.ok.bs b o e).2 (I.ok.abm b o e)⟩
theorem Inv.bk(I:Inv X Z Y H s):∀b o,X.base.get? b=lD o->s.heap.get? b=lD o:=λb o e=>(I.bs b o e).1
theorem Inv.mod(I:Inv X Z Y H s):Mod X.K X.mg X.base:=I.ok.mod
theorem Inv.Yu(I:Inv X Z Y H s):X.K.In s.heap:=I.ok.mod.kin.keeps I.bk
theorem Inv.lt(I:Inv X Z Y H s):X.env.locals<s.heap.objs.size:=let⟨_,hn,_⟩:=I.loc;hn.lt
theorem Inv.sz(I:Inv X Z Y H s):X.s₀.heap.objs.size<=s.heap.objs.size:=Uv I.ok.above (Yn I.lt)
theorem Inv.aiH(I:Inv X Z Y H s)(h:s.heap.objs.size<=a):a∉X.fs:=λe=>by obtain⟨_,o,b,_⟩:=I.ok.Y0.mem e;exact a6 (T9 (bP b) (Uv I.sz h)) (Vo _)
theorem Inv.cne(I:Inv X Z Y H s):∀x c,X.env.cells.lookup x=lD c->c≠X.env.locals:=λx c e z=>by obtain⟨v,o,f,g⟩:=I.cell x c e;obtain⟨m,⟨h,i,j,a,b,_⟩,_⟩:=I.loc;rw[z,a]at f;cases f;rw[b]at g;cases g
theorem Inv.Y0(I:Inv X Z Y H s):s.heap.FunFrames X.base X.outer:=by
 have all:∀(l:bg Env),(∀b∈zw l,b∈X.fs)->X.s₀.heap.FunFrames X.base l->s.heap.FunFrames X.base l:=by
  intro l
  induction l with
  |nil=>intro _ _;trivial
  |cons t r i=>intro h n;obtain⟨p,⟨L,o,a,hn,m,q⟩,j⟩:=n;have g:=h L (by unfold zw;rw[Y2,a];exact Ts);obtain⟨u,e⟩:=I.base.slot L o m (I.ok.frf L g) g λz=>I.ok.abg L z g;exact⟨p,⟨L,_,a,hn,e,q⟩,i (λb f=>h b (by unfold zw;rw[Y2,a];exact Tx _ f)) j⟩
 exact all X.outer (λ_ f=>f) I.ok.Y0
theorem Inv.stack(I:Inv X Z Y H s):s.heap.FunFrames X.base X.stack:=by
 rcases I.ok.stk with e|⟨e,hf⟩
 .rw[e];exact I.Y0
 .rw[e];obtain⟨m,hn,_⟩:=I.loc;refine .cons (by rw[I.ok.kind];decide) hf hn ?_ I.Y0;exact cv (Uv I.ok.bsz I.ok.above)
theorem Inv.Zs(I:Inv X Z Y H s):∀b∈zw X.stack,b∈X.env.locals::X.fs:=λb a=>by
 rcases I.ok.stk with e|⟨e,hf⟩
 .rw[e]at a;exact Tx _ a
 .rw[e]at a;unfold zw at a;rw[Y2,hf]at a;exact a
theorem Inv.Z9(I:Inv X Z Y H s):∀b∈zw X.stack,H b=Th:=λb a=>by
 rcases T1.mp (I.Zs b a) with e|a
 .rw[e];exact I.free
 .obtain⟨_,o,f,_⟩:=I.ok.Y0.mem a;exact I.base.free b o f (I.ok.frf b a) λz=>I.ok.abg b z a
theorem Inv.step{g':Array YF}{t':Nat}{d':acK}{ch:bg Tt}(I:Inv X Z Y H s)
  (g:∀b∈ch,(b∈X.ex\/X.s₀.heap.objs.size<=b)/\b≠X.env.locals/\(∀x c,X.env.cells.lookup x=lD c->c≠b)/\∀p∈X.pn++Z,p.1≠b)
  (keep:∀b o,b≠X.env.locals->b∉X.fs->b∉ch->s.heap.get? b=lD o->H b=Th->h'.get? b=lD o)
  (y:∀b o,b≠X.env.locals->b∈X.fs->b∉ch->s.heap.get? b=lD o->H b=Th->∃sl,h'.get? b=lD {o with slots:=sl}) (free:∀b o,b∉ch->s.heap.get? b=lD o->H b=Th->H' b=Th)
  (A:∀b o,b∉ch->s.heap.get? b=lD o->∃o',h'.get? b=lD o')
  (ZR:∀b xs,H b=lD (.tup xs)->H' b=lD (.tup xs)) (T:∀b o u,H b=lD (.frz o u)->H' b=lD (.frz o u)) (U:∀b ps,H b=lD (.tbl ps)->∃more,H' b=lD (.tbl (ps++more)))
  (N:∀m,s.heap.Ns X.env.locals m->h'.Ns X.env.locals m) (UW:YE X.prog X.w H' h') (R:AllBare g'):
  Inv X Z Y H' {s with heap:=h',gens:=g',drawn:=d',toks:=t'}:=by
 have E:∀b o,X.s₀.heap.get? b=lD o->b≠X.env.locals:=λb o e=>T8 (T9 (bP e) I.ok.above);have j:∀b o,X.s₀.heap.get? b=lD o->b∉X.ex->b∉ch:=λb o e a B=>by
  rcases(g b B).1 with z|z
  .exact a z
  .exact a6 (T9 (bP e) z) (Vo _)
 have h:∀x c,X.env.cells.lookup x=lD c->∀v,s.heap.IsCell c v->h'.IsCell c v:=λx c e v ⟨o,C,J⟩=>by
  have f:c∉ch:=λz=>(g c z).2.2.1 x c e rfl;by_cases M:c∈X.fs
  .obtain⟨sl,q⟩:=y c o (I.cne x c e) M f C (I.Xe x c e);exact⟨_,q,J⟩
  .exact⟨o,keep c o (I.cne x c e) M f C (I.Xe x c e),J⟩
 refine⟨I.ok,I.os,R,⟨λb o e n B a=>?_,λb o e n B a=>?_,λb o e n a=>?_,λb o e a=>?_,λb xs e=>ZR b xs (I.base.ZR b xs e),λb o xs e=>T b o xs (I.base.Zv b o xs e),λb ps e=>?_⟩,?_,λx c e=>?_,?_,λx c e=>?_,λp L=>?_,UW,I.len⟩
 .exact keep b o (E b o e) B (j b o e a) (I.base.keep b o e n B a) (I.base.free b o e n a)
 .obtain⟨sl,t⟩:=I.base.slot b o e n B a;obtain⟨G,F⟩:=y b _ (E b o e) B (j b o e a) t (I.base.free b o e n a);exact⟨G,F⟩
 .obtain⟨o',t⟩:=I.base.there b o e a;exact free b o' (j b o e a) t (I.base.free b o e n a)
 .obtain⟨o',t⟩:=I.base.there b o e a;exact A b o' (j b o e a) t
 .obtain⟨P,t⟩:=I.base.ZS b ps e;obtain⟨O,F⟩:=U b _ t;exact⟨P++O,by rw[F,Array.append_assoc]⟩
 .obtain⟨m,hn,Q⟩:=I.loc
  refine⟨m,N m hn,λi x v t F S=>?_⟩;obtain⟨u,r,l⟩:=Q i x v t F S;refine⟨u,r,?_⟩;rcases l with l|⟨k,c,e,z⟩
  .exact .inl l
  .exact .inr ⟨k,c,e,h x c e _ z⟩
 .obtain⟨v,z⟩:=I.cell x c e;exact⟨v,h x c e v z⟩
 .obtain⟨m,⟨o,_,_,C,_⟩,_⟩:=I.loc;exact free _ o (λz=>(g _ z).2.1 rfl) C I.free
 .obtain⟨v,o,C,J⟩:=I.cell x c e;exact free c o (λz=>(g c z).2.2.1 x c e rfl) C (I.Xe x c e)
 .obtain⟨e,n,ne,K,d⟩:=I.pin p L;have f:p.1∉ch:=λz=>(g p.1 z).2.2.2 p L rfl;exact⟨keep p.1 p.2 ne K f e n,free p.1 p.2 f e n,ne,K,d⟩
theorem Inv.un{t':Nat}(I:Inv X Z Y H s)(u:Un X.fs [] H H' s.heap h')(UW:YE X.prog X.w H' h'):Inv X Z Y H' {s with heap:=h',toks:=t'}:=by obtain⟨m,⟨o,v,y,i,r⟩,_⟩:=id I.loc;obtain⟨p,l⟩:=u.any i I.free (by simp);exact I.step (g':=s.gens) (d':=s.drawn) (ch:=[]) (λ_ z=>nomatch z) (λb o _ f _ e n=>u.keep b o e n f (by simp)) (λb o _ f _ e n=>u.slot b o e n f (by simp)) (λb o _ e n=>u.free b o e n (by simp)) (λb o _ e=>u.there b o e (by simp)) u.ZR u.Zv u.ZS (λt hm=>by obtain⟨q,g,h,a,j⟩:=hm;rw[i]at a;cases a;exact⟨_,g,h,l,j⟩) UW I.bare
theorem Inv.call{g':Array YF}{t':Nat}{d':acK}{ch:bg Tt}(I:Inv X Z Y H s)(u:Un (zw X.stack) ch H H' s.heap h')(UW:YE X.prog X.w H' h')(t:AllBare g')
  (g:∀b∈ch,(b∈X.ex\/X.s₀.heap.objs.size<=b)/\b≠X.env.locals/\(∀x c,X.env.cells.lookup x=lD c->c≠b)/\∀p∈X.pn++Z,p.1≠b):
  Inv X Z Y H' {s with heap:=h',gens:=g',drawn:=d',toks:=t'}:=by
 obtain⟨m,⟨o,C,E,l,r⟩,_⟩:=id I.loc;obtain⟨y,h⟩:=u.any l I.free λz=>(g _ z).2.1 rfl;exact I.step (ch:=ch) g (λb o h v a e n=>u.keep b o e n (λz=>(T1.mp (I.Zs b z)).elim h v) a) (λb o _ _ a e n=>u.any e n a) (λb o a e n=>u.free b o e n a) (λb o a e=>u.there b o e a) u.ZR u.Zv u.ZS (λB hm=>by obtain⟨A,i,j,f,q⟩:=hm;rw[l]at f;cases f;exact⟨_,i,j,h,q⟩) UW t
theorem Inv.turned{t':Nat}{a:Tt}(I:Inv X Z Y H s)(k:∀b o,b≠a->s.heap.get? b=lD o->h'.get? b=lD o)(hn:H a=Th)(h:a≠X.env.locals)
  (w:a∈X.ex\/X.s₀.heap.objs.size<=a) (t:∀x c,X.env.cells.lookup x=lD c->c≠a) (l:∀p∈X.pn++Z,p.1≠a):Inv X Z Y H {s with heap:=h',toks:=t'}:=by
 have g:∀b u,H b=lD u->b≠a:=λb u e z=>by rw[z,hn]at e;cases e
 refine I.step (g':=s.gens) (d':=s.drawn) (ch:=[a]) (λb j=>?_) (λb o _ _ f e _=>k b o (λz=>f (by simp[z])) e) (λb o _ _ f e _=>⟨o.slots,k b o (λz=>f (by simp[z])) e⟩) (λ_ _ _ _ n=>n)
  (λb o f e=>⟨o,k b o (λz=>f (by simp[z])) e⟩) (λ_ _ e=>e) (λ_ _ _ e=>e) (λb ps e=>⟨#[],by rw[e];simp⟩) (λm hm=>?_) (λb u e=>?_) I.bare
 .have e:b=a:=by simpa using j
  subst e;exact⟨w,h,t,l⟩
 .obtain⟨o,y,A,i,r⟩:=hm;exact⟨o,y,A,k _ o (db h) i,r⟩
 .refine(I.UW b u e).Yg (λc v f q=>k c v ?_ q) (λ_ q=>q) λ_ _ q=>q
  rcases f with z|z
  .rw[z];exact g b u e
  .exact g c _ z
theorem Inv.tok(I:Inv X Z Y H s)(t:Nat):Inv X Z Y H {s with toks:=t}:=I.un Un.refl I.UW
theorem Inv.kept{t':Nat}(I:Inv X Z Y H s)(k:∀b u,s.heap.get? b=lD u->h'.get? b=lD u):Inv X Z Y H {s with heap:=h',toks:=t'}:=I.un (Un.kept k) (I.UW.kept k)
theorem Inv.laid{a:Tt}{o:HO}{t':Nat}(I:Inv X Z Y H s)(k:∀b u,s.heap.get? b=lD u->h'.get? b=lD u)(e:s.heap.objs.size<=a)(new:ObjOk X.prog X.w (bq H a o) h' a o):
  Inv X Z Y (bq H a o) {s with heap:=h',toks:=t'}:=I.un (Un.laid k e (I.UW.fresh e)) (I.UW.laid k e new)
theorem Inv.write{x e:Tt}{o:HO}{t':Nat}(I:Inv X Z Y H s)(f:Q3 (H x))(g:e=x\/H e=lD (.own x))(k:∀b u,b≠e->s.heap.get? b=lD u->h'.get? b=lD u)(a:∃u,h'.get? e=lD u)
  (new:ObjOk X.prog X.w (bq H x o) h' x o):Inv X Z Y (bq H x o) {s with heap:=h',toks:=t'}:=I.un (Un.write f g k a) (I.UW.write f g k a new)
theorem Inv.aaY(I:Inv X Z Y H s)(h:∀p∈ahb,s.heap.get? p.1=lD p.2/\H p.1=Th/\p.1≠X.env.locals/\p.1∉X.fs/\∀v,p.2.data≠.cell v):Inv X ahb Y H s:=
 ⟨I.ok,I.os,I.bare,I.base,I.loc,I.cell,I.free,I.Xe,λp a=>(Uy.mp a).elim (λz=>I.pin p (UK _ z)) (h p),I.UW,I.len⟩
theorem sj{N:bg Str}(e:N.Nodup){i j:Nat}(a:N[i]?=lD x)(b:N[j]?=lD x):i=j:=by obtain⟨l,g⟩:=Tn.mp a;obtain⟨h,f⟩:=Tn.mp b;exact(List.getElem_inj e).mp (g.trans f.symm)
theorem u0{M:abC}{A:Uk}{E:Ti->Tv->Prop}{i:Nat}{x:Str}{v:V}{u:Ti}{Q:Unit->Tv->Prop}(I:Inv X Z Y H s)(hN:X.N.Nodup)(hi:X.N[i]?=lD x)(hx:Q5 X.env.scope x)(r:RelV v u)
  (h:∀s',Inv X Z (Y.set i (lD v)) H s'->(∃a,Heap.SameBut a s.heap s'.heap/\(a=X.env.locals\/X.env.cells.lookup x=lD a))->Q () s') (hf:X.fn x=To\/X.env.scope.names.lookup x=lD .local:=by first|exact .inl rfl|exact .inr rfl|assumption):wpAny M A (storeName X.env x u) Q E s:=by
 obtain⟨m,hn,hl⟩:=id I.loc;have ae2:(X.env.scope.kind==.class||(X.env.scope.kind==.module&&X.env.locals !=X.env.globals))=Tw:=by rw[I.ok.kind];rfl
 have hiσ:i<Y.length:=by rw[I.len];exact(Tn.mp hi).1
 have cne:=I.cne;have tracked:∀{a:Tt} {h':Heap},(∃o,s.heap.get? a=lD o/\H a=Th)->Heap.SameBut a s.heap h'->YE X.prog X.w H h':=λ{a h'} ha hs b ob e=>by
  obtain⟨_,_,aeM⟩:=ha;refine(I.UW b ob e).Yg (λc w' hc q=>(hs.2 c ?_).trans q) (λ_ q=>q) λ_ _ q=>q;rintro rfl;rcases hc with rfl|hc
  .rw[aeM]at e;cases e
  .rw[aeM]at hc;cases hc
 rcases hx with hk|hk
 .refine wpAny_storeName_local hk hn (λh' hn' hs=>?_) ae2
  obtain⟨oL,_,_,hoL,_⟩:=id hn;refine h _ ⟨I.ok,I.os,I.bare,⟨λb o e n hb hx=>?_,λb o e n hb hx=>?_,I.base.free,λb o e hx=>?_,I.base.ZR,I.base.Zv,I.base.ZS⟩,⟨_,hn',λj y v' e1 e2 e3=>?_⟩,λy c e=>?_,I.free,I.Xe,λp hp=>?_,tracked ⟨oL,hoL,I.free⟩ hs,by simpa using I.len⟩ ⟨_,hs,.inl rfl⟩
  .exact(hs.2 b (T8 (T9 (bP e) I.ok.above))).trans (I.base.keep b o e n hb hx)
  .obtain⟨sl,e1⟩:=I.base.slot b o e n hb hx;exact⟨sl,(hs.2 b (T8 (T9 (bP e) I.ok.above))).trans e1⟩
  .obtain⟨o',e1⟩:=I.base.there b o e hx;exact⟨o',(hs.2 b (T8 (T9 (bP e) I.ok.above))).trans e1⟩
  .by_cases hj:j=i
   .subst hj;rw[hi]at e1;cases e1;rw[UL hiσ]at e2;cases e2;exact⟨u,r,.inl ⟨hk,by simp⟩⟩
   .rw[Ue (db hj)]at e2
    obtain⟨u',r',q⟩:=hl j y v' e1 e2 e3;refine⟨u',r',?_⟩;rcases q with⟨k,e⟩|⟨k,c,e,z⟩
    .refine .inl ⟨k,?_⟩;have:y≠x:=λe=>hj (sj hN e1 (e▸hi));simp[this,e]
    .exact .inr ⟨k,c,e,z.sameBut hs (cne y c e)⟩
  .obtain⟨w',z⟩:=I.cell y c e;exact⟨w',z.sameBut hs (cne y c e)⟩
  .obtain⟨e,n,ne,nf,d⟩:=I.pin p hp;exact⟨(hs.2 p.1 ne).trans e,n,ne,nf,d⟩
 .have hfn:X.fn x=To:=by
   rcases hf with z|z
   .exact z
   .rw[z]at hk;cases hk
  obtain⟨c,hc⟩:=I.ok.has x (.inl hk);obtain⟨w',z⟩:=I.cell x c hc;refine wpAny_storeName_cell I.ok.kind hk hc z (λh' hc' hs=>?_);obtain⟨oc,hoc,ajN⟩:=id z;refine h {s with heap:=h'} ⟨I.ok,I.os,I.bare,⟨λb o e n hb hx=>?_,λb o e n hb hx=>?_,I.base.free,λb o e hx=>?_,I.base.ZR,I.base.Zv,I.base.ZS⟩,⟨m,hn.sameBut hs (db (cne x c hc)),λj y v' e1 e2 e3=>?_⟩,λy c' e=>?_,I.free,I.Xe,λp hp=>?_,tracked ⟨oc,hoc,I.Xe x c hc⟩ hs,by simpa using I.len⟩ ⟨c,hs,.inr hc⟩
  .exact(hs.2 b (T8 (T9 (bP e) (I.ok.cab x c hfn hc)))).trans (I.base.keep b o e n hb hx)
  .obtain⟨sl,e1⟩:=I.base.slot b o e n hb hx;exact⟨sl,(hs.2 b (T8 (T9 (bP e) (I.ok.cab x c hfn hc)))).trans e1⟩
  .obtain⟨o',e1⟩:=I.base.there b o e hx;exact⟨o',(hs.2 b (T8 (T9 (bP e) (I.ok.cab x c hfn hc)))).trans e1⟩
  .by_cases hj:j=i
   .subst hj;rw[hi]at e1;cases e1;rw[UL hiσ]at e2;cases e2;exact⟨u,r,.inr ⟨.inl hk,c,hc,hc'⟩⟩
   .rw[Ue (db hj)]at e2
    obtain⟨u',r',q⟩:=hl j y v' e1 e2 e3;refine⟨u',r',?_⟩;rcases q with q|⟨k,c',e,z'⟩
    .exact .inl q
    .refine .inr ⟨k,c',e,z'.sameBut hs ?_⟩;rintro rfl;exact hj (sj hN e1 (I.ok.inj _ _ _ e hc▸hi))
  .by_cases hcc:c'=c
   .subst hcc;exact⟨_,hc'⟩
   .obtain⟨w2,z2⟩:=I.cell y c' e;exact⟨w2,z2.sameBut hs hcc⟩
  .obtain⟨e,n,ne,nf,d⟩:=I.pin p hp;refine⟨(hs.2 p.1 ?_).trans e,n,ne,nf,d⟩;intro q;rw[q,hoc]at e;have q':oc=p.2:=TQ e;exact d w' (by rw[<-q'];exact ajN)
theorem nZ{i:Nat}{v:V}{u:Ti}{Q:Unit->Tv->Prop}(I:Inv X Z Y H s)(hN:X.N.Nodup)(hi:X.N[i]?=lD x)(hx:Q5 X.env.scope x)(r:RelV v u)
  (h:∀s',Inv X Z (Y.set i (lD v)) H s'->Q () s') (hf:X.fn x=To\/X.env.scope.names.lookup x=lD .local:=by first|exact .inl rfl|exact .inr rfl|assumption):wpAny M A (storeName X.env x u) Q E s:=
 u0 I hN hi hx r (λs' I' _=>h s' I') hf
theorem Inv.adp{a:Tv}{ch:bg Tt}(I:Inv X Z Y H s)(h:a.os=s.os)(u:Un (zw X.stack) ch H H' s.heap a.heap)(UW:YE X.prog X.w H' a.heap)(i:AllBare a.gens)
  (f:∀b∈ch,(b∈X.ex\/X.s₀.heap.objs.size<=b)/\b≠X.env.locals/\(∀x c,X.env.cells.lookup x=lD c->c≠b)/\∀p∈X.pn++Z,p.1≠b):Inv X Z Y H' a:=by
 obtain⟨h',g',d',t',g⟩:=a;have e:g=s.os:=h;subst e;exact I.call (g':=g') (t':=t') (d':=d') u UW i f
end
abbrev XK:=Ti->br Tt->Hp->Prop
abbrev St:=bg (br V)
abbrev VK:=V->Hp->Prop
abbrev TE:=St->Hp->VK->Prop
abbrev TT:=St->Hp->(Bool->Hp->Prop)->Prop
abbrev TA:=St->Hp->(bg V->Hp->Prop)->Prop
structure Ends where
 nx:St->Hp->Prop
 rt:VK
 bk:St->Hp->Prop:=λ_ _=>False
 ct:St->Hp->Prop:=λ_ _=>False
abbrev TS:=Ends->St->Hp->Prop
def EP(X:Cx)(a:bg (Tt×Obj))(b:St)(Q:VK)(u:Ti)(e:Tv):Prop:=∃v H',Inv X a b H' e/\RelV v u/\Q v H'
def TP(X:Cx)(a:bg (Tt×Obj))(e:St)(Q:Bool->Hp->Prop)(b:Bool)(f:Tv):Prop:=∃H',Inv X a e H' f/\Q b H'
def AP(X:Cx)(a:bg (Tt×Obj))(b:St)(Q:bg V->Hp->Prop)(us:bg Ti)(e:Tv):Prop:=∃vs H',Inv X a b H' e/\Vals vs us/\Q vs H'
def SP(X:Cx)(a:bg (Tt×Obj))(D:Ends)(f:Flow)(b:Tv):Prop:=
 match f with
 |.next=>∃σ' H',Inv X a σ' H' b/\D.nx σ' H'
 |.brk=>∃σ' H',Inv X a σ' H' b/\D.bk σ' H'
 |.cont=>∃σ' H',Inv X a σ' H' b/\D.ct σ' H'
 |.ret u=>∃v σ' H',Inv X a σ' H' b/\RelV v u/\D.rt v H'
def PE(X:Cx)(e:UD)(t:TE):Prop:=
 ∀(a:bg (Tt×Obj)) (s:Tv) (b:St) (H:Hp) (Q:VK),Inv X a b H s->t b H Q->wpAny (model X.prog X.w) X.A (eval e X.env) (EP X a b Q) X.xe s
def PT(X:Cx)(e:UD)(t:TT):Prop:=
 ∀(a:bg (Tt×Obj)) (s:Tv) (b:St) (H:Hp) (Q:Bool->Hp->Prop),Inv X a b H s->t b H Q->wpAny (model X.prog X.w) X.A (isTrue e X.env (eval e X.env)) (TP X a b Q) X.xe s
def PW(X:Cx)(e:UD)(t:TT):Prop:=
 ∀(b:Sem Ti) (a:bg (Tt×Obj)) (s:Tv) (f:St) (H:Hp) (Q:Bool->Hp->Prop),Inv X a f H s->t f H Q->wpAny (model X.prog X.w) X.A (isTrue e X.env b) (TP X a f Q) X.xe s
theorem PW.pt(h:PW X e t):PT X e t:=h _
def PA(X:Cx)(es:bg UD)(t:TA):Prop:=
 ∀(e:Pos) (a:bg (Tt×Obj)) (s:Tv) (b:St) (H:Hp) (Q:bg V->Hp->Prop),Inv X a b H s->t b H Q->wpAny (model X.prog X.w) X.A (spliced (backTo e (Uc es X.env))) (AP X a b Q) X.xe s
def PS(X:Cx)(st:VH)(t:TS):Prop:=
 ∀(a:bg (Tt×Obj)) (s:Tv) (b:St) (H:Hp) (D:Ends),Inv X a b H s->t D b H->wpAny (model X.prog X.w) X.A (exec st X.env) (SP X a D) X.xe s
def Zl(X:Cx)(st:bg VH)(t:TS):Prop:=
 ∀(a:bg (Tt×Obj)) (s:Tv) (b:St) (H:Hp) (D:Ends),Inv X a b H s->t D b H->wpAny (model X.prog X.w) X.A (execs st X.env) (SP X a D) X.xe s
theorem cz{α:Type}{t:Sem α}{Q b:α->Tv->Prop}{M:abC}{A:Uk}{E:Ti->Tv->Prop}{s:Tv}(h:wpAny M A t Q E s)(e:∀a s,Q a s->b a s):wpAny M A t b E s:=wpAny_mono h e λ_ _ x=>x
section
variable{X:Cx}
def uF(i:Nat):TE:=λa H Q=>∃v,a[i]?=lD (lD v)/\Q v H
def tC(v:V):TE:=λ_ H Q=>Q v H
theorem PX(t:X.N[i]?=lD x)(p:RA X.env.scope x)(hd:(x==("__debug__":Str))=Tw:=by decide)(j:(x==("__classdict__":Str))=Tw:=by decide):PE X (.Name x pos) (uF i):=by
 intro f s o H Q I h;obtain⟨v,e,h⟩:=h;obtain⟨m,hn,q⟩:=I.loc;obtain⟨u,r,l⟩:=q i x v t e p;have b:EP X f o Q u s:=⟨v,H,I,r,h⟩;rcases l with⟨a,hm⟩|⟨a,c,n,g⟩
 .exact aeO (adR I.ok.kind a hn hm b) hd
 .rcases a with a|a
  .exact aeO (aeq I.ok.kind a n g b) hd
  .exact aeO (wpAny_loadName_free I.ok.kind a n g b j) hd
theorem aY{i j pos}:PE X (.Constant (.int i) j pos) (tC (.int i)):=λ_ _ _ H _ I h=>aeP ⟨.int i,H,I.tok _,⟨_,rfl⟩,h⟩
theorem vE{b j pos}:PE X (.Constant (.bool b) j pos) (tC (.bl b)):=λ_ _ _ H _ I h=>Constant_bool ⟨.bl b,H,I,rfl,h⟩
theorem g7{j pos}:PE X (.Constant .none j pos) (tC .V8):=λ_ _ _ H _ I h=>Constant_none ⟨.V8,H,I,rfl,h⟩
theorem fL{x j pos}:PE X (.Constant (.str x) j pos) (tC (.str x)):=λ_ _ _ H _ I h=>Calls.Constant_str ⟨.str x,H,I.tok _,⟨_,rfl⟩,h⟩
def Gl(X:Cx)(x:Str):Prop:=X.env.kindOf x=lD .globalImplicit
theorem jM(I:Inv X pins σ H s)(a:Gl X x)(hm:X.mg x=lD u)(h:Q u s)
  (hd:(x==("__debug__":Str))=Tw:=by decide):wpAny (model X.prog X.w) X.A (eval (.Name x pos) X.env) Q E s:=
 Calls.Name_function_global I.ok.kind a (Calls.loadGlobal_global (by rw[I.ok.glob];exact I.mod.glob.keeps I.bk) hm h) hd
theorem pW(I:Inv X pins σ H s)(b:Gl X x)(hm:X.mg x=Th)(a:UT x=lD u)(h:Q u s)
  (hn:x≠ "__name__":=by decide) (hd:(x==("__debug__":Str))=Tw:=by decide):wpAny (model X.prog X.w) X.A (eval (.Name x pos) X.env) Q E s:=by
 obtain⟨g,f,e⟩:=I.mod.blt;exact Calls.Name_function_global I.ok.kind b (Calls.loadGlobal_builtin (by rw[I.ok.glob];exact I.mod.glob.keeps I.bk) hm (by rw[I.ok.blt];exact f.keeps I.bk) ((e x hn).trans a) h) hd
theorem B3{x:Str}{v:V}{u:Ti}{a:Pos}(b:Gl X x)(hm:X.mg x=lD u)(r:RelV v u)(hd:(x==("__debug__":Str))=Tw:=by decide):PE X (.Name x a) (tC v):=
 λ_ _ _ H _ I h=>jM I b hm ⟨v,H,I,r,h⟩ hd
theorem Cv(b:Gl X x)(hm:X.mg x=Th)(a:UT x=lD u)(r:RelV v u)(hn:x≠ "__name__":=by decide)(hd:(x==("__debug__":Str))=Tw:=by decide):PE X (.Name x pos) (tC v):=
 λ_ _ _ H _ I h=>pW I b hm a ⟨v,H,I,r,h⟩ hn hd
variable{a b:UD}{Z tb:TE}{pos:Pos}
def PC(X:Cx)(op:CmpOp)(a b:UD)(t:TE):Prop:=
 ∀(e:bg (Tt×Obj)) (s:Tv) (h:St) (H:Hp) (Q:VK),Inv X e h H s->t h H Q->
  wpAny (model X.prog X.w) X.A (eval a X.env) (λv g=>wpAny (model X.prog X.w) X.A (eval b X.env) (λu f=>wpAny (model X.prog X.w) X.A (Vw op v u) (EP X e h Q) X.xe f) X.xe g) X.xe s
def tB(t:TE):TT:=λe H Q=>t e H λx f=>∃c,x=.bl c/\Q c f
theorem Bm(h:PC X op a b t)(f:behindInMarks op b=Tw:=by first|exact agT _ (by decide) (by decide)|rfl):PT X (.Compare a [op] [b] pos) (tB t):=by intro e s g H Q I l;refine adC (cz (h e s g H _ I l) λv w f=>cz f λu r m=>cz m λc p ⟨x,o,n,i,j⟩=>?_) f;obtain⟨d,rfl,q⟩:=j;cases i;exact Wt ⟨o,n,q⟩
theorem xO{e:UD}{t:TE}(h:PE X e t)(m:∀whole,isTrue e X.env whole=(do let v<-whole;standAt e.pos;holding [v] (truthy v)):=by intro _;rfl):PT X e (tB t):=by intro f s g H Q I l;refine isTrue_plain (cz (h f s g H _ I l) λv p ⟨x,o,n,i,j⟩=>?_) (m _);obtain⟨d,rfl,q⟩:=j;cases i;exact Wt ⟨o,n,q⟩
variable{U T:TT}{Y:bg UD}
def P0(t u:TT):TT:=λe H Q=>t e H λc f=>if c=To then u e f Q else Q Tw f
def SK(t u:TT):TT:=λe H Q=>t e H λc f=>if c=To then Q To f else u e f Q
def O9(t:TT):TT:=λe H Q=>t e H λc f=>Q (!c) f
theorem LY(ha:PT X a U):PW X (.BoolOp .And [a] pos) U:=by
 intro i f s g H Q I h;refine isTrue_and (cz (ha f s g H Q I h) λc j e=>?_);cases c with
 |true=>exact isTrue_and_nil e
 |false=>exact e
theorem AI(ha:PT X a U):PW X (.BoolOp .Or [a] pos) U:=by
 intro i f s g H Q I h;refine isTrue_or (cz (ha f s g H Q I h) λc j e=>?_);cases c with
 |false=>exact isTrue_or_nil e
 |true=>exact e
theorem NS(ha:PT X a U)(n:PW X (.BoolOp .And (b::Y) pos) T):PW X (.BoolOp .And (a::b::Y) pos) (P0 U T):=by
 intro l e s f H Q I h;refine isTrue_and (cz (ha e s f H _ I h) λc m ⟨j,i,g⟩=>?_);cases c with
 |true=>exact n l e m f j Q i g
 |false=>exact⟨j,i,g⟩
theorem yZ(ha:PT X a U)(n:PW X (.BoolOp .Or (b::Y) pos) T):PW X (.BoolOp .Or (a::b::Y) pos) (SK U T):=by
 intro l e s f H Q I h;refine isTrue_or (cz (ha e s f H _ I h) λc m ⟨j,i,g⟩=>?_);cases c with
 |true=>exact⟨j,i,g⟩
 |false=>exact n l e m f j Q i g
theorem Au(ha:PT X a U):PT X (.UnaryOp .Not a pos) (O9 U):=by intro e s f H Q I h;exact isTrue_not (ha e s f H (λc g=>Q (!c) g) I h)
def Ni(Z tb:TE):TE:=λe H Q=>Z e H λx f=>∃c,x=.bl c/\if c=To then tb e f Q else Q (.bl Tw) f
theorem Hi{op}(h:PE X a t):PE X (.BoolOp op [a] pos) t:=λe s f H Q I g=>BoolOp_one (h e s f H Q I g)
theorem GX(ha:PE X a Z)(n:PE X (.BoolOp .And (b::Y) pos) tb):PE X (.BoolOp .And (a::b::Y) pos) (Ni Z tb):=by
 intro e s g H Q I h;refine BoolOp_and (cz (ha e s g H _ I h) λv l ⟨x,j,i,m,f⟩=>?_);obtain⟨c,rfl,f⟩:=f;cases m;refine Wt ?_;cases c with
 |true=>exact n e l g j Q i f
 |false=>exact⟨.bl Tw,j,i,rfl,f⟩
def RJ(t:TT)(Z tb:TE):TE:=λe H Q=>t e H λc f=>if c=To then Z e f Q else tb e f Q
theorem sH(m:PT X c U)(ha:PE X a Z)(n:PE X b tb):PE X (.IfExp c a b pos) (RJ U Z tb):=by
 intro e s f H Q I h;refine wpAny_IfExp (cz (m e s f H _ I h) λd g ⟨l,j,i⟩=>?_);cases d with
 |true=>exact ha e g f l Q j i
 |false=>exact n e g f l Q j i
end
def Ym(K:Tg)(H:Hp)(a:Tt)(xs:bg V):Prop:=
 Rd H a (.lst xs)\/
  ∃(o:Obj) (b:Array Ti) (n:Nat),K.lookup a=lD o/\o.cls=.type "list"/\o.dict=Th/\o.data=.seq b n/\b.size<=TL/\Vals xs b.toList
def XY(K:Tg)(H:Hp)(a:Tt)(xs:bg V):Prop:=
 Rd H a (.tup xs)\/
  ∃(o:Obj) (b:Array Ti) (n:Nat),K.lookup a=lD o/\(o.cls=.type "tuple"/\o.dict=Th)/\o.data=.seq b n/\b.size<=TL/\Vals xs b.toList
def RQ:Ti->br V
 |.none=>lD .V8
 |.bool b=>lD (.bl b)
 |.int i _=>lD (.int i)
 |.str x _=>lD (.str x)
 |.bytes b _=>lD (.byt b)
 |.float b _=>lD (.flt b)
 |.ref a=>lD (.ref a)
 |.type n=>lD (.ty n)
 |_=>Th
theorem RelV.abs(r:RelV x u):RQ u=lD x:=by
 cases x with
 |V8=>cases r;rfl
 |bl _=>cases r;rfl
 |int _=>obtain⟨t,rfl⟩:=r;rfl
 |str _=>obtain⟨t,rfl⟩:=r;rfl
 |byt _=>obtain⟨t,rfl⟩:=r;rfl
 |flt _=>obtain⟨t,rfl⟩:=r;rfl
 |ref _=>cases r;rfl
 |ty _=>cases r;rfl
theorem RelV.inj(r:RelV x u)(q:RelV y u):x=y:=TQ (r.abs.symm.trans q.abs)
theorem Vals.inj:∀{xs ys:bg V} {us:bg Ti},Vals xs us->Vals ys us->xs=ys
 |_,_,_,.nil,.nil=>rfl
 |_,_,_,.cons r t,.cons r' t'=>by rw[r.inj r',Vals.inj t t']
section
variable{X:Cx}{Z:bg (Tt×Obj)}{Y:St}{H:Hp}{s:Tv}{a:Tt}{xs ys:bg V}
theorem Ym.of{K:Tg}(h:H a=lD (.lst xs)):Ym K H a xs:=.inl (.inl h)
theorem XY.of{K:Tg}(h:H a=lD (.tup xs)):XY K H a xs:=.inl (.inl h)
theorem Inv.list(I:Inv X Z Y H s)(h:Ym X.K H a xs):∃Uz:bg Ti,Vals xs Uz/\PlainL s.heap a Uz.toArray/\xs.length<=TL:=by
 rcases h with h|⟨o,Uz,n,hk,hc,hd,hs,hz,r⟩
 .obtain⟨z,Uz,n,r,e⟩:=h.ok I.UW;exact⟨Uz,r,⟨_,n,e,rfl,rfl,rfl⟩,z⟩
 .refine⟨Uz.toList,r,⟨o,n,I.Yu a o hk,hc,hd,by simpa using hs⟩,?_⟩;have e:=r.length;simp only[UM]at e;omega
theorem Inv.tuple(I:Inv X Z Y H s)(h:XY X.K H a xs):∃Uz:bg Ti,Vals xs Uz/\IsTup s.heap a Uz.toArray/\xs.length<=TL:=by
 rcases h with h|⟨o,Uz,n,hk,hc,hs,hz,r⟩
 .obtain⟨z,Uz,r,p⟩:=h.ok I.UW;exact⟨Uz,r,p.tup,z⟩
 .refine⟨Uz.toList,r,⟨o,I.Yu a o hk,hc.1,n,by simpa using hs⟩,?_⟩;have e:=r.length;simp only[UM]at e;omega
theorem Inv.afa(I:Inv X Z Y H s)(h:XY X.K H a xs):∃Uz:bg Ti,Vals xs Uz/\ZQ s.heap a Uz.toArray/\xs.length<=TL:=by
 rcases h with h|⟨o,Uz,n,hk,hc,hs,hz,r⟩
 .obtain⟨z,Uz,r,p⟩:=h.ok I.UW;exact⟨Uz,r,p,z⟩
 .refine⟨Uz.toList,r,⟨o,I.Yu a o hk,⟨hc.1,n,by simpa using hs⟩,hc.2⟩,?_⟩;have e:=r.length;simp only[UM]at e;omega
theorem Inv.adn(I:Inv X Z Y H s)(h:Ym X.K H a xs)(h':Ym X.K H a ys):xs=ys:=by
 obtain⟨j,r,⟨o,n,e,_,_,d⟩,_⟩:=I.list h;obtain⟨b,i,⟨l,m,f,_,_,g⟩,_⟩:=I.list h';rw[e]at f;cases f;rw[d]at g;injection g with d1 _;have:j=b:=by simpa using dw aeQ d1
 subst this;exact r.inj i
theorem Inv.acI(I:Inv X Z Y H s)(h:XY X.K H a xs)(h':XY X.K H a ys):xs=ys:=by
 obtain⟨j,r,⟨o,e,_,n,d⟩,_⟩:=I.tuple h;obtain⟨b,i,⟨l,f,_,m,g⟩,_⟩:=I.tuple h';rw[e]at f;cases f;rw[d]at g;injection g with d1 _;have:j=b:=by simpa using dw aeQ d1
 subst this;exact r.inj i
end
abbrev Cx.YI(X:Cx)(E:Ti->Tv->Prop):Cx:={X with xe:=E}
abbrev Cx.nox(X:Cx):Cx:=X.YI λ_ _=>False
theorem Cx.Ok.YI{X:Cx}(ok:X.Ok)(E:Ti->Tv->Prop):(X.YI E).Ok:=
 ⟨ok.mod,ok.kind,ok.glob,ok.blt,ok.above,ok.inj,ok.has,ok.cab,ok.hd,ok.frames,ok.stk,ok.exf,ok.bs,ok.bsz,ok.abm,ok.abg,ok.Y0,ok.frf⟩
theorem Cx.Ok.Xw{X:Cx}(ok:(X.YI E).Ok):X.Ok:=
 ⟨ok.mod,ok.kind,ok.glob,ok.blt,ok.above,ok.inj,ok.has,ok.cab,ok.hd,ok.frames,ok.stk,ok.exf,ok.bs,ok.bsz,ok.abm,ok.abg,ok.Y0,ok.frf⟩
section
variable{X:Cx}{Z:bg (Tt×Obj)}{Y:St}{H:Hp}{s:Tv}{E:Ti->Tv->Prop}
theorem Inv.YI(I:Inv X Z Y H s)(E:Ti->Tv->Prop):Inv (X.YI E) Z Y H s:=⟨I.ok.YI E,I.os,I.bare,I.base,I.loc,I.cell,I.free,I.Xe,I.pin,I.UW,I.len⟩
theorem Inv.Xw(I:Inv (X.YI E) Z Y H s):Inv X Z Y H s:=⟨I.ok.Xw,I.os,I.bare,I.base,I.loc,I.cell,I.free,I.Xe,I.pin,I.UW,I.len⟩
theorem SP.Xw(h:SP (X.YI E) Z D f s'):SP X Z D f s':=by
 cases f with
 |next=>obtain⟨a,b,I,q⟩:=h;exact⟨a,b,I.Xw,q⟩
 |brk=>obtain⟨a,b,I,q⟩:=h;exact⟨a,b,I.Xw,q⟩
 |cont=>obtain⟨a,b,I,q⟩:=h;exact⟨a,b,I.Xw,q⟩
 |ret u=>obtain⟨v,a,b,I,r,q⟩:=h;exact⟨v,a,b,I.Xw,r,q⟩
theorem Zl.nox{st:bg VH}(h:Zl X.nox st t):Zl X st t:=λZ s Y H D I a=>
 wpAny_mono (h Z s Y H D (I.YI _) a) (λ_ _ q=>q.Xw) λ_ _ z=>False.elim z
end
section
variable{X:Cx}{st:VH}{Z:bg VH}{t u:TS}{e:UD}{te:TE}{pos:Pos}
def Hr:TS:=λD a H=>D.nx a H
def La(t u:TS):TS:=λD a H=>t {D with nx:=u D} a H
theorem gh:Zl X [] Hr:=λ_ _ a H _ I h=>XG ⟨a,H,I,h⟩
theorem am(l:PS X st t)(j:Zl X Z u):Zl X (st::Z) (La t u):=by
 intro a s g H D I h;refine af8 (cz (l a s g H {D with nx:=u D} I h) λf i q=>?_);cases f with
 |next=>obtain⟨b,n,m,q⟩:=q;exact j a i b n D m q
 |ret v=>exact q
 |brk=>exact q
 |cont=>exact q
theorem aI(g:PS X st t):Zl X [st] t:=by
 intro a s b H D I h;refine af8 (cz (g a s b H D I h) λf i q=>?_);cases f with
 |next=>exact XG q
 |ret v=>exact q
 |brk=>exact q
 |cont=>exact q
theorem Inv.quiet{a:bg (Tt×Obj)}{b:St}{H:Hp}{s:Tv}(I:Inv X a b H s):interactive X.env=Tw:=by simp[interactive,I.ok.kind]
def Cn(te:TE):TS:=λD a H=>te a H λ_ b=>D.nx a b
theorem hV(i:PE X e te)(g:Vg e Th pos.line X.env=pure Tw:=by rfl):PS X (.Expr e pos) (Cn te):=by intro a s b H D I h;exact wpAny_Expr_any (cz (i a s b H _ I h) λv m ⟨x,l,j,n,f⟩=>⟨b,l,j,f⟩) I.quiet g
def Hu(te:TE):TS:=λD a H=>te a H D.rt
theorem cH(i:PE X e te):PS X (.Return (lD e) pos) (Hu te):=by intro a s b H D I h;exact wpAny_Return_some (cz (i a s b H _ I h) λv m ⟨x,l,j,f,g⟩=>⟨x,b,l,j,f,g⟩)
def My:TS:=λD _ H=>D.rt .V8 H
theorem Kz:PS X (.Return Th pos) My:=λ_ _ a H _ I h=>wpAny_Return_none ⟨.V8,a,H,I,rfl,h⟩
def NQ(c:TT)(t u:TS):TS:=λD a H=>c a H λb f=>if b=To then t D a f else u D a f
theorem kJ(n:PT X c tc)(ha:Zl X a t)(o:Zl X b u):PS X (.If c a b pos) (NQ tc t u):=by
 intro f s g H D I h;refine wpAny_If (cz (n f s g H _ I h) λd i ⟨m,l,j⟩=>?_);cases d with
 |true=>exact ha f i g m D l j
 |false=>exact o f i g m D l j
end
abbrev TG:=V->St->Hp->(St->Hp->Prop)->Prop
abbrev PL:=bg V->St->Hp->(St->Hp->Prop)->Prop
def PG(X:Cx)(a:UD)(t:TG):Prop:=
 ∀(b:bg (Tt×Obj)) (s:Tv) (e:St) (H:Hp) (v:V) (u:Ti) (Q:St->Hp->Prop),Inv X b e H s->RelV v u->t v e H Q->
  wpAny (model X.prog X.w) X.A (assign a X.env u) (λ_ f=>∃σ' H',Inv X b σ' H' f/\Q σ' H') X.xe s
def Ro(X:Cx)(f:bg UD)(t:PL):Prop:=
 ∀(a:bg (Tt×Obj)) (s:Tv) (b:St) (H:Hp) (vs:bg V) (e:bg Ti) (Q:St->Hp->Prop),Inv X a b H s->Vals vs e->t vs b H Q->
  wpAny (model X.prog X.w) X.A (assignInOrder ((assignEach f X.env).map (·.2)) e) (λ_ g=>∃σ' H',Inv X a σ' H' g/\Q σ' H') X.xe s
abbrev Sd:=V->V->Hp->VK->Prop
def Sr(X:Cx)(op:Operator)(t:Sd):Prop:=
 ∀(a:bg (Tt×Obj)) (s:Tv) (b:St) (H:Hp) (x y:V) (v u:Ti) (Q:VK),Inv X a b H s->RelV x v->RelV y u->t x y H Q->
  wpAny (model X.prog X.w) X.A (inplaceOp op v u) (EP X a b Q) X.xe s
section
variable{X:Cx}{pos:Pos}
def zO(i:Nat):TG:=λv a H Q=>Q (a.set i (lD v)) H
theorem bF(hN:X.N.Nodup)(hi:X.N[i]?=lD x)(hx:Q5 X.env.scope x)(hf:X.fn x=To\/X.env.scope.names.lookup x=lD .local:=by first|exact .inl rfl|exact .inr rfl|assumption):PG X (.Name x pos) (zO i):=by intro pins s σ H v u Q I r h;exact afB (nZ I hN hi hx r (λs' I'=>⟨_,H,I',h⟩) hf)
def Ox:PL:=λvs a H Q=>vs=[]/\Q a H
def Gb(t:TG)(u:PL):PL:=λvs b H Q=>∃v r,vs=v::r/\t v b H λa e=>u r a e Q
theorem om:Ro X [] Ox:=by intro a s b H vs f Q I r h;obtain⟨e,h⟩:=h;subst e;cases r;exact assignInOrder_nil ⟨b,H,I,h⟩
theorem fC(n:PG X e t)(m:Ro X es u)
  (l:(assignEach (e::es) X.env).map (·.2)=assign e X.env::(assignEach es X.env).map (·.2):=by rfl):Ro X (e::es) (Gb t u):=by
 intro a s f H vs y Q I r h;obtain⟨v,w,o,h⟩:=h;subst o;cases r with
 |cons r i=>rw[l];refine assignInOrder_cons (cz (n a s f H _ _ _ I r h) λ_ g ⟨b,q,p,j⟩=>?_);exact m a g b q _ _ Q p i j
def PM(K:Tg)(n:Nat)(t:PL):TG:=λv b H Q=>∃a xs,v=.ref a/\XY K H a xs/\xs.length=n/\t xs b H Q
theorem su(q:X.calm=To)(h:Ro X es t)
  (hn:(assignEach es X.env).length=n:=by rfl) (dX:(assignEach es X.env).findIdx? (·.1)=Th:=by rfl):PG X (.Tuple es k pos) (PM X.K n t):=by
 intro f s i H v u Q I r g;obtain⟨a,xs,w,m,p,g⟩:=g;subst w;cases r;obtain⟨C,rv,l,A⟩:=I.tuple m;refine assign_Tuple_tuple (I.ok.hd q) l (by simp[hn,<-p,rv.length]) dX λB j=>?_;have y:=I.kept (t':=s.toks) λb o e=>j b o (T8 (bP e)) e;exact h f _ i H xs _ Q y (by simpa using rv) g
def Hn(te:TE)(g:TG):TS:=λD a H=>te a H λx b=>g x a b D.nx
theorem NB(o:PE X e te)(n:PG X tg g)(m:swapsWithSole [tg] e pos.line X.env=pure Tw:=by rfl)(l:swappedStores [tg] e X.env=pure Th:=by rfl)
  (p:(assignEach [tg] X.env).map (·.2)=[assign tg X.env]:=by rfl):PS X (.Assign [tg] e pos) (Hn te g):=by
 intro a s b H D I h;refine wpAny_Assign_stores (cz (o a s b H _ I h) λv f ⟨x,t,r,i,j⟩=>?_) m l;rw[p];exact cz (n a f b t x v _ r i j) λ_ u q=>q
theorem cQ{i:Nat}{x:Str}{e:UD}{te:TE}{pos':Pos}(hN:X.N.Nodup)(hi:X.N[i]?=lD x)(hx:Q5 X.env.scope x)(he:PE X e te)(hs:Vg e (lD (.Name x pos')) pos.line X.env=pure Tw:=by rfl)(hf:X.fn x=To\/X.env.scope.names.lookup x=lD .local:=by first|exact .inl rfl|exact .inr rfl|assumption):
  PS X (.Assign [.Name x pos'] e pos) (Hn te (zO i)):=by
 intro pins s σ H D I h;refine wpAny_Assign_Name (cz (he pins s σ H _ I h) λv s1 ⟨y,H1,I1,r1,q1⟩=>?_) hs;exact nZ I1 hN hi hx r1 (λs2 I2=>⟨_,H1,I2,q1⟩) hf
def QZ(i:Nat)(te:TE)(b:Sd):TS:=λD a H=>∃x,a[i]?=lD (lD x)/\te a H λy f=>b x y f λz e=>D.nx (a.set i (lD z)) e
theorem Pg(hN:X.N.Nodup)(hi:X.N[i]?=lD x)(hx:Q5 X.env.scope x)(he:PE X e te)(ho:Sr X op ti)(hf:X.fn x=To\/X.env.scope.names.lookup x=lD .local:=by first|exact .inl rfl|exact .inr rfl|assumption):
  PS X (.AugAssign (.Name x pos') op e pos) (QZ i te ti):=by
 intro pins s σ H D I h;obtain⟨v,e1,h⟩:=h;obtain⟨m,hn,hl⟩:=I.loc;have vis:RA X.env.scope x:=by rcases hx with k|k;exact .inl k;exact .inr (.inl k)
 obtain⟨u,r,l⟩:=hl i x v hi e1 vis;refine wpAny_AugAssign_Name ?_;have go:wpAny (model X.prog X.w) X.A (eval e X.env) (λw s₂=>wpAny (model X.prog X.w) X.A (inplaceOp op u w) (λr s₃=>wpAny (model X.prog X.w) X.A (storeName X.env x r) (λ_=>SP X pins D .next) X.xe s₃) X.xe s₂) X.xe s:=by refine cz (he pins s σ H _ I h) λw s1 ⟨y,H1,I1,r1,q1⟩=>?_;refine cz (ho pins s1 σ H1 v y u w _ I1 r r1 q1) λz s2 ⟨zv,H2,I2,r2,q2⟩=>?_;exact nZ I2 hN hi hx r2 (λs3 I3=>⟨_,H2,I3,q2⟩) hf
 rcases l with⟨hk,hm⟩|⟨hk,c,hc,acn⟩
 .exact adR I.ok.kind hk hn hm go
 .rcases hk with hk|hk
  .exact aeq I.ok.kind hk hc acn go
  .rcases hx with k|k
   .have:X.env.scope.names.lookup x=lD .free:=hk;rw[k]at this;cases this
   .have:X.env.scope.names.lookup x=lD .free:=hk;rw[k]at this;cases this
def SG(f:Int->Int->Int):Sd:=λx y H Q=>∃i j,x=.int i/\y=.int j/\Q (.int (f i j)) H
theorem NP:Sr X .Add (SG λi j=>i+j):=by intro a s l H x y v u Q I e b h;obtain⟨i,j,g,f,q⟩:=h;subst g;subst f;obtain⟨t,rfl⟩:=e;obtain⟨m,rfl⟩:=b;exact iadd_int ⟨.int _,H,I.tok _,⟨_,rfl⟩,q⟩
end
section
variable{X:Cx}{pos:Pos}
def Hg(c:TT)(tb:TS):TS:=λD a H=>∃W:Nat->St->Hp->Prop,(∃m,W m a H)/\∀m a H,W m a H->
 c a H λb e=>if b=To then∃N:St->Hp->Prop,(∀σ' H',N σ' H'->∃m',m'<m/\W m' σ' H')/\tb {D with nx:=N,ct:=N,bk:=D.nx} a e else D.nx a e
theorem yy(q:Xq (model X.prog X.w) X.A X.env X.xe)(L:PT X c tc)(M:Zl X body tb):PS X (.While c body [] pos) (Hg tc tb):=by
 intro e s B H D I h;obtain⟨W,⟨K,E⟩,turn⟩:=h;refine wpAny_While (codeAny_whileLoop (λn J=>∃σ' H',Inv X e σ' H' J/\W n σ' H') ?_ K ⟨B,H,I,E⟩);rintro n G ⟨g,y,O,C⟩;refine Wk q (cz (L e G g y _ O (turn n g y C)) λb F ⟨u,t,l⟩=>?_);cases b with
 |true=>
  obtain⟨N,r,l⟩:=l;rw[av rfl];refine Wk q (cz (M e F g u _ t l) λf P j=>?_);cases f with
  |next=>obtain⟨a,i,I3,o⟩:=j;obtain⟨p,hm,m⟩:=r a i o;exact⟨p,hm,a,i,I3,m⟩
  |cont=>obtain⟨a,i,I3,o⟩:=j;obtain⟨p,hm,m⟩:=r a i o;exact⟨p,hm,a,i,I3,m⟩
  |brk=>exact j
  |ret v=>exact j
 |false=>rw[ax TV];exact XG ⟨g,u,t,l⟩
end
structure It where
 go:Nat->Hp->Prop
 yld:Nat->Hp->V->Hp->Prop
 stop:Nat->Hp->Prop
def pV(X:Cx)(a:bg (Tt×Obj))(H:Hp)(b:Tt):Prop:=
 H b=Th/\b≠X.env.locals/\b∉X.fs/\(b∈X.ex\/X.s₀.heap.objs.size<=b)/\(∀x c,X.env.cells.lookup x=lD c->c≠b)/\∀p∈X.pn++a,p.1≠b
theorem Inv.abN(I:Inv X pins σ H s)(a:s.heap.objs.size<=b)(hn:H' b=Th):pV X pins H' b:=by
 refine⟨hn,U4 (T9 I.lt a),I.aiH a,.inr (Uv I.sz a),λx c e z=>?_,λp f z=>?_⟩
 .obtain⟨v,q⟩:=I.cell x c e;exact a6 (T9 q.lt (by rw[z];exact a)) (Vo _)
 .exact a6 (T9 (bP (I.pin p f).1) (by rw[z];exact a)) (Vo _)
structure Turn(P:T5)(w:Uu)(K:Tg)(tg:UD)(J:It)(fp:bg Tt)(it:Tt)(tn:Nat->Heap->Prop):Prop where
 mem:it∈fp
 obj:∀i h,tn i h->∀b∈fp,∃o,h.get? b=lD o/\∀v,o.data≠.cell v
 keep:∀i h h',tn i h->(∀b∈fp,∀o,h.get? b=lD o->h'.get? b=lD o)->tn i h'
 item:∀(X:Cx),X.prog=P->X.w=w->X.K=K->X.calm=To->∀(i:Nat) (pins:bg (Tt×Obj)) (s:Tv) (σ:St) (H:Hp) (E:Ti->Tv->Prop),Inv X pins σ H s->(∀b∈fp,pV X pins H b)->tn i s.heap->J.go i H->
  wpAny (model P w) X.A (pyNext (.ref it)) (λr s1=>∃u,r=lD u/\
   wpAny (model P w) X.A (letOwnedTupleGo tg (.ref it) u) (λ_ s2=>∃x H',Inv X pins σ H' s2/\RelV x u/\J.yld i H x H'/\tn (i+1) s2.heap/\∀b∈fp,H' b=Th) E s1) E s
 done:∀(X:Cx),X.prog=P->X.w=w->X.K=K->X.calm=To->∀(i:Nat) (pins:bg (Tt×Obj)) (s:Tv) (σ:St) (H:Hp) (E:Ti->Tv->Prop),Inv X pins σ H s->(∀b∈fp,pV X pins H b)->tn i s.heap->J.stop i H->
  wpAny (model P w) X.A (pyNext (.ref it)) (λr s1=>r=Th/\Inv X pins σ H s1) E s
 self:∀(A:Uk) (i:Nat) (s:Tv) (Q:Ti->Tv->Prop) (E:Ti->Tv->Prop),tn i s.heap->Q (.ref it) s->wpAny (model P w) A (pyIter (.ref it)) Q E s
abbrev TI:=St->Hp->(It->Hp->Prop)->Prop
def SX(X:Cx)(a:bg (Tt×Obj))(l:St)(m:UD)(R:It->Hp->Prop)(e:Ti)(h:Tv):Prop:=
 ∃(i:Tt) (j:bg Tt) (g:Nat->Heap->Prop) (J:It) (f:Hp),e=.ref i/\Inv X a l f h/\Turn X.prog X.w X.K m J j i g/\g 0 h.heap/\(∀b∈j,pV X a f b)/\R J f
def PI(X:Cx)(g b:UD)(f:TI):Prop:=
 ∀(a:bg (Tt×Obj)) (s:Tv) (e:St) (H:Hp) (R:It->Hp->Prop),Inv X a e H s->f e H R->
  wpAny (model X.prog X.w) X.A (eval b X.env) (λv h=>wpAny (model X.prog X.w) X.A (pyIter v) (SX X a e g R) X.xe h) X.xe s
theorem DC{M:abC}{A:Uk}{E:Ti->Tv->Prop}{s:Tv}{b:UD}{e:Tt}{u:Ti}{o:Obj}{n:String}{vs:Array Ti}{Q:Unit->Tv->Prop}(f:s.heap.get? e=lD o)(g:o.cls=.type n)(hd:o.data=.fields vs)
  (hn:["enumerate","zip","dict_itemiterator","dict_reverseitemiterator","odict_iterator","itertools.zip_longest","itertools.pairwise"].contains n=Tw) (a:Q () s):wpAny M A (letOwnedTupleGo b (.ref e) u) Q E s:=by
 unfold letOwnedTupleGo;cases b<;>first
  |exact Tr a
  |(cases u<;>first
    |exact Tr a
    |(refine Ld (aeR f ?_)
      rw[g,hd];show wpAny M A (if(["enumerate","zip","dict_itemiterator","dict_reverseitemiterator","odict_iterator","itertools.zip_longest","itertools.pairwise"].contains n&&vs[0]? ==lD (rawInt _))=To then _ else _) Q E s;rw[ax (by intro h;rw[hn,YJ]at h;cases h)];exact Tr a))
def Sa(K:Tg)(a:Tt):It:=
 ⟨λi H=>∃xs x,Ym K H a xs/\xs[i]?=lD x,λi H x b=>b=H/\∀xs,Ym K H a xs->xs[i]?=lD x,λi H=>∃xs,Ym K H a xs/\xs.length<=i⟩
def Ss(K:Tg)(a:Tt):It:=
 ⟨λi H=>∃xs x,XY K H a xs/\xs[i]?=lD x,λi H x b=>b=H/\∀xs,XY K H a xs->xs[i]?=lD x,λi H=>∃xs,XY K H a xs/\xs.length<=i⟩
def RO(lo:Int)(n:Nat):It:=⟨λi _=>i<n,λi H x a=>a=H/\x=.int (lo+i),λi _=>n<=i⟩
theorem DW{K:Tg}(a g:Tt):Turn P w K tg (Sa K a) [g] g (λi h=>h.IsListIter g a i) where
 mem:=by simp
 obj:=λi h f b j=>by
  have e:b=g:=by simpa using j
  subst e;obtain⟨o,e,c,d⟩:=f;exact⟨o,e,λv z=>by rw[d]at z;cases z⟩
 keep:=λi h N f k=>f.at λo e=>k g (by simp) o e
 item:=by intro X A t B M i m s O H E I q f y;subst A t B;obtain⟨xs,x,n,r⟩:=y;obtain⟨Uz,rv,p,S⟩:=I.list n;obtain⟨u,U,R⟩:=rv.get r;obtain⟨L,J,Y,G,F,C⟩:=q g (by simp);refine acY f p.isList (by simpa using U) λN l Q=>?_;have I1:=I.turned (t':=s.toks) (λb o j e=>(Q.2 b j).trans e) L J G F C;obtain⟨o,e,c,d⟩:=id l;exact⟨u,rfl,DC e c d (by decide) ⟨x,H,I1,R,⟨rfl,λys T=>by rw[I.adn T n];exact r⟩,l,λb j=>(q b j).1⟩⟩
 done:=by intro X A t B M i m s O H E I q f y;subst A t B;obtain⟨xs,n,r⟩:=y;obtain⟨Uz,rv,p,S⟩:=I.list n;obtain⟨L,J,Y,G,F,C⟩:=q g (by simp);have hl:=rv.length;exact adD (I.ok.hd M) f p.isList (by simp;omega) λN Z=>⟨rfl,I.turned (λb o j e=>Z b o j e) L J G F C⟩
 self:=λ_ _ _ _ _ f h=>adE f h
theorem AA{K:Tg}(a g:Tt):Turn P w K tg (Ss K a) [g] g (λi h=>h.IsTupleIter g a i) where
 mem:=by simp
 obj:=λi h f b j=>by
  have e:b=g:=by simpa using j
  subst e;obtain⟨o,e,c,d⟩:=f;exact⟨o,e,λv z=>by rw[d]at z;cases z⟩
 keep:=λi h O f k=>f.at λo e=>k g (by simp) o e
 item:=by intro X A t B N i m s Q H E I q f y;subst A t B;obtain⟨xs,x,n,r⟩:=y;obtain⟨M,rv,p,T⟩:=I.tuple n;obtain⟨u,Y,S⟩:=rv.get r;obtain⟨L,J,Z,G,F,C⟩:=q g (by simp);refine wpAny_pyNext_tuple_item f (show s.heap.IsTuple a M.toArray from p) (by simpa using Y) λO l R=>?_;have I1:=I.turned (t':=s.toks) (λb o j e=>(R.2 b j).trans e) L J G F C;obtain⟨o,e,c,d⟩:=id l;exact⟨u,rfl,DC e c d (by decide) ⟨x,H,I1,S,⟨rfl,λys U=>by rw[I.acI U n];exact r⟩,l,λb j=>(q b j).1⟩⟩
 done:=by intro X A t B N i m s Q H E I q f y;subst A t B;obtain⟨xs,n,r⟩:=y;obtain⟨M,rv,p,T⟩:=I.tuple n;obtain⟨L,J,Z,G,F,C⟩:=q g (by simp);have hl:=rv.length;exact wpAny_pyNext_tuple_end (I.ok.hd N) f (show s.heap.IsTuple a M.toArray from p) (by simp;omega) λO eb=>⟨rfl,I.turned (λb o j e=>eb b o j e) L J G F C⟩
 self:=λ_ _ _ _ _ f h=>wpAny_pyIter_tupleiter f h
theorem Ba{K:Tg}(g:Tt)(lo:Int)(n:Nat):Turn P w K tg (RO lo n) [g] g (λi h=>IsRangeIter h g (lo+(i:Nat)*1) ((n:Int) - (i:Nat)) 1) where
 mem:=by simp
 obj:=λi h a b j=>by
  have e:b=g:=by simpa using j
  subst e;exact⟨_,a,λv z=>by have M:=z;cases M⟩
 keep:=λi h A a k=>k g (by simp) _ a
 item:=by intro X u p y r i f s L H E I m a q;subst u p y;obtain⟨J,G,R,F,C,B⟩:=m g (by simp);have W:=Walks.range (prog:=X.prog) (w:=X.w) (I.ok.hd r) g lo 1 n;refine W.item i s _ _ q a λv A N Q l O=>?_;obtain⟨t,rfl⟩:=Q;have T:Inv X f L H {s with heap:=A,toks:=N}:=I.turned (λb o j e=>O b o (by simpa using j) e) J G F C B;refine⟨_,rfl,DC l rfl rfl (by decide) ⟨.int (lo+i),H,T,⟨t,?_⟩,⟨rfl,rfl⟩,l,λb j=>(m b j).1⟩⟩;rw[Int.mul_one]
 done:=by intro X u p y r i f s L H E I m a q;subst u p y;obtain⟨J,G,R,F,C,B⟩:=m g (by simp);exact wpAny_pyNext_range_end (I.ok.hd r) a (by have:n<=i:=q;omega) λA S=>⟨rfl,I.turned (λb o j e=>S b o j e) J G F C B⟩
 self:=λ_ _ _ _ _ a h=>wpAny_pyIter_rangeiter a h
section
variable{X:Cx}{Z:UD}
theorem Hm{a:bg (Tt×Obj)}{f:St}{H:Hp}{s:Tv}{R:It->Hp->Prop}{E:Ti->Tv->Prop}{lo hi:Int}{t u v:Tok}{g:Nat}(I:Inv X a f H s)(n: -(2^62)<=lo)(m:lo<2^62)(l: -(2^62)<=hi)(j:hi<2^62)
  (q:R (RO lo (hi - lo).toNat) H):wpAny (model X.prog X.w) X.A (pyIter (.ref s.heap.objs.size)) (SX X a f Z R) E {s with heap:=s.heap.push {cls:=.type "range",data:=.fields #[.int lo t,.int hi u,.int 1 v]},toks:=g}:=by
 refine wpAny_pyIter_range (IsRange.new ..) (small_one n m l j) ?_;have h:Inv X a f H {s with heap:=s.heap.push {cls:=.type "range",data:=.fields #[.int lo t,.int hi u,.int 1 v]},toks:=g}:=I.kept λb o e=>bt _ e;refine⟨(s.heap.push {cls:=.type "range",data:=.fields #[.int lo t,.int hi u,.int 1 v]}).objs.size,[(s.heap.push {cls:=.type "range",data:=.fields #[.int lo t,.int hi u,.int 1 v]}).objs.size],_,_,H,rfl,
  h.kept (t':=g) λb o e=>bt _ e,Ba _ lo (hi - lo).toNat,?_,λb i=>?_,q⟩
 .have r:lo+((0:Nat):Int)*1=lo:=by simp
  have p:(((hi - lo).toNat:Nat):Int) - ((0:Nat):Int)=Ul.Range.rangeSize lo hi 1:=by rw[akm];split<;>omega
  show IsRangeIter _ _ (lo+((0:Nat):Int)*1) ((((hi - lo).toNat:Nat):Int) - ((0:Nat):Int)) 1;rw[r,p];exact b5 _ rfl
 .have e:b=(s.heap.push {cls:=.type "range",data:=.fields #[.int lo t,.int hi u,.int 1 v]}).objs.size:=by simpa using i
  subst e;exact h.abN (TB _) (h.UW.fresh (TB _))
def M4(b:TA):TI:=λa H R=>b a H λvs e=>∃j:Int,vs=[.int j]/\ -(2^62)<=j/\j<2^62/\R (RO 0 j.toNat) e
theorem fR(o:Gl X "range")(hm:X.mg "range"=Th)(ha:PA X [a] ta)(n:Uc [a] X.env=[(Tw,eval a X.env)]:=by rfl):PI X Z (.Call (.Name "range" p) [a] [] pos) (M4 ta):=by
 intro b s g H R I h;refine Call_ (pW I o hm boot_range (W5 (cz (ha pos b s g H _ I h) λv w ⟨vs,y,u,l,f⟩=>?_) n rfl));obtain⟨j,e,f,m,q⟩:=f;subst e;cases l with
 |cons r i=>cases i;obtain⟨t,rfl⟩:=r;exact call_range_1 (Hm u (by omega) (by omega) f m (by simpa using q))
def Gx(e:TI)(g:TG)(tb:TS):TS:=λD a H=>e a H λJ h=>∃W:Nat->Nat->St->Hp->Prop,(∃m,W 0 m a h)/\∀i m a H,W i m a H->
 (J.stop i H/\D.nx a H)\/(J.go i H/\∃N:St->Hp->Prop,(∀σ' H',N σ' H'->∃m',m'<m/\W (i+1) m' σ' H')/\∀x H',J.yld i H x H'->g x a H' λb f=>tb {D with nx:=N,ct:=N,bk:=D.nx} b f)
def sX(fp:bg Tt)(h:Heap):bg (Tt×Obj):=fp.filterMap λb=>(h.get? b).map λo=>(b,o)
theorem jX(a:b∈fp)(e:h.get? b=lD o):(b,o)∈sX fp h:=XA.mpr ⟨b,a,by rw[e];rfl⟩
theorem Ek(a:p∈sX fp h):p.1∈fp/\h.get? p.1=lD p.2:=by
 obtain⟨b,f,e⟩:=XA.mp a;cases q:h.get? b with
 |none=>rw[q]at e;cases e
 |some o=>rw[q]at e;have g:=TQ e;subst g;exact⟨f,q⟩
theorem Inv.pinned(I:Inv X pins σ H s)(i:∀b∈fp,pV X pins H b)(h:∀b∈fp,∃o,s.heap.get? b=lD o/\∀v,o.data≠.cell v):Inv X (pins++sX fp s.heap) σ H s:=
 I.aaY λp g=>(Uy.mp g).elim (λz=>I.pin p (Uh _ z)) λz=>by obtain⟨a,e⟩:=Ek z;obtain⟨m,l,j,_⟩:=i p.1 a;obtain⟨o,f,d⟩:=h p.1 a;rw[e]at f;cases f;exact⟨e,m,l,j,d⟩
theorem Inv.Zb(I:Inv X (pins++pl) σ H s):Inv X pins σ H s:=I.aaY λp a=>I.pin p (Uh _ (UK _ a))
theorem mO(M:Xq (model X.prog X.w) X.A X.env X.xe)(hc:X.calm=To)(hi:PI X Z iter wi)(hg:PG X Z g)(p:Zl X body tb)
  (hs:∀x,foldedSetIterable iter X.env x=pure x:=by intro _;rfl):PS X (.For Z iter body [] pos) (Gx wi g tb):=by
 intro j s σ H D I h;refine wpAny_For (cz (hi j s σ H _ I h) λv s1 h1=>cz h1 λitv s2 h2=>?_) hs;obtain⟨it,P,tn,J,H2,e,I2,T,S,f2,W,⟨m0,w0⟩,turn⟩:=h2;subst e;have F:∀{B:Hp},(∀b∈P,B b=Th)->∀b∈P,pV X j B b:=λhn b p=>⟨hn b p,(f2 b p).2⟩;refine codeAny_forLoop_any (λn s'=>∃i σ' B,Inv X j σ' B s'/\tn i s'.heap/\(∀b∈P,B b=Th)/\W i n σ' B) ?_ m0 ⟨0,σ,H2,I2,S,λb p=>(f2 b p).1,w0⟩;rintro n s3 ⟨i,l,Q,I3,K,O,w3⟩;rcases turn i n l Q w3 with⟨G,qn⟩|⟨go,N,hN,step⟩
 .refine Wk M (cz (T.done X rfl rfl rfl hc i j s3 l Q X.xe I3 (F O) K G) λr s4 ⟨Y,I4⟩=>?_);subst Y;exact XG ⟨l,Q,I4,qn⟩
 .refine Wk M (cz (T.item X rfl rfl rfl hc i j s3 l Q X.xe I3 (F O) K go) λr s4 ⟨u,Y,h4⟩=>?_)
  subst Y;refine Wk M (cz h4 λ_ s5 ⟨x,H5,I5,r5,y5,E,fr5⟩=>?_);have I5':=I5.pinned (F fr5) (T.obj _ _ E);refine Wk M (cz (hg _ s5 l H5 x u _ I5' r5 (step x H5 y5)) λ_ s6 ⟨R,H6,I6,q6⟩=>?_);refine Wk M (cz (p _ s6 R H6 _ I6 q6) λf U C=>?_);have q:∀{a:St} {y:Hp},Inv X (j++sX P s5.heap) a y U->N a y->∃m,m<n/\∃i σ' B,Inv X j σ' B U/\tn i U.heap/\(∀b∈P,B b=Th)/\W i m σ' B:=λ{a y} t L=>by obtain⟨m',hm,w7⟩:=hN a y L;refine⟨m',hm,i+1,a,y,t.Zb,T.keep _ _ _ E λb p o e=>(t.pin (b,o) (Uh _ (Uh _ (jX p e)))).1,λb p=>?_,w7⟩;obtain⟨o,e,d⟩:=T.obj _ _ E b p;exact(t.pin (b,o) (Uh _ (Uh _ (jX p e)))).2.1
  cases f with
  |next=>obtain⟨a,y,t,L⟩:=C;exact q t L
  |cont=>obtain⟨a,y,t,L⟩:=C;exact q t L
  |brk=>obtain⟨a,y,t,C⟩:=C;exact⟨a,y,t.Zb,C⟩
  |ret v=>obtain⟨x7,a,y,t,r7,C⟩:=C;exact⟨x7,a,y,t.Zb,r7,C⟩
end
abbrev R2:=V->V->Hp->VK->Prop
def OpR(X:Cx)(f:Ti->Ti->Sem Ti)(r:R2):Prop:=
 ∀(a:bg (Tt×Obj)) (s:Tv) (b:St) (H:Hp) (x y:V) (v u:Ti) (Q:VK),Inv X a b H s->RelV x v->RelV y u->r x y H Q->
  wpAny (model X.prog X.w) X.A (f v u) (EP X a b Q) X.xe s
def Wj(X:Cx)(f:Ti)(r:bg V->Hp->VK->Prop):Prop:=
 ∀(a:bg (Tt×Obj)) (s:Tv) (b:St) (H:Hp) (xs:bg V) (e:bg Ti) (Q:VK),Inv X a b H s->Vals xs e->r xs H Q->
  wpAny (model X.prog X.w) X.A (call f e) (EP X a b Q) X.xe s
def Jm(r:R2)(b tb:TE):TE:=λa H Q=>b a H λx f=>tb a f λy e=>r x y e Q
def rI(C:Int->Int->Prop)(g:Int->Int->V):R2:=λx y H Q=>∃i j,x=.int i/\y=.int j/\C i j/\Q (g i j) H
def CW(g:Int->Int->V):R2:=λx y H Q=>∃i j,x=.int i/\y=.int j/\Q (g i j) H
section
variable{X:Cx}{a b c:UD}{Z tb tc:TE}{pos:Pos}
theorem NJ(ha:PE X a Z)(n:PE X b tb){R:V->V->Hp->Prop}(I:Inv X pins σ H s)
  (h:Z σ H λx H1=>tb σ H1 λy H2=>R x y H2) {f:Ti->Ti->Sem Ti}
  (m:∀v u s2 x y H2,Inv X pins σ H2 s2->RelV x v->RelV y u->R x y H2->wpAny (model X.prog X.w) X.A (f v u) Q X.xe s2):
  wpAny (model X.prog X.w) X.A (eval a X.env) (λv s₁=>wpAny (model X.prog X.w) X.A (eval b X.env) (λu s₂=>wpAny (model X.prog X.w) X.A (f v u) Q X.xe s₂) X.xe s₁) X.xe s:=by
 refine cz (ha pins s σ H _ I h) λv e ⟨x,H1,p,i,l⟩=>?_;refine cz (n pins e σ H1 _ p l) λu s2 ⟨y,H2,o,g,j⟩=>?_;exact m v u s2 x y H2 o i g j
theorem kj(l:OpR X (Wl op) r)(ha:PE X a Z)(m:PE X b tb):PE X (.BinOp a op b pos) (Jm r Z tb):=by intro e s f H Q I h;exact wpAny_BinOp (NJ ha m I h λv u g x y o n j i q=>l e g f o x y v u Q n j i q)
theorem Sz{g:Int->Int->Int}
  (e:∀(i j:Int) (t u:Tok) (s:Tv) (Q:Ti->Tv->Prop) (E:Ti->Tv->Prop),C i j->Q (.int (g i j) s.toks) {s with toks:=s.toks+1}->wpAny (model X.prog X.w) X.A (f (.int i t) (.int j u)) Q E s):
  OpR X f (rI C λi j=>.int (g i j)):=by
 intro l s r H x y v u Q I o n h;obtain⟨i,j,rfl,rfl,p,q⟩:=h;obtain⟨t,rfl⟩:=o;obtain⟨m,rfl⟩:=n;exact e i j t m s _ _ p ⟨.int (g i j),H,I.tok _,⟨_,rfl⟩,q⟩
theorem QL{g:Int->Int->Int}
  (e:∀(i j:Int) (t u:Tok) (s:Tv) (Q:Ti->Tv->Prop) (E:Ti->Tv->Prop),Q (.int (g i j) s.toks) {s with toks:=s.toks+1}->wpAny (model X.prog X.w) X.A (f (.int i t) (.int j u)) Q E s):
  OpR X f (CW λi j=>.int (g i j)):=by
 intro l s p H x y v u Q I o n h;obtain⟨i,j,rfl,rfl,q⟩:=h;obtain⟨t,rfl⟩:=o;obtain⟨m,rfl⟩:=n;exact e i j t m s _ _ ⟨.int (g i j),H,I.tok _,⟨_,rfl⟩,q⟩
theorem NO{g:Int->Int->Bool}
  (e:∀(i j:Int) (t u:Tok) (s:Tv) (Q:Ti->Tv->Prop) (E:Ti->Tv->Prop),Q (.bool (g i j)) s->wpAny (model X.prog X.w) X.A (f (.int i t) (.int j u)) Q E s):
  OpR X f (CW λi j=>.bl (g i j)):=by
 intro l s p H x y v u Q I o n h;obtain⟨i,j,rfl,rfl,q⟩:=h;obtain⟨t,rfl⟩:=o;obtain⟨m,rfl⟩:=n;exact e i j t m s _ _ ⟨.bl (g i j),H,I,rfl,q⟩
def aee(i j:Int):Prop:=(-(2^64)<i/\i<2^64)\/(-(2^64)<j/\j<2^64)
theorem aee.ok(h:aee i j):IntMulOk i j:=by
 rcases h with⟨f,e⟩|⟨f,e⟩
 .exact .of_left (akn f e)
 .exact .of_right (akn f e)
theorem Nt:OpR X (Wl .Add) (CW λi j=>.int (i+j)):=QL λ_ _ _ _ _ _ _ q=>add_int q
theorem OM:OpR X (Wl .Sub) (CW λi j=>.int (i - j)):=QL λ_ _ _ _ _ _ _ q=>sub_int q
theorem NX:OpR X (Wl .Mult) (rI aee λi j=>.int (i*j)):=Sz λ_ _ _ _ _ _ _ e q=>mul_int q e.ok
theorem Oh:OpR X (Wl .Mod) (rI (λ_ j=>0<j) λi j=>.int (i % j)):=Sz λi j _ _ _ _ _ e q=>by have f:(0:Int)<j:=e;exact mod_int' (by omega) (by rw[Int.fmod_eq_emod_of_nonneg i (by omega)];exact q)
end
section
variable{X:Cx}{a b c:UD}{Z tb tc:TE}{pos:Pos}
theorem Jd(I:Inv X pins σ H s)(q:Q (.bl k) H)(e:k=k'):EP X pins σ Q (.bool k') s:=by subst e;exact⟨.bl k,H,I,rfl,q⟩
theorem Cy:OpR X (Vw .Lt) (CW λi j=>.bl (decide (i<j))):=NO λ_ _ _ _ _ _ _ q=>lt_int q
theorem Mr:OpR X (Vw .Gt) (CW λi j=>.bl (decide (j<i))):=NO λ_ _ _ _ _ _ _ q=>gt_int q
theorem No:OpR X (Vw .GtE) (CW λi j=>.bl (decide (j<=i))):=NO λ_ _ _ _ _ _ _ q=>ge_int q
theorem A9:OpR X (Vw .Is) (λx y H Q=>y=.V8/\Q (.bl (decide (x=.V8))) H):=by
 intro f s i H x y v u Q I e g h;obtain⟨rfl,q⟩:=h;cases g;refine is_none_gen (Jd I q ?_);cases x<;>first
  |(cases e;rfl)
  |(obtain⟨t,rfl⟩:=e;rfl)
theorem rF:OpR X (Vw .IsNot) (λx y H Q=>y=.V8/\Q (.bl (!decide (x=.V8))) H):=by
 intro f s i H x y v u Q I e g h;obtain⟨rfl,q⟩:=h;cases g;refine isnot_none_gen (Jd I q ?_);cases x<;>first
  |(cases e;rfl)
  |(obtain⟨t,rfl⟩:=e;rfl)
theorem ei(b:UD)(h:op≠.In:=by decide)(e:op≠.NotIn:=by decide):behindInMarks op b=Tw:=by
 have g:(op==CmpOp.In)=Tw:=by cases op<;>first|rfl|exact a6 rfl h
 have f:(op==CmpOp.NotIn)=Tw:=by cases op<;>first|rfl|exact a6 rfl e
 cases b<;>simp[behindInMarks,g,f]
theorem lH{op:CmpOp}{r:R2}(l:OpR X (Vw op) r)(ha:PE X a Z)(m:PE X b tb)(hm:behindInMarks op b=Tw):PE X (.Compare a [op] [b] pos) (Jm r Z tb):=by intro e s f H Q I h;exact wpAny_Compare1 (NJ ha m I h λv u g x y o n j i q=>l e g f o x y v u Q n j i q) hm
def Ho(t:TE):TT:=λe H Q=>t e H λx f=>∃k,x=.bl k/\Q k f
theorem cX(t:OpR X (Vw op) r)(ha:PE X a Z)(w:PE X b tb)(hm:behindInMarks op b=Tw):PT X (.Compare a [op] [b] pos) (Ho (Jm r Z tb)):=by
 intro f s g H Q I h;refine adC (cz (ha f s g H _ I h) λv j ⟨x,F,B,n,q⟩=>cz (w f j g F _ B q) λu i ⟨y,E,A,m,p⟩=>
  cz (t f i g E x y v u _ A n m p) λc G ⟨z,C,I3,l,k,e,o⟩=>?_) hm
 subst e;cases l;exact Wt ⟨C,I3,o⟩
theorem wy:(TL:Nat)<2^63:=by rw[Vr];decide
theorem iV(r:Vals [x] us):∃u,us=[u]/\RelV x u:=by
 cases r with
 |cons f e=>cases e;exact⟨_,rfl,f⟩
theorem Cj(r:Vals [x,y] us):∃u w',us=[u,w']/\RelV x u/\RelV y w':=by
 cases r with
 |cons h g=>
  cases g with
  |cons f e=>cases e;exact⟨_,_,rfl,h,f⟩
theorem Ej(g:X.calm=To):Wj X (.builtin "max") (λxs H Q=>∃i j,xs=[.int i,.int j]/\Q (.int (if j>i then j else i)) H):=by
 intro f s l H xs n Q I r h;obtain⟨i,j,rfl,q⟩:=h;obtain⟨u,m,rfl,⟨t,rfl⟩,⟨p,rfl⟩⟩:=Cj r;refine max_two_ints (I.ok.hd g) λv o k=>⟨_,H,I.kept k,?_,q⟩;by_cases e:j>i
 .rw[av e,av e];exact⟨_,rfl⟩
 .rw[ax e,ax e];exact⟨_,rfl⟩
def Ku(K:Tg)(x:V)(H:Hp)(n:Nat):Prop:=
 match x with
 |.str y=>y.length<=TL/\n=y.length
 |.byt y=>y.size<=TL/\n=y.size
 |.ref p=>(∃xs,Ym K H p xs/\n=xs.length)\/∃xs,XY K H p xs/\n=xs.length
 |_=>False
theorem gp:Wj X (.builtin "len") (λxs H Q=>∃x n,xs=[x]/\Ku X.K x H n/\Q (.int n) H):=by
 intro m s A H xs B Q I r h;obtain⟨x,n,rfl,e,q⟩:=h;obtain⟨u,rfl,i⟩:=iV r;have E:=wy;have C:=Vr;cases x with
 |str y=>obtain⟨t,rfl⟩:=i;obtain⟨v,g⟩:=e;subst g;exact len_str (by omega) ⟨.int _,H,I.tok _,⟨_,rfl⟩,q⟩
 |byt y=>obtain⟨t,rfl⟩:=i;obtain⟨v,g⟩:=e;subst g;exact PySem.W.len_bytes (by omega) ⟨.int _,H,I.tok _,⟨_,rfl⟩,q⟩
 |ref p=>
  cases i;have g:=e;rcases g with⟨xs,l,g⟩|⟨xs,l,g⟩
  .subst g;obtain⟨w,j,pl,o⟩:=I.list l;have f:=j.length;exact Calls.call_len_list pl.isList (by simp only[TU];omega) ⟨.int xs.length,H,I.tok _,⟨_,by simp only[TU];rw[f]⟩,q⟩
  .subst g;obtain⟨w,j,pl,o⟩:=I.tuple l;have f:=j.length;exact len_tuple pl (by simp only[TU];omega) ⟨.int xs.length,H,I.tok _,⟨_,by simp only[TU];rw[f]⟩,q⟩
 |_=>exact(show False from e).elim
end
structure aca(h:Heap)(x dx C:Tt)(mA:Str->br Ti):Prop where
 obj:h.get? x=lD (VI C dx)
 ns:h.Ns1 dx mA
 ne:dx≠x
theorem vS{h:Heap}(n:h.Ns1 dx mA):∃od,h.get? dx=lD od/\∀name,Yo name od=lD (mA name):=by
 obtain⟨o,f,p,i,l,j,_,hm⟩:=n;refine⟨o,i,λname=>?_⟩;have e:=hm name;unfold nsFind findBy at e;rw[<-acr]at e;unfold Yo;rw[l];dsimp only;split
 .rename_i y q;rw[q]at e;exact dw lD e
 .rename_i q
  rw[q]at e;have a:f.toList.any (·.refKey)=Tw:=by rw[List.any_eq_false];intro y g;obtain⟨z,t,b⟩:=j y (Array.mem_toList_iff.mp g);simp[VN.refKey,b]
  have m:¬f.toList.any (·.refKey)=To:=by rw[a];exact TV
  rw[ax m];exact dw lD e
theorem aca.look(I:aca h x dx C mA):∃od,Yp h x (VI C dx) C (lD od)/\∀name,Yo name od=lD (mA name):=
 let⟨od,ho,hl⟩:=vS I.ns
 ⟨od,⟨I.obj,rfl,rfl,ho⟩,hl⟩
section
variable{prog:T5}{w:Uu}{A:Uk}{E:Ti->Tv->Prop}{s:Tv}{K:Tg}{x dx C f:Tt}{Z:Str->br Ti}{name:Str}{v:Ti}
theorem J3(X:K.In s.heap)(I:aca s.heap x dx C Z)(i:WZ K C name=To)(g:V9 K C=To)
  (ha:Us K (.ref C) name=lD Th) (b:Z name=lD v) (a:acs v=To) (h:Q v {s with toks:=s.toks+1}):
  wpAny (model prog w) A (getAttr (.ref x) name expr) Q E s:=by
 obtain⟨j,J,e⟩:=I.look;exact PySem.W.get_value X J (YG i).1 (PySem.W.findObj_own g ha rfl (by rw[e,b])) a h
theorem FB(X:K.In s.heap)(I:aca s.heap x dx C Z)(a:WZ K C name=To)
  (j:Us K (.ref C) name=lD (lD (.ref f))) (g:Wm K (.ref f)=To) (e:Z name=Th) (h:Q (.ref f,[.ref x]) s):
  wpAny (model prog w) A (getMethod (.ref x) name pl) Q E s:=by
 obtain⟨b,J,i⟩:=I.look;exact PySem.W.method_fn X J (YG a).1 (YG a).2 j (beq_iff_eq.mp g) (by show(Yo name b).map (·.isSome)=lD Tw;rw[i,e];rfl) h
theorem Mc(X:K.In s.heap)(I:aca s.heap x dx C Z)
  (p:Us K (.ref C) "__setattr__"=lD (lD (.builtin "object.__setattr__"))) (q:Y6 K C=To) (o:ZJ K C name=lD Th) (r:V9 K C=To)
  (n:aa6 Z ns) (hsz:ns.length<=TL)
  (h:∀h',aca h' x dx C (λy=>if y=name then lD v else Z y)->Heap.SameBut dx s.heap h'->Q () {s with heap:=h',toks:=s.toks+2}):
  wpAny (model prog w) A (setAttr (.ref x) name v) Q E s:=by
 obtain⟨F,J,H⟩:=I.look;refine PySem.W.set_plain X J p (PySem.W.osa_open X J q o λb=>?_);obtain⟨L,t,i⟩:=PySem.W.any_some r;have m:=I.obj;refine Ld (Tr (Ld (Ld (air m (Ld (af9 (PySem.W.looks_clsIn X t) ?_))))));rw[i];refine Tr (Ld (Tr (Ld ?_)));refine wpAny_nsSet1 I.ns λh' a l=>?_;obtain⟨G,u,B,e,g,j⟩:=a.count (aho name v n);refine Ld (aga e (by rw[g];exact agb (Uv j (by rw[TR];omega))) ?_);exact Tr (h _ ⟨(l.2 _ (db I.ne)).trans I.obj,a,I.ne⟩ l)
theorem G8{R:aaG->Tv->Prop}{vs:bg Ti}{b:bg (Str×Ti)}(X:K.In s.heap)(hm:ZK K C=To)
  (hi:Us K (.ref C) "__init__"=lD (lD (.ref f))) (e:acZ K (.ref f)=lD (.type "function"))
  (h:codeAny (model prog w) (A.under (.builtin "type.__call__" ⟨.ref C::vs,b⟩)) (.call (.ref f) ⟨.ref (s.heap.objs.size+1)::vs,b⟩) (PySem.W.InitBack (s.heap.objs.size+1) R)
   {s with heap:=(s.heap.push U9).push (VI C s.heap.objs.size)}):
  codeAny (model prog w) A (.call (.ref C) ⟨vs,b⟩) R s:=by
 obtain⟨j,g,d,t,i⟩:=s;exact PySem.W.make_core (PySem.W.makes_of X hm) (PySem.W.looks_findIn X hi) (λa=>PySem.W.bind_fn X a e) (.inl rfl) h
end
def jb(f:Str)(v:V):bg (Str×V)->bg (Str×V)
 |[]=>[(f,v)]
 |(g,x)::r=>if g=f then(g,v)::r else(g,x)::jb f v r
theorem qB(f g:Str)(v:V):∀fs:bg (Str×V),(jb f v fs).lookup g=if g=f then lD v else fs.lookup g
 |[]=>by
  show V7 g [(f,v)]=_;by_cases h:g=f
  .have a:=beq_iff_eq.mpr h;simp only[V7,a,av h]
  .have a:=beq_eq_false_iff_ne.mpr h;simp only[V7,a,ax h]
 |(k,x)::r=>by
  have i:=qB f g v r;rw[show jb f v ((k,x)::r)=(if k=f then(k,v)::r else(k,x)::jb f v r) from rfl];by_cases b:k=f
  .rw[av b]
   by_cases h:g=k
   .have a:=beq_iff_eq.mpr h;simp only[V7,a,av (h.trans b)]
   .have a:=beq_eq_false_iff_ne.mpr h;simp only[V7,a,ax (λe:g=f=>h (e.trans b.symm))]
  .rw[ax b]
   by_cases h:g=k
   .have a:=beq_iff_eq.mpr h;simp only[V7,a,ax (λe:g=f=>b (h.symm.trans e))]
   .have a:=beq_eq_false_iff_ne.mpr h;simp only[V7,a];exact i
theorem pT(f:Str)(v:V):∀fs:bg (Str×V),f∈(jb f v fs).map (·.1)/\∀g,g∈fs.map (·.1)->g∈(jb f v fs).map (·.1)
 |[]=>⟨by simp[jb],λg h=>by simp at h⟩
 |(k,x)::r=>by
  obtain⟨i,b⟩:=pT f v r;rw[show jb f v ((k,x)::r)=(if k=f then(k,v)::r else(k,x)::jb f v r) from rfl];by_cases a:k=f
  .rw[av a];subst a;exact⟨by simp,λg h=>by simpa using h⟩
  .rw[ax a]
   refine⟨?_,λg h=>?_⟩
   .rw[TX];exact Tx _ i
   .rw[TX]at h⊢
    rcases T1.mp h with e|e
    .exact T1.mpr (.inl e)
    .exact Tx _ (b g e)
theorem qQ(f:Str)(v:V):∀fs:bg (Str×V),(jb f v fs).length<=fs.length+1
 |[]=>by simp[jb]
 |(k,x)::r=>by
  have b:=qQ f v r;rw[show jb f v ((k,x)::r)=(if k=f then(k,v)::r else(k,x)::jb f v r) from rfl];by_cases a:k=f
  .rw[av a,TR,TR];omega
  .rw[ax a,TR,TR];omega
theorem Xn.some_of(r:Xn (lD v) o):∃u,o=lD u/\RelV v u:=by
 cases o with
 |none=>exact(show False from r).elim
 |some u=>exact⟨u,rfl,r⟩
theorem Xn.none_of(r:Xn Th o):o=Th:=by
 cases o with
 |none=>rfl
 |some u=>exact(show False from r).elim
theorem vd(r:RelV v u):acs u=To:=by
 cases v with
 |V8=>cases(show u=Ti.none from r);rfl
 |bl b=>cases(show u=Ti.bool b from r);rfl
 |int i=>obtain⟨t,e⟩:=(show∃t,u=Ti.int i t from r);cases e;rfl
 |str x=>obtain⟨t,e⟩:=(show∃t,u=Ti.str x t from r);cases e;rfl
 |byt b=>obtain⟨t,e⟩:=(show∃t,u=Ti.bytes b t from r);cases e;rfl
 |flt b=>obtain⟨t,e⟩:=(show∃t,u=Ti.float b t from r);cases e;rfl
 |ref a=>cases(show u=Ti.ref a from r);rfl
 |ty n=>cases(show u=Ti.type n from r);rfl
section
variable{P:T5}{w:Uu}{H H':Hp}{h h':Heap}{a C dx:Tt}{fs fs':bg (Str×V)}
theorem wf(UW:YE P w H h)(e:H a=lD (.ins C dx fs)):∃mA,aca h a dx C mA/\(∀f,Xn (fs.lookup f) (mA f))/\aa6 mA (fs.map (·.1))/\fs.length<=1000/\H dx=lD (.own a):=by obtain⟨d,z,ne,b,mA,n,r,q⟩:=(show ObjOk P w H h a (.ins C dx fs) from UW a _ e);exact⟨mA,⟨b,n,ne⟩,r,q,z,d⟩
end
structure Cls(K:Tg)(C:Tt):Prop where
 pg:WZ K C Str.empty=To
 hd:V9 K C=To
 po:Y6 K C=To
 sa:Us K (.ref C) "__setattr__"=lD (lD (.builtin "object.__setattr__"))
theorem Cls.get{K:Tg}(c:Cls K C)(f:Str):WZ K C f=To:=c.pg
def XM(K:Tg)(C:Tt)(f:Str):Prop:=Us K (.ref C) f=lD Th
theorem XM.agt{K:Tg}(n:XM K C f):ZJ K C f=lD Th:=by unfold ZJ;rw[show Us K (.ref C) f=lD Th from n];rfl
structure Con(K:Tg)(C:Tt)(f:Str)(v:V)(u:Ti):Prop where
 at_:Us K (.ref C) f=lD (lD u)
 rel:RelV v u
 get:WM K u "__get__"=lD Th
 cp:PySem.W.copiedNames.contains f=Tw
structure Meth(K:Tg)(C:Tt)(m:Str)(f:Tt):Prop where
 at_:Us K (.ref C) m=lD (lD (.ref f))
 fn:Wm K (.ref f)=To
 kp:Vm K (.ref f)=To
section
variable{X:Cx}{Z:bg (Tt×Obj)}{Y:St}{H:Hp}{s:Tv}{a C dx:Tt}{fs:bg (Str×V)}{f:Str}{v:V}{A:Uk}{E:Ti->Tv->Prop}
theorem Aw(I:Inv X Z Y H s)(e:H a=lD (.ins C dx fs))(c:Cls X.K C)(n:XM X.K C f)(l:fs.lookup f=lD v)
  (h:∀u s',Inv X Z Y H s'->RelV v u->Q u s'):wpAny (model X.prog X.w) A (getAttr (.ref a) f b) Q E s:=by
 obtain⟨j,O,r,_,_,_⟩:=wf I.UW e;obtain⟨u,i,g⟩:=Xn.some_of (by rw[<-l];exact r f);exact J3 I.Yu O (c.get f) c.hd n i (vd g) (h u _ (I.tok _) g)
theorem tM(I:Inv X Z Y H s)(e:H a=lD (.ins C dx fs))(c:Cls X.K C)(k:Meth X.K C m g)(l:fs.lookup m=Th)
  (h:Q (.ref g,[.ref a]) s):wpAny (model X.prog X.w) A (getMethod (.ref a) m pl) Q E s:=by
 obtain⟨b,O,r,_,_,_⟩:=wf I.UW e;have hn:=Xn.none_of (by rw[<-l];exact r m);exact FB I.Yu O (c.get m) k.at_ k.fn hn h
theorem A2(I:Inv X Z Y H s)(e:H a=lD (.ins C dx fs))(c:Cls X.K C)(n:XM X.K C f)(M:fs.length<1000)(t:RelV y u)
  (h:∀s',Inv X Z Y (bq H a (.ins C dx (jb f y fs))) s'->Q () s'):wpAny (model X.prog X.w) A (setAttr (.ref a) f u) Q E s:=by
 obtain⟨l,O,r,j,_,m⟩:=wf I.UW e;have B:(fs.map (·.1)).length<=TL:=by rw[Tj,Vr];omega
 refine Mc I.Yu O c.sa c.po n.agt c.hd j B λL i p=>h _ ?_;have G:∃o,L.get? dx=lD o:=let⟨o,_,_,e',_⟩:=i.ns;⟨o,e'⟩
 refine I.write (by rw[e];exact True.intro) (.inr m) (λb q J z=>(p.2 b J).trans z) G ?_;refine⟨by rw[az O.ne];exact m,?_,O.ne,i.obj,_,i.ns,λg=>?_,λg F=>?_⟩
 .have:=qQ f y fs;omega
 .show Xn ((jb f y fs).lookup g) (if g=f then lD u else l g)
  rw[qB];by_cases q:g=f
  .rw[av q,av q];exact t
  .rw[ax q,ax q];exact r g
 .by_cases q:g=f
  .rw[q];exact(pT f y fs).1
  .refine(pT f y fs).2 g (j g λz=>F ?_);show(if g=f then lD u else l g)=Th;rw[ax q];exact z
theorem Inv.made(I:Inv X Z Y H s):Inv X Z Y (bq (bq H s.heap.objs.size (.own (s.heap.objs.size+1))) (s.heap.objs.size+1) (.ins C s.heap.objs.size []))
  {s with heap:=(s.heap.push U9).push (VI C s.heap.objs.size)}:=by
 have g:(s.heap.push U9).get? s.heap.objs.size=lD U9:=b5 s.heap rfl;have l:((s.heap.push U9).push (VI C s.heap.objs.size)).get? (s.heap.objs.size+1)=lD (VI C s.heap.objs.size):=by have:=b5 (s.heap.push U9) (o:=VI C s.heap.objs.size) rfl;rwa [cn]at this
 have j:(s.heap.push U9).Ns s.heap.objs.size (λ_=>Th):=⟨U9,#[],_,g,rfl,(λe i=>a6 i (by simp)),λ_=>rfl⟩;have m:=I.laid (a:=s.heap.objs.size) (o:=.own (s.heap.objs.size+1)) (h':=s.heap.push U9) (t':=s.toks) (λb u q=>bt _ q) (TB _) ⟨_,g⟩;refine m.laid (a:=s.heap.objs.size+1) (o:=.ins C s.heap.objs.size []) (t':=s.toks) (λb u q=>bt _ q) (agc (cn _ _)) ?_;have ne:s.heap.objs.size≠s.heap.objs.size+1:=T8 (Ww _);refine⟨by rw[az ne,aF],Ur _,ne,l,λ_=>Th,(Heap.Ns1.of_empty j).at λo q=>bt _ q,λ_=>True.intro,λy h=>a6 rfl h⟩
theorem BH{prog:T5}{w:Uu}{env:Env}{e:UD}{f:Str}{b:Pos}{s:Tv}{Q:Ti->Tv->Prop}(g:attributeBase e f env (eval e env)=eval e env)
  (h:wpAny (model prog w) A (eval e env) (λo s₁=>wpAny (model prog w) A (getAttr o f To) Q E s₁) E s):wpAny (model prog w) A (eval (.Attribute e f b) env) Q E s:=
 Attribute_any_ h (by rw[arm_eval_Attribute,g])
end
def PH(K:Tg)(g:TE)(f:Str):TE:=λe H Q=>g e H λx b=>∃a C dx fs v,x=.ref a/\b a=lD (.ins C dx fs)/\Cls K C/\XM K C f/\fs.lookup f=lD v/\Q v b
def Oj(K:Tg)(h g:TE)(f:Str):TS:=λD b H=>g b H λy i=>h b i λx e=>∃a C dx fs,x=.ref a/\e a=lD (.ins C dx fs)/\Cls K C/\XM K C f/\fs.length<1000/\
 D.nx b (bq e a (.ins C dx (jb f y fs)))
section
variable{X:Cx}{o e Z:UD}{f:Str}{pos Y ajr:Pos}{U tv:TE}
theorem dA(m:PE X e U)(p:attributeBase e f X.env (eval e X.env)=eval e X.env):PE X (.Attribute e f pos) (PH X.K U f):=by intro b s g H Q I h;refine BH p (cz (m b s g H _ I h) λu F ⟨x,A,y,i,a,C,dx,fs,v,r,t,c,n,l,q⟩=>?_);subst r;obtain rfl:=i;exact Aw y t c n l λB E w j=>⟨v,A,w,j,q⟩
theorem pp(ha:PE X o U)(r:PE X Z tv)(t:Vg Z (lD (.Attribute o f Y)) pos.line X.env=pure Tw):PS X (.Assign [.Attribute o f Y] Z pos) (Oj X.K U tv f):=by intro b s g H D I h;refine aaA (cz (r b s g H _ I h) λu i ⟨y,E,B,j,q⟩=>cz (ha b i g E _ B q) λJ G ⟨x,L,A,m,a,C,dx,fs,v,w,c,n,l,p⟩=>?_) t;subst v;obtain rfl:=m;exact A2 A w c n l j λF I3=>⟨g,_,I3,p⟩
end
section
variable{X:Cx}{pins:bg (Tt×Obj)}{σ:St}{H:Hp}{s:Tv}{A:Uk}{E:Ti->Tv->Prop}{Q:Ti->Tv->Prop}{c:Ti}{b:Bool}
inductive aak(K:Tg)(H:Hp):V->Ti->Prop where
 |V8:aak K H .V8 (.type "NoneType")
 |bl (x:Bool):aak K H (.bl x) (.type "bool")
 |int (i:Int):aak K H (.int i) (.type "int")
 |str (x:Str):aak K H (.str x) (.type "str")
 |flt (x:UInt64):aak K H (.flt x) (.type "float")
 |lst {a:Tt} {xs:bg V} (e:H a=lD (.lst xs)):aak K H (.ref a) (.type "list")
 |frz {a:Tt} {o:Obj} {xs:bg V} (e:H a=lD (.frz o (.lst xs))):aak K H (.ref a) (.type "list")
 |tup {a:Tt} {xs:bg V} (e:H a=lD (.tup xs)):aak K H (.ref a) (.type "tuple")
 |dK {a:Tt} {Ub:bg (cN×V)} (e:H a=lD (.dK Ub)):aak K H (.ref a) (.type "dict")
 |dT {a:Tt} {Ub:bg (bg cN×V)} (e:H a=lD (.dT Ub)):aak K H (.ref a) (.type "dict")
 |ins {a C dx:Tt} {fs:bg (Str×V)} (e:H a=lD (.ins C dx fs)) (cl:Cls K C) (ha:Us K (.ref C) "__class__"=lD (lD (.builtin "object.__class__")))
   (hn:WM K (.builtin "object.__class__") "__get__"=lD (lD (.builtin "getset_descriptor.__get__"))) (htk:PySem.W.takesIn K (.builtin "object.__class__")=lD To)
   (hm:adF K C (.type "object")=lD To):aak K H (.ref a) (.ref C)
end
structure VU(k:Nat)(A:Uk):Prop where
 hd:A.handled=Th
 dp:A.depth+3*k+5<recursionLimit
 un:A.units+16*k+200<cLine
theorem VU.mono(r:VU k A)(h:j<=k):VU j A:=⟨r.hd,by have:=r.dp;omega,by have:=r.un;omega⟩
theorem VU.deeper(r:VU (k+1) A)(env:Env):VU k (A.deeper env):=
 ⟨r.hd,by have:=r.dp;show A.depth+1+3*k+5<_;omega,by have:=r.un;show A.units+3+16*k+200<_;omega⟩
theorem AE{A:Uk}:(A.under (.builtin "type.__call__" ⟨.ref C::us,kw⟩)).depth=A.depth+1:=by
 first|rfl|simp[Uk.under,abD.weight,abD.isCreation,abD.isGuard,abD.isCaller,abD.frames,abD.isFrame,guardIds]
theorem AL{A:Uk}:(A.under (.builtin "type.__call__" ⟨.ref C::us,kw⟩)).units=A.units+1:=by
 first|rfl|simp[Uk.under,abD.cUnits,abD.frames,abD.isFrame]
theorem VU.make(r:VU (k+1) A)(C:Tt)(us:bg Ti)(a:bg (Str×Ti)):VU k (A.under (.builtin "type.__call__" ⟨.ref C::us,a⟩)):=
 ⟨r.hd,by have:=r.dp;rw[AE];omega,by have:=r.un;rw[AL];omega⟩
theorem VU.depth(r:VU k A):A.depth<recursionLimit:=by have:=r.dp;omega
theorem VU.units(r:VU k A):A.units+64<cLine:=by have:=r.un;omega
def jK:TA:=λ_ H Q=>Q [] H
def fy(e:TE)(b:TA):TA:=λa H Q=>e a H λx g=>b a g λxs f=>Q (x::xs) f
section
variable{X:Cx}{e:UD}{es:bg UD}{te:TE}{t:TA}{pos:Pos}
theorem aA:PA X [] jK:=λ_ _ _ _ H Q I h=>Calls.spliced_nil ⟨[],H,I,.nil,h⟩
theorem ai(ha:PE X e te)(n:PA X es t)(m:Uc (e::es) X.env=(Tw,eval e X.env)::Uc es X.env:=by rfl):PA X (e::es) (fy te t):=by intro pos a s b H Q I h;rw[m];refine Calls.spliced_cons (cz (ha a s b H _ I h) λu f ⟨x,r,p,i,l⟩=>?_);exact cz (n pos a f b r _ p l) λv w ⟨xs,q,o,g,j⟩=>⟨x::xs,q,o,.cons i g,j⟩
def Kj(t:TA):TE:=λb H Q=>t b H λxs a=>xs.length<=TL/\∀p,a p=Th->Q (.ref p) (bq a p (.tup xs))
def QX(t:TA):TE:=λb H Q=>t b H λxs a=>xs.length<=TL/\∀p,a p=Th->Q (.ref p) (bq a p (.lst xs))
theorem cS{x1}(h:PA X es t):PE X (.Tuple es x1 pos) (Kj t):=by intro a s i H Q I l;refine wpAny_Tuple_spliced (cz (h pos a s i H _ I l) λj f ⟨xs,n,g,r,z,q⟩=>⟨by rw[<-r.length];exact z,?_⟩);have m:=g.UW.fresh (TB _);refine⟨.ref f.heap.objs.size,bq n f.heap.objs.size (.tup xs),g.laid (λb u e=>bt _ e) (TB _) ?_,rfl,q _ m⟩;exact⟨z,j,r,⟨_,b5 _ rfl,⟨rfl,_,rfl⟩,rfl⟩⟩
theorem mZ(h:PA X es t):PE X (.List es pos) (QX t):=by intro a s i H Q I l;refine wpAny_List_spliced (cz (h pos a s i H _ I l) λj f ⟨xs,n,g,r,z,q⟩=>⟨by rw[<-r.length];exact z,?_⟩);have m:=g.UW.fresh (TB _);refine⟨.ref f.heap.objs.size,bq n f.heap.objs.size (.lst xs),g.laid (λb u e=>bt _ e) (TB _) ?_,rfl,q _ m⟩;exact⟨z,j,0,r,b5 _ rfl⟩
end
abbrev Sp:=bg V->Hp->VK->XK->Prop
abbrev xC:=bg Env->Hp->Tv->XK->Ti->Tv->Prop
structure Env0(P:T5)(w:Uu)(K:Tg)(mg:Str->br Ti)(base:Heap)(A:Uk)(outer:bg Env)(s:Tv)(H:Hp):Prop where
 frames:A.frames=lD outer
 mod:Mod K mg base
 bs:∀b o,base.get? b=lD o->s.heap.get? b=lD o/\H b=Th
 bsz:base.objs.size<=s.heap.objs.size
 Y0:s.heap.FunFrames base outer
 frf:∀b∈zw outer,H b=Th
 UW:YE P w H s.heap
 bare:AllBare s.gens
def CE(outer:bg Env)(P:T5)(w:Uu)(H:Hp)(s:Tv)(Q:VK)(u:Ti)(a:Tv):Prop:=
 ∃v H',a.os=s.os/\AllBare a.gens/\Un (zw outer) [] H H' s.heap a.heap/\YE P w H' a.heap/\RelV v u/\Q v H'
def CR(b:xC)(outer:bg Env)(P:T5)(w:Uu)(H:Hp)(s:Tv)(Q:VK)(E:XK)(r:aaG)(a:Tv):Prop:=
 match r with
 |.ok (.ret u)=>CE outer P w H s Q u a
 |.ok _=>False
 |.error e=>b outer H s E e a
structure FnOk(P:T5)(w:Uu)(K:Tg)(mg:Str->br Ti)(base:Heap)(CX:xC)(k:Nat)(f:Tt)(fd:UO)(ps:bg Str)(sp:Sp):Prop where
 len:∀vs H Q E,sp vs H Q E->vs.length=ps.length
 run:∀(A:Uk) (outer:bg Env) (s:Tv) (H:Hp) (args:Args) (us:bg Ti) (vs:bg V) (Q:VK) (E:XK),VU k A->Env0 P w K mg base A outer s H->YS s fd args (ps.zip us)->Vals vs us->sp vs H Q E->
  codeAny (model P w) A (.call (.ref f) args) (CR CX outer P w H s Q E) s
theorem FnOk.imp{P:T5}{w:Uu}{K:Tg}{mg:Str->br Ti}{base:Heap}{g:xC}{k:Nat}{f:Tt}{fd:UO}{ps:bg Str}{sp b:Sp}(F:FnOk P w K mg base g k f fd ps sp)
  (h:∀vs H Q E,b vs H Q E->sp vs H Q E):FnOk P w K mg base g k f fd ps b:=
 ⟨λvs H Q E q=>F.len vs H Q E (h _ _ _ _ q),λA a s H e i vs Q E m n o j l=>F.run A a s H e i vs Q E m n o j (h _ _ _ _ l)⟩
theorem Env0.make{K:Tg}(e:Env0 P w K mg base A outer s H)(C:Tt)(us:bg Ti)(a:bg (Str×Ti)):
  Env0 P w K mg base (A.under (.builtin "type.__call__" ⟨.ref C::us,a⟩)) outer s H:=⟨by first|exact e.frames|(simpa [Uk.under,abD.envs,abD.isFrame,pushEnvs] using e.frames),e.mod,e.bs,e.bsz,e.Y0,e.frf,e.UW,e.bare⟩
section
variable{X:Cx}{Z:bg (Tt×Obj)}{Y:St}{H:Hp}{s U:Tv}
theorem Inv.aed(I:Inv X Z Y H s):Env0 X.prog X.w X.K X.mg X.base X.A X.stack s H:=
 ⟨I.ok.frames,I.ok.mod,I.bs,Uv I.ok.bsz I.sz,I.stack,I.Z9,I.UW,I.bare⟩
theorem Inv.after{Q:VK}{u:Ti}(I:Inv X Z Y H s)(h:CE X.stack X.prog X.w H s Q u U):EP X Z Y Q u U:=by obtain⟨v,j,f,a,un,UW,r,q⟩:=h;obtain⟨i,g,d,t,e⟩:=U;obtain rfl:e=s.os:=f;exact⟨v,j,I.call (h':=i) (g':=g) (d':=d) (t':=t) (ch:=[]) un UW a (λb z=>a6 z (by simp)),r,q⟩
end
def kg(sp:Sp)(dvs:bg V)(E:XK)(t:TA):TE:=λa H Q=>t a H λvs b=>sp (vs++dvs) b Q E
def vT(C:Tt)(m:Str)(sp:Sp)(dvs:bg V)(E:XK)(f:TE)(t:TA):TE:=λb H Q=>f b H λx e=>∃a dx fs,x=.ref a/\e a=lD (.ins C dx fs)/\fs.lookup m=Th/\
 t b e λvs g=>sp (x::(vs++dvs)) g Q E
def zB(C:Tt)(sp:Sp)(dvs:bg V)(E:XK)(t:TA):TE:=λb H Q=>t b H λvs a=>∀x dx,a x=Th->a dx=Th->dx≠x->
 sp (.ref x::(vs++dvs)) (bq (bq a dx (.own x)) x (.ins C dx [])) (λv e=>v=.V8/\Q (.ref x) e) E
def Binds(K:Tg)(fd:UO)(ps:bg Str)(ds:bg Ti):Prop:=
 ∀(s:Tv) (a:bg Ti),K.In s.heap->(a++ds).length=ps.length->YS s fd ⟨a,[]⟩ (ps.zip (a++ds))
theorem Binds.all{K:Tg}{fd:UO}{ps:bg Str}(h:∀us:bg Ti,us.length=ps.length->bindArgs fd ⟨us,[]⟩=pure (ps.zip us)):Binds K fd ps []:=λs us _ a=>by rw[Uo]at a⊢;exact .of_eq (h us a)
def gz(g:xC)(X:Cx)(E:XK):Prop:=∀(a:bg (Tt×Obj)) (f:St) (H:Hp) (s:Tv) (e:Ti) (b:Tv),Inv X a f H s->g X.stack H s E e b->X.xe e b
section
variable{X:Cx}{Y:xC}{k:Nat}{f C:Tt}{fd:UO}{ps:bg Str}{sp:Sp}{dvs:bg V}{ds:bg Ti}{E:XK}{x m:Str}{p pos Z:Pos}{e o:UD}{es:bg UD}{U:TE}{t:TA}
theorem A5{a:bg (Tt×Obj)}{g:St}{H:Hp}{s:Tv}{Q:VK}{us:bg Ti}{vs:bg V}(F:FnOk X.prog X.w X.K X.mg X.base Y k f fd ps sp)(n:VU k X.A)(v:Binds X.K fd ps ds)(hd:Vals dvs ds)(l:gz Y X E)
  (I:Inv X a g H s) (r:Vals vs us) (h:sp (vs++dvs) H Q E):wpAny (model X.prog X.w) X.A (call (.ref f) us) (EP X a g Q) X.xe s:=by
 have i:Vals (vs++dvs) (us++ds):=r.append hd;have q:(us++ds).length=ps.length:=by rw[<-i.length];exact F.len _ _ _ _ h
 refine X7 (XS (F.run X.A X.stack s H ⟨us,[]⟩ (us++ds) (vs++dvs) Q E n I.aed (v s us I.Yu q) i h) λr j b=>?_);cases r with
 |error e=>exact l a g H s e j I b
 |ok y=>
  cases y with
  |ret u=>exact I.after b
  |next=>exact False.elim b
  |brk=>exact False.elim b
  |cont=>exact False.elim b
theorem Ch(F:FnOk X.prog X.w X.K X.mg X.base Y k f fd ps sp)(l:VU k X.A)(u:Gl X x)(hm:X.mg x=lD (.ref f))(n:Vm X.K (.ref f)=To)(y:Binds X.K fd ps ds)(hd:Vals dvs ds)(j:gz Y X E)
  (ha:PA X (e::es) t) (b:(x==("__debug__":Str))=Tw:=by decide) (v:Uc (e::es) X.env=(Tw,eval e X.env)::Uc es X.env:=by rfl) (B:(backTo pos (Uc es X.env)).any (·.1)=Tw:=by rfl):
  PE X (.Call (.Name x p) (e::es) [] pos) (kg sp dvs E t):=by
 intro a s i H Q I h;refine Wf (jM I u hm ?_ b);refine Xr I.ok.mod.kin n (cz (ha pos a s i H _ I h) λG J ⟨vs,L,g,r,q⟩=>⟨g.Yu,?_⟩) v B;exact A5 F l y hd j g r q
theorem Jr{pl:Sem Bool}(L:PE X o U)(c:Cls X.K C)(hm:Meth X.K C m f)(F:FnOk X.prog X.w X.K X.mg X.base Y k f fd ps sp)(J:VU k X.A)(M:Binds X.K fd ps ds)(hd:Vals dvs ds)(B:gz Y X E)(ha:PA X (e::es) t)
  (dX:Uc (e::es) X.env=(Tw,eval e X.env)::Uc es X.env:=by rfl) (P:(backTo pos (Uc es X.env)).any (·.1)=Tw:=by rfl)
  (G:eval (.Call (.Attribute o m Z) (e::es) [] pos) X.env=(do
   let ov<-eval o X.env
   standAt Z.atName
   let(f,first)<-holding [ov] (getMethod ov m pl)
   callWith pos f first (backTo pos (Uc (e::es) X.env)) (backToKw pos (keywordEach [] X.env))):=by rfl):
  PE X (.Call (.Attribute o m Z) (e::es) [] pos) (vT C m sp dvs E U t):=by
 intro b s g H Q I h;refine Ye (pl:=pl) (cz (L b s g H _ I h) λu n ⟨x,R,j,v,a,dx,fs,N,O,l,q⟩=>?_) G;subst N;obtain rfl:u=Ti.ref a:=v;refine tM j O c hm l ?_;refine Xr (first:=[.ref a]) (h₀:=X.base) I.ok.mod.kin hm.kp (cz (ha pos b n g R _ j q) λus S ⟨vs,T,i,r,y⟩=>⟨i.Yu,?_⟩) dX P;exact A5 (us:=.ref a::us) (vs:=.ref a::vs) F J M hd B i (.cons rfl r) y
theorem Fx{pl:Sem Bool}(y:PE X o U)(c:Cls X.K C)(hm:Meth X.K C m f)(F:FnOk X.prog X.w X.K X.mg X.base Y k f fd ps sp)(v:VU k X.A)(B:Binds X.K fd ps ds)(hd:Vals dvs ds)(n:gz Y X E)
  (r:eval (.Call (.Attribute o m Z) [] [] pos) X.env=(do
   let ov<-eval o X.env
   standAt Z.atName
   let(f,first)<-holding [ov] (getMethod ov m pl)
   callWith pos f first (backTo pos (Uc [] X.env)) (backToKw pos (keywordEach [] X.env))):=by rfl):
  PE X (.Call (.Attribute o m Z) [] [] pos) (vT C m sp dvs E U jK):=by
 intro b s i H Q I h;refine Ye (pl:=pl) (cz (y b s i H _ I h) λu L ⟨x,M,g,j,a,dx,fs,G,J,l,q⟩=>?_) r;subst G;obtain rfl:u=Ti.ref a:=j;refine tM g J c hm l ?_;exact PySem.W.callWith_K0 (first:=[.ref a]) g.Yu hm.kp (A5 (us:=[.ref a]) (vs:=[.ref a]) F v B hd n g (.cons rfl .nil) q)
structure Mk(K:Tg)(C f:Tt):Prop where
 makes:ZK K C=To
 init:Us K (.ref C) "__init__"=lD (lD (.ref f))
 fn:Wm K (.ref f)=To
 kp:Vm K (.ref C)=To
theorem Fa(M:Mk X.K C f)(F:FnOk X.prog X.w X.K X.mg X.base Y k f fd ps sp)(q:VU (k+1) X.A)(B:Binds X.K fd ps ds)(hd:Vals dvs ds)
  (n:gz Y X E) (I:Inv X pins σ H s) (r:Vals vs us)
  (h:∀x dx,H x=Th->H dx=Th->dx≠x->sp (.ref x::(vs++dvs)) (bq (bq H dx (.own x)) x (.ins C dx [])) (λv H2=>v=.V8/\Q (.ref x) H2) E):
  wpAny (model X.prog X.w) X.A (call (.ref C) us) (EP X pins σ Q) X.xe s:=by
 have i:=h (s.heap.objs.size+1) s.heap.objs.size (I.UW.fresh (Xm _)) (I.UW.fresh (TB _)) (T8 (Ww _));have b:=Inv.made (C:=C) I;have g:Vals (V.ref (s.heap.objs.size+1)::(vs++dvs)) (Ti.ref (s.heap.objs.size+1)::(us++ds)):=.cons rfl (r.append hd);have y:(Ti.ref (s.heap.objs.size+1)::us++ds).length=ps.length:=by have e:=g.length;rw[F.len _ _ _ _ i]at e;exact e.symm
 refine X7 (G8 I.Yu M.makes M.init (beq_iff_eq.mp M.fn) (XS (F.run _ X.stack _ _ ⟨Ti.ref (s.heap.objs.size+1)::us,[]⟩ (Ti.ref (s.heap.objs.size+1)::(us++ds)) _ _ E (q.make C us [])
  (b.aed.make C us []) (B _ (Ti.ref (s.heap.objs.size+1)::us) b.Yu y) g i) λr j a=>?_))
 cases r with
 |error e=>exact n pins σ _ _ e j b a
 |ok G=>
  cases G with
  |ret u=>obtain⟨v,J,I3,rv,ev,l⟩:=b.after a;subst ev;exact⟨rv,⟨V.ref (s.heap.objs.size+1),J,I3,rfl,l⟩⟩
  |next=>exact False.elim a
  |brk=>exact False.elim a
  |cont=>exact False.elim a
theorem Ma(M:Mk X.K C f)(F:FnOk X.prog X.w X.K X.mg X.base Y k f fd ps sp)(l:VU (k+1) X.A)(n:Gl X x)(hm:X.mg x=lD (.ref C))(v:Binds X.K fd ps ds)(hd:Vals dvs ds)(j:gz Y X E)
  (ha:PA X (e::es) t) (b:(x==("__debug__":Str))=Tw:=by decide) (u:Uc (e::es) X.env=(Tw,eval e X.env)::Uc es X.env:=by rfl) (y:(backTo pos (Uc es X.env)).any (·.1)=Tw:=by rfl):
  PE X (.Call (.Name x p) (e::es) [] pos) (zB C sp dvs E t):=by
 intro a s i H Q I h;refine Wf (jM I n hm ?_ b);refine Xr I.ok.mod.kin M.kp (cz (ha pos a s i H _ I h) λB G ⟨vs,J,g,r,q⟩=>⟨g.Yu,?_⟩) u y;exact Fa M F l v hd j g r q
end
section
variable{X:Cx}{CX:xC}{k:Nat}{f C:Tt}{fd:UO}{ps ks:bg Str}{sp:Sp}{E:XK}{x m:Str}{p pos apos anF:Pos}{e o:UD}{es:bg UD}{kws:bg aas}{te ta:TE}{t tk:TA}{nm:br Str}
structure akk(K:Tg)(fd:UO)(ps ks:bg Str)(g:bg Ti->bg Ti->bg Ti)(gV:bg V->bg V->bg V):Prop where
 to:∀(s:Tv) (us ws:bg Ti),K.In s.heap->(g us ws).length=ps.length->YS s fd ⟨us,ks.zip ws⟩ (ps.zip (g us ws))
 rel:∀{vs:bg V} {us:bg Ti} {zs:bg V} {ws:bg Ti},Vals vs us->Vals zs ws->Vals (gV vs zs) (g us ws)
variable{g:bg Ti->bg Ti->bg Ti}{gV:bg V->bg V->bg V}
end
structure Wb(N P:bg Str)(sc:Xi):Prop where
 kind:sc.kind=.function
 co:sc.isCoroutine=Tw
 gen:sc.isGenerator=Tw
 nd:N.Nodup
 pre:N.take P.length=P
 par:∀x∈P,sc.names.lookup x=lD .local\/sc.names.lookup x=lD .cell
 ae6:∀y∈sc.names,y.2≠.free
theorem uU{a:Str->br Up}:∀{binds:bg (Str×Ti)} {m:Str->br Ti},(∀v,(x,v)∉binds)->bindL a binds m x=m x
 |[],_,_=>rfl
 |(n,v)::r,m,h=>by
  unfold bindL;rw[uU λw b=>h w (Tx _ b)];split
  .have:x≠n:=by rintro rfl;exact h v Ts
   simp[this]
  .rfl
theorem vP{a:Str->br Up}:∀{binds:bg (Str×Ti)} {m:Str->br Ti},(∀v,(x,v)∉binds)->bindC a binds m x=m x
 |[],_,_=>rfl
 |(n,v)::r,m,h=>by
  unfold bindC;rw[vP λw b=>h w (Tx _ b)];split
  .rfl
  .have:x≠n:=by rintro rfl;exact h v Ts
   simp[this]
theorem vq{kindOf:Str->br Up}:∀{P:bg Str} {vs:bg Ti} {i:Nat} {m:Str->br Ti},P.Nodup->P[i]?=lD x->vs[i]?=lD v->kindOf x=lD .local->
  bindL kindOf (P.zip vs) m x=lD v
 |[],_,_,_,_,h,_,_=>by simp at h
 |_::_,[],_,_,_,_,h,_=>by simp at h
 |p::P,w::vs,0,m,nd,h1,h2,hk=>by simp at h1 h2;subst h1;subst h2;show bindL kindOf ((p,w)::P.zip vs) m p=_;unfold bindL;rw[uU λv hv=>(U5.mp nd).1 (Wa hv).1,av hk];simp
 |p::P,w::vs,i+1,m,nd,h1,h2,hk=>by unfold bindL;exact vq (U5.mp nd).2 (by simpa using h1) (by simpa using h2) hk
theorem vG{kindOf:Str->br Up}:∀{P:bg Str} {vs:bg Ti} {i:Nat} {m:Str->br Ti},P.Nodup->P[i]?=lD x->vs[i]?=lD v->kindOf x≠lD .local->
  bindC kindOf (P.zip vs) m x=lD v
 |[],_,_,_,_,h,_,_=>by simp at h
 |_::_,[],_,_,_,_,h,_=>by simp at h
 |p::P,w::vs,0,m,nd,h1,h2,hk=>by simp at h1 h2;subst h1;subst h2;show bindC kindOf ((p,w)::P.zip vs) m p=_;unfold bindC;rw[vP λv hv=>(U5.mp nd).1 (Wa hv).1,ax hk];simp
 |p::P,w::vs,i+1,m,nd,h1,h2,hk=>by unfold bindC;exact vG (U5.mp nd).2 (by simpa using h1) (by simpa using h2) hk
def start(N:bg Str)(vs:bg V):St:=vs.map lD++TJ (N.length - vs.length) Th
def gy(i:xC)(P:T5)(w:Uu)(K:Tg)(mg:Str->br Ti)(base:Heap)(N:bg Str)(b:Str)(a:Xi)(f:Tt)(h:Ti)(A:Uk)(outer:bg Env)(s:Tv)(H:Hp)(E:XK):Cx where
 prog:=P
 w:=w
 K:=K
 mg:=mg
 base:=base
 A:=A.deeper (envOfC b a s.heap.objs.size f h)
 N:=N
 s₀:=s
 H₀:=H
 env:=envOfC b a s.heap.objs.size f h
 outer:=outer
 stack:=envOfC b a s.heap.objs.size f h::outer
 ex:=[]
 calm:=To
 fn:=λ_=>To
 pn:=[]
 xe:=λe j=>wpAny (model P w) (A.deeper (envOfC b a s.heap.objs.size f h)) (leaving (envOfC b a s.heap.objs.size f h) e) (λ_ g=>i outer H s E e g) (λl g=>i outer H s E l g) j
theorem yg{a:Xi}(h:a.names.lookup x=lD .cell):∃c,(VO n a.names []).lookup x=lD c:=by have q:=WN a.names n [] (.inl h);exact aaB.mp q
theorem D2{K:Tg}
  (S:Wb N ps scope) (hd:A.handled=Th) (e0:Env0 P w K mg base A outer s H) (F:vs.length=ps.length) (r:Vals vs us)
  (x:InCallC s s.heap.objs.size (bindL (envOfC qual scope s.heap.objs.size f cd).kindOf (ps.zip us) λ_=>Th) (VO (s.heap.objs.size+1) scope.names []) (bindC (envOfC qual scope s.heap.objs.size f cd).kindOf (ps.zip us) λ_=>Th) s1):
  Inv (gy CX P w K mg base N qual scope f cd A outer s H E) [] (start N vs) H s1:=by
 have I:ps.length<=N.length:=by have:=dw XT S.pre;rw[UI]at this;omega
 obtain⟨o,C,rfl,B⟩:=x.done;have j:∀b:Tt,b∉(gy CX P w K mg base N qual scope f cd A outer s H E).ex:=λb z=>a6 (show b∈([]:bg Tt) from z) (by simp);refine⟨⟨e0.mod,S.kind,rfl,rfl,TB _,λy z c o g=>?_,λy l=>?_,λy c _ h=>?_,λ_=>hd,Uk.frames_deeper e0.frames,.inr ⟨rfl,rfl⟩,λb z=>a6 z (j b),e0.bs,e0.bsz,λb _ _=>j b,λb z=>a6 z (j b),e0.Y0,e0.frf⟩,
  rfl,e0.bare,Un.kept B,⟨_,x.toInCall.ns,λi y v o g G=>?_⟩,λy c h=>⟨_,x.cell y c h⟩,e0.UW.fresh (TB _),λy c h=>?_,λp n=>a6 (show p∈([]:bg (Tt×Obj)) from n) (by simp),e0.UW.kept B,?_⟩
 .exact name_of_addr x.apart (Vs o) (Vs g)
 .have l:=l
  rcases l with l|l
  .exact yg l
  .exact a6 rfl (S.ae6 _ (Vs l))
 .exact Yn (x.above y c (Vs h))
 .have hi:i<vs.length:=by
   unfold start at g;by_cases hi:i<vs.length
   .exact hi
   .rw[Um (by simpa using hi)]at g;rw[V1]at g;split at g<;>cases g
  have ha:vs[i]?=lD v:=by
   unfold start at g;rw[TF (by simpa using hi),TH]at g;cases e:vs[i]? with
   |none=>rw[e]at g;cases g
   |some a=>rw[e]at g;cases g;rfl
  obtain⟨u,t,rv⟩:=r.get ha;have n:ps[i]?=lD y:=by rw[<-S.pre,X0 (by omega)];exact o
  have m:ps.Nodup:=by rw[<-S.pre];exact S.nd.sublist (List.take_sublist _ _)
  refine⟨u,rv,?_⟩;rcases S.par y (Ug n) with k|k
  .exact .inl ⟨k,vq m n t k⟩
  .obtain⟨c,e⟩:=yg k;refine .inr ⟨.inl k,c,e,?_⟩;have q:=x.cell y c e;rw[vG m n t (by show scope.names.lookup y≠_;rw[k];decide)]at q;exact q
 .exact e0.UW.fresh (Yn (x.above y c (Vs h)))
 .unfold start;show _=N.length;rw[Tz,Tj,Ut];omega
theorem FL{CX:xC}{P:T5}{w:Uu}{K:Tg}{mg:Str->br Ti}{base:Heap}{k:Nat}{f:Tt}{name qual:Str}{params:Arguments}{body:bg VH}{scope:Xi}{dV kV doc pm U8 ct oc:Ti}{an od:br Tt}
  {osl:Array (br Ti)} {N ps:bg Str} {sp:Sp} (lk:K.lookup f=lD ⟨oc,od,.func (Va name qual params body scope dV kV doc pm an U8 ct),osl⟩) (hcd:Xs K U8 qual=To) (S:Wb N ps scope)
  (len:∀vs H Q E,sp vs H Q E->vs.length=ps.length)
  (Wz:∀(A:Uk) (outer:bg Env) (s:Tv) (H:Hp) (vs:bg V) (Q:VK) (E:XK),VU k (A.deeper (envOfC qual scope s.heap.objs.size f U8))->sp vs H Q E->
   ∃t,Zl (gy CX P w K mg base N qual scope f U8 A outer s H E) body t/\t {nx:=λ_ H'=>Q .V8 H',rt:=Q} (start N vs) H):
  FnOk P w K mg base CX (k+1) f (Va name qual params body scope dV kV doc pm an U8 ct) ps sp:=by
 refine⟨len,λA outer s H args us vs Q E hr e0 hb r hsp=>?_⟩;have hl:=len _ _ _ _ hsp;have KX:K.In s.heap:=e0.mod.kin.keeps λb o e=>(e0.bs b o e).1;have lim:s.heap.NoLimit:=e0.mod.nolimit.keeps λb o e=>(e0.bs b o e).1;have XD:∀y∈ps.zip us,scope.names.lookup y.1=lD .local\/(scope.names.lookup y.1=lD .cell/\((VO (s.heap.objs.size+1) scope.names []).lookup y.1).isSome=To):=λ⟨n,v⟩ hy=>by
  rcases S.par n (Wa hy).1 with q|q
  .exact .inl q
  .exact .inr ⟨q,WN _ _ _ (.inl q)⟩
 refine codeAny_call_function hr.depth (KX _ _ lk) rfl S.co S.gen rfl (PySem.W.codeRec_of KX hcd) (hb _ _ _ _ ?_);refine wpAny_newFunctionEnv_cells S.kind XD λenv he s1 x=>?_;subst he;refine⟨lim.keeps x.toInCall.keep,codeAny_func ?_⟩;obtain⟨t,ht,hq⟩:=Wz A outer s H vs Q E (hr.deeper _) hsp;have I:Inv (gy CX P w K mg base N qual scope f U8 A outer s H E) [] (start N vs) H s1:=D2 S hr.hd e0 hl r x;refine wpAny_mono (ht [] s1 (start N vs) H _ I hq) (λfl s' hs=>?_) λe s' hs=>hs
 have fin:∀{σ':St} {H':Hp} {v:V} {u:Ti},Inv (gy CX P w K mg base N qual scope f U8 A outer s H E) [] σ' H' s'->RelV v u->Q v H'->CE outer P w H s Q u s':=
  λ{σ' H' v u} J rv q=>⟨v,H',J.os,J.bare,J.base,J.UW,rv,q⟩
 cases fl with
 |ret u=>obtain⟨v,σ',H',J,rv,q⟩:=hs;exact fin J rv q
 |next=>obtain⟨σ',H',J,q⟩:=hs;exact fin (v:=V.V8) (u:=Ti.none) J rfl q
 |brk=>obtain⟨_,_,_,q⟩:=hs;exact False.elim q
 |cont=>obtain⟨_,_,_,q⟩:=hs;exact False.elim q
section
variable{X:Cx}{x:Str}{p pos:Pos}{e:UD}{es:bg UD}{t:TA}{id T:String}{r:bg V->Hp->VK->Prop}
def yG(r:bg V->Hp->VK->Prop)(t:TA):TE:=λa H Q=>t a H λvs b=>r vs b Q
theorem cW(q:Wj X (.builtin id) r)(n:Gl X x)(hm:X.mg x=Th)(m:UT x=lD (.builtin id))(ha:PA X (e::es) t)(hn:x≠ "__name__":=by decide)(b:(x==("__debug__":Str))=Tw:=by decide)
  (o:Uc (e::es) X.env=(Tw,eval e X.env)::Uc es X.env:=by rfl) (u:(backTo pos (Uc es X.env)).any (·.1)=Tw:=by rfl):PE X (.Call (.Name x p) (e::es) [] pos) (yG r t):=by
 intro a s f H Q I h;refine Wf (pW I n hm m ?_ hn b);exact ahp (cz (ha pos a s f H _ I h) λg i ⟨vs,w,v,j,l⟩=>q a i f w vs g Q v j l) o u
theorem fS(q:Wj X (.type T) r)(n:Gl X x)(hm:X.mg x=Th)(m:UT x=lD (.type T))(ha:PA X (e::es) t)(hn:x≠ "__name__":=by decide)(b:(x==("__debug__":Str))=Tw:=by decide)
  (o:Uc (e::es) X.env=(Tw,eval e X.env)::Uc es X.env:=by rfl) (u:(backTo pos (Uc es X.env)).any (·.1)=Tw:=by rfl):PE X (.Call (.Name x p) (e::es) [] pos) (yG r t):=by
 intro a s f H Q I h;refine Wf (pW I n hm m ?_ hn b);exact W5 (cz (ha pos a s f H _ I h) λg i ⟨vs,w,v,j,l⟩=>q a i f w vs g Q v j l) o u
end
end L2
namespace HT
open PySem PyProof.Rows
section
open PySem.SeqAt
open PySem.AutoSeq1 (wpAny_loadPart')
open PySem.MeetsSeq PySem.MeetsSeq2 PySem.MeetsSeq3
end
section
variable{prog:T5}{w:Uu}{A:Uk}{E:Ti->Tv->Prop}{s:Tv}
theorem cat_tup{t b:Tt}{vs ws:bg Ti}{Q:Ti->Tv->Prop}(v:IsTup s.heap t vs.toArray)(y:IsTup s.heap b ws.toArray)(q:vs≠[])
  (C:ws=[]->Q (.ref t) s) (B:ws≠[]->Q (.ref s.heap.objs.size) {s with heap:=s.heap.push {cls:=.type "tuple",data:=.seq (vs++ws).toArray}})
  (hsz:vs.length+ws.length<=TL):wpAny (model prog w) A (Wl .Add (.ref t) (.ref b)) Q E s:=by
 obtain⟨⟨cls,dd,data,o⟩,l,u,n,r⟩:=id v;obtain⟨⟨F,i,m,f⟩,a,h,p,g⟩:=id y;simp only at u r h g;subst u r h g;have e:vs.toArray++ws.toArray=(vs++ws).toArray:=by simp
 by_cases j:ws=[]
 .exact concat_meets ⟨_,l,rfl⟩ ⟨_,a,rfl⟩ agd ako aaH aaC (aat _ _)
   (tuple_addW1 t b vs.toArray ws.toArray n p dd i o f (by simpa using q) (by simp[j])) ⟨l,a,C j⟩
 .refine concat_meets ⟨_,l,rfl⟩ ⟨_,a,rfl⟩ agd ako aaH aaC (aat _ _)
   (tuple_addW2 t b vs.toArray ws.toArray n p dd i o f (by simpa using q) (by simpa using j) (by rw[TU,TU];exact hsz)) ⟨l,a,?_⟩
  rw[e];exact B j
def sIx(n d:Nat):br Int->Nat
 |none=>d
 |some v=>if v<0 then(v+(n:Int)).toNat else min v.toNat n
theorem sIx_none(n d:Nat):sIx n d Th=d:=rfl
theorem sIx_nat(n d k:Nat):sIx n d (lD (k:Int))=min k n:=by show(if(k:Int)<0 then((k:Int)+(n:Int)).toNat else min (k:Int).toNat n)=min k n;rw[ax (by omega),UX]
theorem NZ(n d:Nat)(hd:d<=n)(o:br Int):sIx n d o<=n:=by
 cases o with
 |none=>exact hd
 |some v=>
  show(if v<0 then(v+(n:Int)).toNat else min v.toNat n)<=n;by_cases a:v<0
  .rw[av a];omega
  .rw[ax a];exact aab _ _
theorem DJ(v:Int)(n d:Nat):(if v<0 then max (v+(n:Int)) 0 else min v (n:Int))=((sIx n d (lD v):Nat):Int):=by
 show(if v<0 then max (v+(n:Int)) 0 else min v (n:Int))=(((if v<0 then(v+(n:Int)).toNat else min v.toNat n):Nat):Int);by_cases a:v<0
 .simp only[av a];omega
 .simp only[ax a];omega
theorem Ag(lo hi:br Int)(n:Nat):Ul.Slice.sliceAdjust lo hi 1 (n:Int)=(((sIx n 0 lo:Nat):Int),((sIx n n hi:Nat):Int)):=by
 have a:¬((1:Int)<0):=by omega
 unfold Ul.Slice.sliceAdjust;simp only[a,if_false];refine Prod.ext ?_ ?_
 .cases lo with
  |none=>rfl
  |some v=>exact DJ v n 0
 .cases hi with
  |none=>rfl
  |some v=>exact DJ v n n
theorem Bs(i j:Nat):Ul.Slice.slicePlaces (i:Int) (j:Int) 1=j - i:=by
 unfold Ul.Slice.slicePlaces;have a:(1:Int)>0:=by omega
 simp only[a,if_true,Int.ediv_one];split<;>omega
theorem ue(p:Zm v o)(h:Q o s):wpAny (model prog w) A (Ul.Slice.slicePartIndex v) Q E s:=by
 cases p with
 |none=>exact slicePart_none h
 |int i t=>exact slicePart_int h
theorem jy{lo hi:br Int}{Q:Int×Int×Nat->Tv->Prop}(f:s.heap.IsSliceOf sl vl vu .none)(pl:Zm vl lo)(e:Zm vu hi)
  (h:Q (((sIx n 0 lo:Nat):Int),1,sIx n n hi - sIx n 0 lo) s):wpAny (model prog w) A (Ul.Slice.sliceApplied (.ref sl) (pure (n:Int))) Q E s:=by
 obtain⟨i,a,g,b⟩:=id f;unfold Ul.Slice.sliceApplied Ul.Slice.sliceFields;refine Ld (Ld (UC a b rfl (Ld (UC a b rfl (Ld (UC a b rfl (Tr ?_)))))));refine Ld (slicePart_none ?_);rw[ax (by decide)];refine Ld (ue pl (Ld (ue e (Ld (Tr ?_)))));show wpAny _ _ (match Ul.Slice.sliceAdjust lo hi 1 (n:Int) with|(lo,hi)=>pure (lo,(1:Int),Ul.Slice.slicePlaces lo hi 1)) _ _ s;rw[Ag lo hi n];show wpAny _ _ (pure (((sIx n 0 lo:Nat):Int),(1:Int),Ul.Slice.slicePlaces ((sIx n 0 lo:Nat):Int) ((sIx n n hi:Nat):Int) 1)) _ _ s;rw[Bs];exact Tr h
theorem Fq(xs:Array Ti)(i k:Nat):((TY k).filterMap λ(m:Nat)=>xs[((i:Int)+(m:Int)*1).toNat]?).toArray=((xs.toList.drop i).take k).toArray:=by
 have e:(λ(m:Nat)=>xs[((i:Int)+(m:Int)*1).toNat]?)=λm=>xs[i+m]? :=by
  funext m;have:((i:Int)+(m:Int)*1).toNat=i+m:=by omega
  rw[this]
 rw[e];have:=pick_run xs i k;rw[List.filterMap_map]at this;have a:((λx=>xs[x]?)∘λx=>i+x)=λm=>xs[i+m]? :=rfl;rw[a]at this;rw[this]
theorem getItem_tuple_cut{lo hi:br Int}(b:IsTup s.heap t items)(j:s.heap.IsSliceOf sl vl vu .none)(pl:Zm vl lo)(l:Zm vu hi)
  (n:¬(sIx items.size 0 lo=0/\sIx items.size items.size hi=items.size))
  (h:Q (.ref s.heap.objs.size) {s with heap:=s.heap.push {cls:=.type "tuple",data:=.seq ((items.toList.drop (sIx items.size 0 lo)).take (sIx items.size items.size hi - sIx items.size 0 lo)).toArray}})
  (hsz:items.size<=TL):wpAny (model prog w) A (getItem (.ref t) (.ref sl)) Q E s:=by
 have a:sizeOk (.seq ((items.toList.drop (sIx items.size 0 lo)).take (sIx items.size items.size hi - sIx items.size 0 lo)).toArray):=by show((items.toList.drop (sIx items.size 0 lo)).take (sIx items.size items.size hi - sIx items.size 0 lo)).toArray.size<=TL;rw[TU,UI,Wu,UM];omega
 have u:sIx items.size items.size hi<=items.size:=NZ _ _ (TB _) hi;obtain⟨m,e,g,o⟩:=id j;have i:s.TypeIs (.ref sl) "slice":=⟨m,e,g⟩;unfold getItem
 try specialize UY ?_
 first|refine Ld (Tr ?_)|skip
 refine Ld (afC b.typeIs (by decide) ?_);refine Ld (UR b.typeIs UU
  (UZ UU b.typeIs entry_tuple_getitem ?_ (args_tuple_getitem _ _)))
 show wpAny _ _ (Ul.Tuple.tupleItemsOf (.ref t)>>=_) _ _ s;refine Ld (tupleItemsOf_ b ?_);refine Ld (XU i ?_);rw[av (by decide)];refine Ld (jy j pl l ?_);have f:¬((((sIx items.size 0 lo:Nat):Int)==0&&(1:Int)==1&&(sIx items.size items.size hi - sIx items.size 0 lo)==items.size)=To):=by intro q;rw[T6,T6]at q;have r:=eq_of_beq q.1.1;have p:=eq_of_beq q.2;exact n ⟨by omega,by omega⟩
 show wpAny _ _ (if(((sIx items.size 0 lo:Nat):Int)==0&&(1:Int)==1&&(sIx items.size items.size hi - sIx items.size 0 lo)==items.size)=To then _ else _) _ _ s;rw[ax f,Fq]
 first
  |exact Ld (UG (Tr ⟨_,rfl,Tr h⟩) a)
  |exact Ld (UG (Ld (Tr (Tr ⟨_,rfl,Tr h⟩))) a)
  |exact Ld (Ld (UG (Tr (Tr ⟨_,rfl,Tr h⟩)) a))
  |exact Ld (Ld (UG (Tr ⟨_,rfl,Tr h⟩) a))
end
end HT
namespace L2
open PySem PySem.Spec PyProof.Rows
abbrev TO:=St->Hp->(br Int->Hp->Prop)->Prop
def PO(X:Cx)(e:br UD)(t:TO):Prop:=
 ∀(a:bg (Tt×Obj)) (s:Tv) (b:St) (H:Hp) (Q:br Int->Hp->Prop),Inv X a b H s->t b H Q->
  wpAny (model X.prog X.w) X.A (evalPart e X.env) (λu f=>∃o H',Inv X a b H' f/\Zm u o/\Q o H') X.xe s
def Cs:TO:=λ_ H Q=>Q Th H
def Nh(t:TE):TO:=λa H Q=>t a H λx b=>∃i,x=.int i/\Q (lD i) b
theorem mY:∀{us:bg Ti},Vals (ns.map V.int) us->IntsAre us ns:=by
 induction ns with
 |nil=>intro us r;rw[Xx]at r;cases r;exact .nil
 |cons n ns f=>
  intro us r;rw[TX]at r;cases r with
  |cons b a=>obtain⟨t,e⟩:=b;subst e;exact .cons n t (f a)
section
variable{X:Cx}{e:UD}{te:TE}{Z Y:br UD}{U S:TO}{pos R:Pos}
theorem wa:PO X Th Cs:=by intro a s b H Q I h;rw[akp];exact Tr ⟨Th,H,I,.none,h⟩
theorem vZ(h:PE X e te):PO X (lD e) (Nh te):=by intro a s b H Q I j;rw[evalPart_some];refine cz (h a s b H _ I j) λu n ⟨x,m,l,f,g⟩=>?_;obtain⟨i,rfl,q⟩:=g;obtain⟨t,rfl⟩:=f;exact⟨lD i,m,l,.int i t,q⟩
def NW(X:Cx)(r:V->br Int->br Int->Hp->VK->Prop):Prop:=
 ∀(a:bg (Tt×Obj)) (s:Tv) (b:St) (H:Hp) (x:V) (v g f:Ti) (Z Y:br Int) (h:Tt) (Q:VK),Inv X a b H s->RelV x v->s.heap.IsSliceOf h g f .none->Zm g Z->Zm f Y->r x Z Y H Q->
  ∃T id,typeLookup (.type T) "__getitem__"=pure (lD (.builtin id))/\s.TypeIs v T/\wpAny (model X.prog X.w) X.A (getItem v (.ref h)) (EP X a b Q) X.xe s
def SU(r:V->br Int->br Int->Hp->VK->Prop)(te:TE)(U S:TO):TE:=λa H Q=>te a H λx g=>U a g λl f=>S a f λu b=>r x l u b Q
theorem t7{r:V->br Int->br Int->Hp->VK->Prop}(G:NW X r)(L:PE X e te)(J:PO X Z U)(E:PO X Y S):PE X (.Subscript e (.Slice Z Y Th R) pos) (SU r te U S):=by intro a s g H Q I h;refine Subscript_ (cz (L a s g H _ I h) λv o ⟨x,H1,P,p,B⟩=>?_);refine wpAny_Slice (cz (J a o g H1 _ P B) λj n ⟨l,H2,O,pl,y⟩=>cz (E a n g H2 _ O y) λi f ⟨u,m,I3,C,t⟩=>?_);rw[akp];refine Tr ?_;have N:Inv X a g m {f with heap:=f.heap.push {cls:=.type "slice",data:=.fields #[j,i,.none]}}:=I3.kept (t':=f.toks) λb ob q=>bt _ q;obtain⟨T,id,M,F,K⟩:=G a {f with heap:=f.heap.push {cls:=.type "slice",data:=.fields #[j,i,.none]}} g m x v j i l u f.heap.objs.size Q N p (Heap.IsSliceOf.new ..) pl C t;show wpAny (model X.prog X.w) X.A (subscriptTail e (.Slice Z Y Th R) v (.ref f.heap.objs.size)) (EP X a g Q) X.xe {f with heap:=f.heap.push {cls:=.type "slice",data:=.fields #[j,i,.none]}};exact tail_any (ops:=[.ref f.heap.objs.size,v]) F M K (by with_unfolding_all rfl)
def D9(xs:bg V)(Z Y:br Int):bg V:=(xs.drop (HT.sIx xs.length 0 Z)).take (HT.sIx xs.length xs.length Y - HT.sIx xs.length 0 Z)
theorem qG(xs:bg V)(Z Y:br Int):(D9 xs Z Y).length<=xs.length:=by unfold D9;rw[UI,Wu];omega
def Qq(K:Tg):V->br Int->br Int->Hp->VK->Prop:=λx Z Y H Q=>∃a xs,x=.ref a/\XY K H a xs/\
 ¬(HT.sIx xs.length 0 Z=0/\HT.sIx xs.length xs.length Y=xs.length)/\∀p,H p=Th->Q (.ref p) (bq H p (.tup (D9 xs Z Y)))
theorem Nu:NW X (Qq X.K):=by
 intro g s u H x v y w Z Y A Q I l p pl m h;obtain⟨a,xs,rfl,n,o,q⟩:=h;cases l;obtain⟨t,r,j,i⟩:=I.tuple n;have f:t.toArray.size=xs.length:=by rw[TU];exact r.length.symm
 refine⟨"tuple",_,UU.lookup,j.typeIs,?_⟩;refine HT.getItem_tuple_cut j p pl m (by rw[f];exact o) ?_ (by rw[f];exact i);rw[f];refine⟨.ref s.heap.objs.size,_,I.laid (λb B q=>bt _ q) (TB _) ?_,rfl,q _ (I.UW.fresh (TB _))⟩;exact⟨Uv (qG xs Z Y) i,_,(r.drop (HT.sIx xs.length 0 Z)).take (HT.sIx xs.length xs.length Y - HT.sIx xs.length 0 Z),ZQ.new _ _⟩
def M8(K:Tg):R2:=λx y H Q=>∃a b xs ys,x=.ref a/\y=.ref b/\XY K H a xs/\XY K H b ys/\xs≠[]/\xs.length+ys.length<=TL/\
 (ys=[]->Q (.ref a) H)/\(ys≠[]->∀p,H p=Th->Q (.ref p) (bq H p (.tup (xs++ys))))
theorem Vals.aaX(r:Vals xs us):us=[]↔xs=[]:=by
 cases r with
 |nil=>simp
 |cons _ _=>simp
theorem Lz:OpR X (Wl .Add) (M8 X.K):=by intro i s B H x y v u Q I m l h;obtain⟨a,b,xs,C,rfl,rfl,ha,t,r,j,o,n⟩:=h;cases m;cases l;obtain⟨F,g,p,_⟩:=I.tuple ha;obtain⟨A,f,R,_⟩:=I.tuple t;refine HT.cat_tup p R (λz=>r (g.aaX.mp z)) (λz=>⟨.ref a,H,I,rfl,o (f.aaX.mp z)⟩) (λz=>?_) (by rw[<-g.length,<-f.length];exact j);refine⟨.ref s.heap.objs.size,_,I.laid (λb E q=>bt _ q) (TB _) ?_,rfl,n (λw=>z (f.aaX.mpr w)) _ (I.UW.fresh (TB _))⟩;exact⟨by rw[Tz];exact j,_,g.append f,ZQ.new _ _⟩
end
def M6(n:Nat)(i:Int):br Nat:=if 0<=i then(if i<n then lD i.toNat else Th) else if -(n:Int)<=i then lD (i+n).toNat else Th
def ng(xs:bg α)(i:Int):br α:=(M6 xs.length i).bind λj=>xs[j]?
theorem Js(h:M6 n i=lD j):seqIndex? i n=lD j/\j<n/\ -(n:Int)<=i/\i<n:=by
 unfold M6 at h;by_cases b:0<=i
 .rw[av b]at h
  by_cases a:i<n
  .rw[av a]at h;have e:=TQ h;exact⟨by rw[seqIndex_of b a,e],by omega,by omega,a⟩
  .rw[ax a]at h;cases h
 .rw[ax b]at h
  by_cases a: -(n:Int)<=i
  .rw[av a]at h;have e:=TQ h;exact⟨by rw[seqIndex_neg (by omega) a,e],by omega,a,by omega⟩
  .rw[ax a]at h;cases h
theorem xh(h:ng xs i=lD v):∃j,seqIndex? i xs.length=lD j/\xs[j]?=lD v/\j<xs.length/\ -(xs.length:Int)<=i/\i<xs.length:=by
 unfold ng at h;cases e:M6 xs.length i with
 |none=>rw[e]at h;cases h
 |some j=>rw[e]at h;obtain⟨g,f,b,a⟩:=Js e;exact⟨j,g,h,f,b,a⟩
theorem Ck{j:Nat}(h:xs[j]?=lD v):ng xs (j:Int)=lD v:=by
 have a:=(Tn.mp h).1;have e:M6 xs.length (j:Int)=lD j:=by unfold M6;rw[av (by omega),av (by omega)];simp
 unfold ng;rw[e];exact h
def JX(b:UD):Prop:=∀o i,subscripted b Tw o i=operate [o,i] (getItem o i)
def IxR(X:Cx)(r:R2):Prop:=
 ∀(e a:UD) (b:bg (Tt×Obj)) (s:Tv) (f:St) (H:Hp) (x y:V) (v u:Ti) (Q:VK),Inv X b f H s->RelV x v->RelV y u->r x y H Q->
  subscripted a Tw v u=operate [v,u] (getItem v u)->wpAny (model X.prog X.w) X.A (subscriptTail e a v u) (EP X b f Q) X.xe s
def RB(X:Cx)(f:String)(r:V->bg V->Hp->VK->Prop):Prop:=
 ∀(a:bg (Tt×Obj)) (s:Tv) (b:St) (H:Hp) (x:V) (xs:bg V) (v:Ti) (e:bg Ti) (Q:VK),Inv X a b H s->RelV x v->Vals xs e->r x xs H Q->
  wpAny (model X.prog X.w) X.A (call (.builtin f) (v::e)) (EP X a b Q) X.xe s
section
variable{X:Cx}{a b:UD}{ta tb:TE}{pos:Pos}
theorem IxR.or(h:IxR X r)(h':IxR X r'):IxR X (λx y H Q=>r x y H Q\/r' x y H Q):=by
 intro e f g s i H x y v u Q I l j q m;rcases q with q|q
 .exact h e f g s i H x y v u Q I l j q m
 .exact h' e f g s i H x y v u Q I l j q m
theorem cM{r:R2}(m:IxR X r)(ha:PE X a ta)(n:PE X b tb)(l:JX b):PE X (.Subscript a b pos) (Jm r ta tb):=by intro e s f H Q I h;exact Subscript_ (NJ ha n I h λv u g x y p o j i q=>m a b e g f p x y v u Q o j i q (l _ _))
def QI(K:Tg):R2:=λx y H Q=>∃p xs i v,x=.ref p/\y=.int i/\Ym K H p xs/\ng xs i=lD v/\Q v H
def QC(K:Tg):R2:=λx y H Q=>∃p xs i v,x=.ref p/\y=.int i/\XY K H p xs/\ng xs i=lD v/\Q v H
def Qs:R2:=λx y H Q=>∃z i c,x=.str z/\y=.int i/\z.length<=TL/\ng z.cps.toList i=lD c/\Q (.str ⟨#[c]⟩) H
theorem Ko:IxR X (QI X.K):=by
 intro l m e s E H x y v u Q I G F h A;obtain⟨p,xs,i,z,rfl,rfl,J,M,q⟩:=h;cases G;obtain⟨t,rfl⟩:=F;obtain⟨R,r,pl,S⟩:=I.list J;obtain⟨j,g,P,T,O,N⟩:=xh M;obtain⟨w,C,n⟩:=r.get P;have L:=r.length;have hn:=wy;have f:EP X e E Q w s:=⟨z,H,I,n,q⟩;by_cases B:0<=i
 .have o:i.toNat=j:=by
   rw[seqIndex_of B N]at g;exact TQ g
  exact item_listR pl.isList B (by omega) (by rw[o];simpa using C) f A
 .have o:(i+(R.toArray.size:Int)).toNat=j:=by
   rw[seqIndex_neg (by omega) O]at g;rw[TU,<-L];exact TQ g
  exact subscriptTail_builtinR pl.isList.typeIs afD.lookup
   (wpAny_getItem_list_neg pl.isList (by omega) (by rw[TU]<;>omega) (by omega) (by rw[o];simpa using C) ⟨rfl,f⟩) A
theorem NT:IxR X (QC X.K):=by
 intro f g e s n H x y v u Q I A o h B;obtain⟨p,xs,i,z,rfl,rfl,C,F,q⟩:=h;cases A;obtain⟨t,rfl⟩:=o;obtain⟨R,r,pl,M⟩:=I.tuple C;obtain⟨j,J,G,P,O,N⟩:=xh F;obtain⟨w,L,l⟩:=r.get G;have E:=r.length;have hn:=wy;have m:EP X e n Q w s:=⟨z,H,I,l,q⟩;exact subscriptTail_builtinR pl.typeIs slot_tuple_getitem.lookup
  (getItem_tuple pl (by omega) (by omega) (by rw[TU,<-E];exact J) (by simpa using L) ⟨rfl,m⟩) B
theorem OT:IxR X Qs:=by
 intro e f g s F H x y v u Q I n m h o;obtain⟨z,i,c,rfl,rfl,J,r,q⟩:=h;obtain⟨t,rfl⟩:=n;obtain⟨G,rfl⟩:=m;obtain⟨j,l,B,K,A,w⟩:=xh r;have p:z.cps.toList.length=z.length:=by simp[Str.length]
 rw[p]at l A w;have hn:=wy;exact tail_any (abE s z t) slot_str_getitem.lookup (getItem_str (by have E:decide (i< -(2^63:Int))=Tw:=a4 (by omega);have C:decide (i≥2^63)=Tw:=a4 (by omega);rw[E,C,aeS]) (by rw[l];simpa using B) ⟨.str ⟨#[c]⟩,H,I.tok _,⟨_,rfl⟩,q⟩) o
def RD(K:Tg):R2:=λx y H Q=>QI K x y H Q\/QC K x y H Q\/Qs x y H Q
theorem bX:IxR X (RD X.K):=Ko.or (NT.or OT)
theorem we(lo hi:br Int)(n:Nat):(sliceBounds lo hi Th n).1=((HT.sIx n 0 lo:Nat):Int)/\(sliceBounds lo hi Th n).2.1=((HT.sIx n n hi:Nat):Int)/\(sliceBounds lo hi Th n).2.2=1:=by
 refine⟨?_,?_,rfl⟩
 .cases lo with
  |none=>simp[sliceBounds,HT.sIx]
  |some i=>
   simp only[sliceBounds,HT.sIx,acL,show(1:Int)>0 by decide,if_true];by_cases h:i<0
   .simp only[h,if_true]<;>omega
   .simp only[h,if_false]<;>omega
 .cases hi with
  |none=>simp[sliceBounds,HT.sIx]
  |some i=>
   simp only[sliceBounds,HT.sIx,acL,show(1:Int)>0 by decide,if_true];by_cases h:i<0
   .simp only[h,if_true]<;>omega
   .simp only[h,if_false]<;>omega
theorem uK(e:bg Ti)(lo hi:br Int):slicePick e.toArray lo hi Th=((e.drop (HT.sIx e.length 0 lo)).take (HT.sIx e.length e.length hi - HT.sIx e.length 0 lo)).toArray:=by obtain⟨h,g,f⟩:=we lo hi e.toArray.size;unfold slicePick;rw[h,g,f];simp only[sliceRange_one,pick_run,TU]<;>rfl
def QN(K:Tg):V->br Int->br Int->Hp->VK->Prop:=λx lo hi H Q=>∃a xs,x=.ref a/\Ym K H a xs/\∀p,H p=Th->Q (.ref p) (bq H p (.lst (D9 xs lo hi)))
theorem J1:NW X (QN X.K):=by intro f s o H x v t p lo hi u Q I i n pl j h;obtain⟨a,xs,rfl,m,q⟩:=h;cases i;obtain⟨y,r,g,l⟩:=I.list m;have e:=r.length;refine⟨"list",_,afD.lookup,g.isList.typeIs,?_⟩;refine wpAny_getItem_list_slice g.isList n pl j .none (by simp) ?_ (by rw[TU]<;>omega);rw[uK,<-e];refine⟨.ref s.heap.objs.size,_,I.laid (λb w q=>bt _ q) (TB _) ?_,rfl,q _ (I.UW.fresh (TB _))⟩;exact⟨Uv (qG xs lo hi) l,_,0,(r.drop (HT.sIx xs.length 0 lo)).take (HT.sIx xs.length xs.length hi - HT.sIx xs.length 0 lo),b5 _ rfl⟩
theorem Wj.or(h:Wj X f r)(h':Wj X f r'):Wj X f (λxs H Q=>r xs H Q\/r' xs H Q):=by
 intro e s g H xs i Q I j q;rcases q with q|q
 .exact h e s g H xs i Q I j q
 .exact h' e s g H xs i Q I j q
theorem wS:Wj X (.type "list") (λxs H Q=>∃p ys,xs=[.ref p]/\(Ym X.K H p ys\/XY X.K H p ys)/\∀l,H l=Th->Q (.ref l) (bq H l (.lst ys))):=by
 intro m s G H xs L Q I r h;obtain⟨p,ys,rfl,y,q⟩:=h;obtain⟨u,rfl,J⟩:=iV r;cases J
 have B:∀(g:bg Ti),Vals ys g->ys.length<=TL->∀(f:Heap) (j:Nat),(∀b o',s.heap.get? b=lD o'->f.get? b=lD o')->
   f.get? s.heap.objs.size=lD {cls:=.type "list",dict:=Th,data:=.seq g.toArray j,slots:= #[]}->EP X m G Q (.ref s.heap.objs.size) {s with heap:=f}:=λg i v f j t e=>
  ⟨.ref s.heap.objs.size,_,I.laid t (TB _) (show ObjOk X.prog X.w _ f _ (.lst ys) from⟨v,g,j,i,e⟩),rfl,q _ (I.UW.fresh (TB _))⟩
 rcases y with y|y
 .obtain⟨g,i,pl,v⟩:=I.list y;have A:=i.length;obtain⟨o,C,F,n,E⟩:=pl.isList;exact akq p (.inl rfl) C F E (λf j t e=>B g i v f j t e) (by simp only[TU]<;>omega)
 .obtain⟨g,i,pl,v⟩:=I.tuple y;have A:=i.length;obtain⟨o,C,F,n,E⟩:=pl;exact akq p (.inr rfl) C F E (λf j t e=>B g i v f j t e) (by simp only[TU]<;>omega)
theorem gD:Wj X (.type "tuple") (λxs H Q=>∃p ys,xs=[.ref p]/\((Ym X.K H p ys/\∀l,H l=Th->Q (.ref l) (bq H l (.tup ys)))\/(XY X.K H p ys/\Q (.ref p) H))):=by
 intro i s C H xs E Q I r h;obtain⟨p,ys,rfl,h⟩:=h;obtain⟨u,rfl,v⟩:=iV r;cases v;rcases h with⟨g,q⟩|⟨g,q⟩
 .obtain⟨n,f,pl,j⟩:=I.list g
  have m:=f.length;refine call_tuple_list pl.isList (λA y=>?_) (by simp only[TU]<;>omega);have t:=I.kept (t':=s.toks) y
  have B:=
   t.laid (t':=s.toks) (λb o e=>bt _ e) (TB _) (show ObjOk X.prog X.w _ _ _ (.tup ys) from⟨j,n,f,ZQ.new _ _⟩)
  exact⟨.ref A.objs.size,_,B,rfl,q _ (t.UW.fresh (TB _))⟩
 .obtain⟨n,f,pl,j⟩:=I.tuple g;exact call_tuple_same pl ⟨.ref p,H,I,rfl,q⟩
def R8(K:Tg)(T:String)(x:V)(H:Hp):Prop:=match x with
 |.str _=>T= "str"
 |.int _=>T= "int"
 |.ref p=>(T= "list"/\∃xs,Ym K H p xs)\/(T= "tuple"/\∃o,K.lookup p=lD o/\o.cls=.type "tuple"/\o.dict=Th)\/
   (T= "dict"/\((∃Ub,H p=lD (.dK Ub))\/∃Ub,H p=lD (.dT Ub)))\/(T= "set"/\∃S n,H p=lD (.set S n))
 |_=>False
theorem HM(I:Inv X pins σ H s)(r:RelV x v)(ty:R8 X.K T x H):
  s.TypeIs v T/\∀a,v=.ref a->∃ob,s.heap.get? a=lD ob/\ob.dict=Th:=by
 cases x with
 |str z=>obtain⟨t,rfl⟩:=r;cases(show T= "str" from ty);exact⟨abE s z t,λ_ e=>nomatch e⟩
 |int i=>obtain⟨t,rfl⟩:=r;cases(show T= "int" from ty);exact⟨aac s i t,λ_ e=>nomatch e⟩
 |ref p=>
  cases r;rcases ty with⟨rfl,xs,l⟩|⟨rfl,o,f,m,h⟩|⟨rfl,f⟩|⟨rfl,S,n,f⟩
  .obtain⟨q,_,pl,_⟩:=I.list l;refine⟨pl.isList.typeIs,λa e=>?_⟩;cases e;obtain⟨o,n,e,c,h,_⟩:=pl;exact⟨o,e,h⟩
  .refine⟨⟨o,I.Yu p o f,m⟩,λa e=>?_⟩;cases e;exact⟨o,I.Yu _ o f,h⟩
  .have z:∃o,s.heap.get? p=lD o/\o.ExactDict:=by
    rcases f with⟨Ub,f⟩|⟨Ub,f⟩
    .obtain⟨_,_,_,_,o,_,_,e,g,_⟩:=I.UW p _ f;exact⟨o,e,g⟩
    .obtain⟨_,_,_,_,o,_,_,e,g,_⟩:=I.UW p _ f;exact⟨o,e,g⟩
   obtain⟨o,e,g⟩:=z;refine⟨⟨o,e,g.1⟩,λa j=>?_⟩;cases j;exact⟨o,e,g.2.1⟩
  .obtain⟨o,_,_,_,e,g,_⟩:=I.UW p _ f;refine⟨⟨o,e,g.1⟩,λa j=>?_⟩;cases j;exact⟨o,e,g.2.1⟩
 |_=>exact False.elim ty
def QG(K:Tg)(T:String)(r:V->bg V->Hp->VK->Prop)(to:TE):TE:=λf H Q=>to f H λx e=>R8 K T x e/\r x [] e Q
def RF(K:Tg)(T:String)(r:V->bg V->Hp->VK->Prop)(to:TE)(t:TA):TE:=λe H Q=>to e H λx f=>R8 K T x f/\t e f λxs g=>r x xs g Q
variable{o e:UD}{es:bg UD}{to:TE}{t:TA}{name:Str}{Z Y:Pos}{T U:String}{r:V->bg V->Hp->VK->Prop}
theorem E5(pa:PlainAttrs T)(g:Slot T name U)(i:typeOf (.builtin U)=pure (.type "method_descriptor"))(hm:RB X U r)(u:PE X o to)
  (A:attributeBase o name X.env (eval o X.env)=eval o X.env:=by rfl) (j:(Z.endLine==Y.line)=To:=by rfl):PE X (.Call (.Attribute o name Z) [] [] Y) (QG X.K T r to):=by
 intro f s l H Q I h;refine wpAny_Call_method0_late A j (cz (u f s l H _ I h) λv p ⟨x,B,n,m,ty,q⟩=>?_);obtain⟨y,w⟩:=HM n m ty;exact⟨T,U,pa,g,i,y,w,Calls.callWith_builtin rfl (PySem.evalArgs_none (hm f p l B x [] v [] Q n m .nil q))⟩
theorem sR(pa:PlainAttrs T)(g:Slot T name U)(j:typeOf (.builtin U)=pure (.type "method_descriptor"))(hm:RB X U r)(G:PE X o to)(ha:PA X (e::es) t)
  (M:attributeBase o name X.env (eval o X.env)=eval o X.env:=by rfl)
  (l:((backTo Y (Uc (e::es) X.env)).all (λx=> !x.1)&&(backToKw Y (keywordEach [] X.env)).all (λx=>x.1.isSome)
   &&decide ((e::es).length+([]:bg aas).length+(if([]:bg aas).isEmpty then 0 else 1)<30))=To:=by rfl)
  (m:(Z.endLine==Y.line)=To:=by rfl) (F:Uc (e::es) X.env=(Tw,eval e X.env)::Uc es X.env:=by rfl) (n:(backTo Y (Uc es X.env)).any (·.1)=Tw:=by rfl):
  PE X (.Call (.Attribute o name Z) (e::es) [] Y) (RF X.K T r to t):=by
 intro f s i H Q I h;refine wpAny_Call_method_late M l m rfl (cz (G f s i H _ I h) λv A ⟨x,P,u,p,ty,E⟩=>?_);obtain⟨L,J⟩:=HM u p ty;refine⟨T,U,pa,g,j,L,J,?_⟩;have q:=ha Y f A i P _ u E;rw[F]at q⊢;refine Calls.callWith_builtin (by show(Tw||(backTo Y (Uc es X.env)).any (·.1))=Tw;rw[n]<;>rfl) (Calls.evalArgs_plain ?_);exact cz q λw y ⟨vs,O,N,B,C⟩=>hm f y i O x vs v w Q N p B C
end
def S7(X:Cx)(f:String)(r:V->bg V->Hp->VK->Prop):Prop:=
 ∀(a:bg (Tt×Obj)) (s:Tv) (b:St) (H:Hp) (x:V) (xs:bg V) (v:Ti) (e:bg Ti) (Q:VK),Inv X a b H s->RelV x v->Vals xs e->r x xs H Q->
  wpAny (model X.prog X.w) X.A (call (.builtin f) (v::e)) (EP X a b Q) X.xe s
theorem Vals.one:∀{x:V} {us:bg Ti},Vals [x] us->∃u,us=[u]/\RelV x u
 |_,_,.cons r .nil=>⟨_,rfl,r⟩
theorem Vals.rep(h:Vals xs us):∀k:Nat,Vals (TJ k xs).flatten (TJ k us).flatten
 |0=>.nil
 |k+1=>by rw[UN,UN,VV,VV];exact Vals.append h (Vals.rep h k)
theorem pR(b:bg Ti):∀(k:Nat) (a:bg Ti),
  Yi (λx1 x2=>x1++x2) a.toArray (TJ k b.toArray)=(a++(TJ k b).flatten).toArray
 |0,a=>by simp
 |k+1,a=>by
  have e:a.toArray++b.toArray=(a++b).toArray:=by simp
  have f:(a++b)++(TJ k b).flatten=a++(TJ (k+1) b).flatten:=by rw[UN,VV,Ux]
  rw[<-f,<-pR b k (a++b),<-e,UN,Yq]
section
variable{X:Cx}{Z:bg (Tt×Obj)}{Y:St}{H:Hp}{s:Tv}{l b:Tt}{xs ys zs:bg V}
theorem Inv.aj5{g a:bg Ti}(I:Inv X Z Y H s)(o:H l=lD (.lst xs))
  (e:s.heap.get? l=lD {cls:=.type "list",data:=.seq g.toArray n}) (j:f g.toArray=a.toArray) (h:Vals ys a) (hz:ys.length<=TL):
  Inv X Z Y (bq H l (.lst ys)) {s with heap:=s.heap.update l (Obj.mapSeq f),toks:=t'}:=by
 have q:=alP e f;rw[j]at q;refine I.write (by rw[o];exact trivial) (.inl rfl) (λp u m i=>(b7 s.heap (Obj.mapSeq f) (db m)).trans i) ⟨_,q⟩ ?_;exact⟨hz,a,_,h,q⟩
theorem Inv.ahl(I:Inv X Z Y H s)(a:Vals ys Uz)(hz:ys.length<=TL):
  Inv X Z Y (bq H s.heap.objs.size (.lst ys)) {s with heap:=s.heap.push {cls:=.type "list",data:=.seq Uz.toArray},toks:=t'}:=
 I.laid (λ_ _ q=>bt _ q) (TB _) ⟨hz,Uz,0,a,b5 _ rfl⟩
theorem Inv.fresh(I:Inv X Z Y H s):H s.heap.objs.size=Th:=I.UW.fresh (TB _)
theorem Inv.agG(I:Inv X Z Y H s)(f:H l=lD (.lst xs)):xs.length<=TL/\∃(a:bg Ti) (n:Nat),Vals xs a/\xs.length=a.length/\s.heap.get? l=lD {cls:=.type "list",data:=.seq a.toArray n}:=by obtain⟨z,a,n,r,e⟩:=I.UW l _ f;exact⟨z,a,n,r,r.length,e⟩
theorem IB(h:n<=TL):Ul.List.listTooLong n=Tw:=by unfold Ul.List.listTooLong;exact a4 (by omega)
end
section
variable{X:Cx}
def xM:V->bg V->Hp->VK->Prop:=λx vs H Q=>∃l xs y,x=.ref l/\vs=[y]/\H l=lD (.lst xs)/\xs.length<TL/\Q .V8 (bq H l (.lst (xs++[y])))
theorem ir:S7 X "list.append" xM:=by intro a s j H x vs v m Q I f rv h;obtain⟨l,xs,y,rfl,rfl,b,o,q⟩:=h;cases f;obtain⟨u,rfl,g⟩:=rv.one;obtain⟨z,i,n,r,p,e⟩:=I.agG b;refine X8 F.slot_list_append ⟨_,e,rfl⟩ F.entry_list_append (F.args_list_append_2 _ _) (PySem.list_append l i.toArray n u (by rw[TU];omega)) ⟨e,?_⟩;refine⟨.V8,_,I.aj5 b e (by simp) (r.append (.cons g .nil)) ?_,rfl,q⟩;rw[Tz,Xb];omega
theorem Cp(xs:bg α)(k:Nat):(TJ k xs).flatten.length=k*xs.length:=by
 induction k with
 |zero=>simp
 |succ k a=>rw[UN,VV,Tz,a,age,abF]
end
section
variable{prog:T5}{w:Uu}{A:Uk}{E:Ti->Tv->Prop}{s:Tv}
set_option maxRecDepth 100000 in
end
end L2
namespace Att
open PySem PySem.W PySem.Calls PyProof.Rows
theorem qU:∀(e:bg Int) (vs:bg Ti),WellAll P h vs (e.map WData.int)->IntsAre vs e:=by
 intro e
 induction e with
 |nil=>intro vs w;rw[Xx]at w;cases w;exact .nil
 |cons n e f=>
  intro vs w;rw[TX]at w;cases w with
  |cons a b=>cases a;exact .cons _ _ (f _ b)
theorem D7{l:OpenLaw}(hn:l.most=lD n)
  (e:l.row.toRowW.claim.pre args=To) (i:WellAll P h vals args):
  ∃a vs ns,vals=[Ti.ref a]/\args=[WData.list (ns.map WData.int)]/\h.get? a=lD {cls:=.type "list",data:=.seq vs.toArray}/\IntsAre vs ns/\ns.length<=n:=by
 have j:=(pre_splitW e).1;have o:l.pre.holds [] {args:=args}=To:=(pre_splitW e).2;obtain⟨d,r,rfl,A,y⟩:=hasAllW_cons j;obtain rfl:=hasAllW_nil y;obtain⟨xs,rfl,w⟩:=hasW_list A;obtain⟨ns,rfl⟩:=items_int w;have b:ns.length<=n:=by
  unfold OpenLaw.pre at o;have g:(WTm.not (.lt (.lit (.int (n:Int))) (.len (.arg 0)))).holds [] {args:=[.list (ns.map .int)]}=To:=by have g:=(holds_andW o).1;rw[hn]at g;exact g
  have f:=condW_of g (w_not (w_lt w_lit (w_len_list (w_arg rfl))));rw[Tj]at f;refine Nat.le_of_not_lt λq=>?_;have u:(n:Int)<((ns.length:Nat):Int):=by omega
  first
   |(rw[aP u]at f;exact a6 f (by decide))
   |(simp at f;omega)
 cases i with
 |cons t p=>
  cases p;cases t with
  |list v m=>exact⟨_,_,ns,rfl,rfl,v,qU ns _ m,b⟩
theorem DS(l:OpenLaw)(args:bg WData):l.row.toRowW.claim.post args (.bool To) args=To:=
 postW_of
  (show WShape.has [] (.bool To) .bool=To by first|rfl|decide|simp[WShape.has,WShape.arms,WShape.armsAll])
  (show(WTm.eq .res (.lit (.bool To))).value [] {args:=args,res:=lD (.bool To),after:=args}=lD (.bool (To==To)) from w_eq_bool (w_res rfl) w_lit) rfl
theorem attach_call{l:OpenLaw}{n:Nat}{q:T5}{e:bg Str}{J:(Str->br Ti)->Heap->Prop}{I:Uu->Heap->Prop}{d:DefRec}
  (hn:l.most=lD n) (y:d.params.defaults=[])
  (call:∀(w:Uu) (s₀ b:Tv) (mg t:Str->br Ti) (fa:Tt) (o:Obj) (p m h:Ti) (a:Tt) (vs:bg Ti) (j:bg Int),
   Ground q e [] J w s₀ mg t b.heap->I w b.heap->
   b.heap.get? fa=lD o->o.data=.func (docDef d.name d.params d.body d.scope p m h)->b.heap.CodeRec m d.name->mg d.name=lD (.ref fa)->
   b.heap.get? a=lD {cls:=.type "list",data:=.seq vs.toArray}->IntsAre vs j->j.length<=n->b.gens= #[]->
   codeAny (model l.prog w) callerA (.call (.ref fa) ⟨[.ref a],[]⟩) (λr s'=>r=.ok (.ret (.bool To))/\OldK b.heap s'.heap/\s'.os=b.os/\AllBare s'.gens) b):
  WalkO q e J I l.row.toRowW d [] (λf vs=>agf f vs):=by
 intro w s₀ b mg t G Y fa o p m h dV kV M P A F v O H E U C T K u N;obtain rfl:dV=.none:=Dflts.none F y;obtain rfl:kV=.none:=Dflts.noKw F;obtain⟨a,vs,j,rfl,rfl,B,g,i⟩:=D7 hn C u;refine enter_call (XS (call w s₀ b mg t fa o p m h a vs j G Y M (fd_plain P) A v B g i O) λr s' L=>?_);obtain⟨rfl,S,R,Q⟩:=L;exact⟨.inl ⟨.bool To,.bool To,[],rfl,λ_=>rfl,.bool To,DS l _,λ_=>⟨Yr,λ_ hm=>(nomatch hm)⟩⟩,S,R,Q⟩
end Att
namespace L2
open PySem PySem.Spec PyProof.Rows
theorem jA:∀{vs:bg Ti} {a:bg Int},IntsAre vs a->Vals (a.map V.int) vs
 |_,_,.nil=>.nil
 |_,_,.cons n t h=>.cons ⟨t,rfl⟩ (jA h)
def Qr(H:Hp):Prop:=∀b,H b=Th\/∃o xs,H b=lD (.frz o (.lst xs))
theorem HY{P:T5}{w:Uu}{K:Tg}{mg I:Str->br Ti}{CX:xC}{k:Nat}{fa a:Tt}{fd:UO}{x:Str}{sp:Sp}{f:Tv}{vs:bg Ti}{p:bg Int}
  (Z:K.In f.heap) (t:f.heap.Ns TZ mg) (g:f.heap.Ns builtinsNs I) (L:∀x:Str,x≠ "__name__"->I x=UT x) (R:f.heap.NoLimit) (hg:f.gens= #[])
  (ha:f.heap.get? a=lD {cls:=.type "list",data:=.seq vs.toArray}) (hi:IntsAre vs p) (T:p.length<=TL) (hr:VU k callerA)
  (F:∀base:Heap,K.In base->base.Ns TZ mg->FnOk P w K mg base CX k fa fd [x] sp) (S:∀(s:Tv) (u:Ti),YS s fd ⟨[u],[]⟩ [(x,u)])
  (J:∀H:Hp,Qr H->Ym K H a (p.map V.int)->sp [.ref a] H (λv _=>v=.bl To) λ_ _ _=>False)
  (M:∀H e s',CX [] H f (λ_ _ _=>False) e s'->False):
  codeAny (model P w) callerA (.call (.ref fa) ⟨[.ref a],[]⟩) (λr s'=>r=.ok (.ret (.bool To))/\OldK f.heap s'.heap/\s'.os=f.os/\AllBare s'.gens) f:=by
 have rv:=jA hi;have O:=hi.length
 have j:∀H:Hp,Qr H->Ym K H a (p.map V.int)->YE P w H f.heap->(∀b,H b≠Th->b=a)->(H a≠Th->K.lookup a=Th)->
   codeAny (model P w) callerA (.call (.ref fa) ⟨[.ref a],[]⟩) (λr s'=>r=.ok (.ret (.bool To))/\OldK f.heap s'.heap/\s'.os=f.os/\AllBare s'.gens) f:=by
  intro H U hS UW X hK;have E:∀{b:Tt} {o:Obj},f.heap.get? b=lD o->H b=Th->(xi f.heap H).get? b=lD o:=λe n=>HJ e n;have G:∀{b:Tt} {o:Obj} {A:Array VN} {B:Nat},f.heap.get? b=lD o->o.data=.dict A B->H b=Th:=λ{b o A B} e d=>by
   cases q:H b with
   |none=>rfl
   |some u=>have N:b=a:=X b (by rw[q];simp);subst N;rw[ha]at e;cases e;have d':Data.seq vs.toArray _=Data.dict A B:=d;cases d'
  have i:∀{b:Tt} {m:Str->br Ti},f.heap.Ns b m->(xi f.heap H).Ns b m:=λ{b m} ⟨o,A,B,e,d,r⟩=>⟨o,A,B,E e (G e d),d,r⟩;have y:K.In (xi f.heap H):=λb o e=>E (Z b o e) (by
   cases q:H b with
   |none=>rfl
   |some u=>have N:b=a:=X b (by rw[q];simp);subst N;rw[hK (by rw[q];simp)]at e;cases e)
  have hM:Mod K mg (xi f.heap H):=⟨y,i t,⟨I,i g,L⟩,let⟨mc,h1,h2⟩:=R;⟨mc,i h1,h2⟩⟩;have e0:Env0 P w K mg (xi f.heap H) callerA [] f H:=⟨rfl,hM,λb o e=>KO e,agc (Eh _ _),trivial,λb g=>a6 (show b∈([]:bg Tt) from g) (by simp),UW,.of_eq hg⟩;refine XS ((F _ y (i t)).run callerA [] f H ⟨[.ref a],[]⟩ [.ref a] [.ref a] _ _ hr e0 (S f (.ref a)) (.cons rfl .nil) (J H U hS)) λr s' h=>?_;cases r with
  |error e=>exact(M H e s' h).elim
  |ok fl=>
   cases fl with
   |next=>exact False.elim h
   |brk=>exact False.elim h
   |cont=>exact False.elim h
   |ret u=>
    obtain⟨v,H',os,C,un,Q,r',q⟩:=h;have q':v=.bl To:=q;subst q';obtain rfl:u=Ti.bool To:=r';refine⟨rfl,OldK.of_keep λb o e=>?_,os,C⟩;cases q:H b with
    |none=>exact un.keep b o e q (by intro z;exact a6 (show b∈([]:bg Tt) from z) (by simp)) (by simp)
    |some u=>
     rcases U b with z|⟨ob,xs,z⟩
     .rw[q]at z;cases z
     .have z2:=un.Zv b ob _ z;obtain⟨Y,_⟩:=UW b _ z;obtain⟨e2,_⟩:=Q b _ z2;rw[e]at Y;cases Y;exact e2
 cases hk:K.lookup a with
 |some o=>have e:=Z a o hk;rw[ha]at e;cases e;refine j (λ_=>Th) (λ_=>.inl rfl) (.inr ⟨_,vs.toArray,_,hk,rfl,rfl,rfl,by rw[TU,O];exact T,by simpa using rv⟩) (λb u z=>by have l:(Th:br HO)=lD u:=z;cases l) (λb z=>a6 rfl z) λz=>a6 rfl z
 |none=>
  refine j (λb=>if b=a then lD (.frz {cls:=.type "list",data:=.seq vs.toArray} (.lst (p.map V.int))) else Th) (λb=>?_) (.inl (.inr ⟨{cls:=.type "list",data:=.seq vs.toArray},av rfl⟩)) (λb u z=>?_) (λb z=>?_) λ_=>hk
  .by_cases g:b=a
   .exact .inr ⟨_,_,av g⟩
   .exact .inl (ax g)
  .by_cases g:b=a
   .have l:=(av g).symm.trans z;cases l;subst g;exact⟨ha,by rw[Tj];exact T,vs,_,rv,ha⟩
   .have l:=(ax g).symm.trans z;cases l
  .by_cases g:b=a
   .exact g
   .exact a6 (ax g) z
def bj(s:VH)(j:Nat):VH:=match s with
 |.ClassDef _ _ _ body _ _ _ _ _ _ _=>body.getD j (.Pass ⟨0,0,0,0⟩)
 |_=>.Pass ⟨0,0,0,0⟩
def gj(s:VH):Arguments:=match s with
 |.FunctionDef _ a _ _ _ _ _ _ _ _=>a
 |_=>{posonlyargs:=[],args:=[],vararg:=Th,kwonlyargs:=[],kw_defaults:=[],kwarg:=Th,defaults:=[]}
def cr(s:VH):bg VH:=match s with
 |.FunctionDef _ _ b _ _ _ _ _ _ _=>b
 |_=>[]
def aB(s:VH):Xi:=match s with
 |.FunctionDef _ _ _ _ _ _ sc _ _ _=>sc
 |_=>{kind:=.function,names:=[],isGenerator:=Tw,isCoroutine:=Tw}
abbrev dD:xC:=λ_ _ _ _ _ _=>False
abbrev E0:XK:=λ_ _ _=>False
theorem Ha:gz dD X E0:=λ_ _ _ _ _ _ _ h=>h.elim
structure WL(K:Tg)(x qual:Str)(st:VH)(f:Tt)(fd:UO):Prop where
 ex:∃(oc:Ti) (od:br Tt) (kV doc pm:Ti) (an:br Tt) (U8 ct:Ti) (osl:Array (br Ti)),
  fd=Va x qual (gj st) (cr st) (aB st) .none kV doc pm an U8 ct/\K.lookup f=lD ⟨oc,od,.func fd,osl⟩/\Xs K U8 qual=To
 kp:Vm K (.ref f)=To
section
variable{P:T5}{w:Uu}{K:Tg}{mg:Str->br Ti}{base:Heap}
theorem WL.ok{x a:Str}{st:VH}{f:Tt}{fd:UO}{N ps:bg Str}{k:Nat}{sp:Sp}(F:WL K x a st f fd)(S:Wb N ps (aB st))(len:∀vs H Q E,sp vs H Q E->vs.length=ps.length)
  (n:∀(b:Ti) (A:Uk) (outer:bg Env) (s:Tv) (H:Hp) (vs:bg V) (Q:VK) (E:XK),VU k (A.deeper (envOfC a (aB st) s.heap.objs.size f b))->sp vs H Q E->
   ∃t,Zl (gy dD P w K mg base N a (aB st) f b A outer s H E).nox (cr st) t/\t {nx:=λ_ H'=>Q .V8 H',rt:=Q} (start N vs) H):FnOk P w K mg base dD (k+1) f fd ps sp:=by
 obtain⟨r,p,kV,m,o,u,b,ct,i,rfl,j,g⟩:=F.ex;refine FL j g S len λA outer s H vs Q E l e=>?_;obtain⟨t,h,q⟩:=n b A outer s H vs Q E l e;exact⟨t,h.nox,q⟩
theorem WL.binds{x a:Str}{st:VH}{f:Tt}{fd:UO}{ps:bg Str}(F:WL K x a st f fd)
  (h:∀(kV b e:Ti) (g:br Tt) (i ct:Ti) (us:bg Ti),us.length=ps.length->bindArgs (Va x a (gj st) (cr st) (aB st) .none kV b e g i ct) ⟨us,[]⟩=pure (ps.zip us)):Binds K fd ps []:=by
 obtain⟨n,m,kV,b,e,g,i,ct,j,rfl,o,l⟩:=F.ex;exact .all (h kV b e g i ct)
theorem Iv{st:VH}{kV a e b ct:Ti}(l:K.lookup f=lD ⟨oc,od,.func (Va x qual (gj st) (cr st) (aB st) .none kV a e an b ct),osl⟩)
  (c:Xs K b qual=To) (k:Vm K (.ref f)=To):WL K x qual st f (Va x qual (gj st) (cr st) (aB st) .none kV a e an b ct):=⟨⟨oc,od,kV,a,e,an,b,ct,osl,rfl,l,c⟩,k⟩
end
theorem Cm(a:VU k A):A.units+1<cLine:=ac0 (Nat.add_le_add_left (by decide:1<=64) _) a.units
section
variable{X:Cx}
theorem pv(i:Nat)(e:X.N[i]?=lD x:=by rfl)(b:RA X.env.scope x:=by first|exact a7 rfl|exact bb (a7 rfl)|exact bb (bb rfl))(hd:(x==("__debug__":Str))=Tw:=by decide)
  (a:(x==("__classdict__":Str))=Tw:=by decide):PE X (.Name x pos) (uF i):=PX e b hd a
end
def Vp(H H':Hp):Prop:=∀b o,H b=lD o->H' b=lD o
theorem Vp.refl(H:Hp):Vp H H:=λ_ _ h=>h
theorem Vp.trans(a:Vp H H1)(b:Vp H1 H2):Vp H H2:=λc o h=>b c o (a c o h)
theorem Vp.free(e:Vp H H')(h:H' l=Th):H l=Th:=by
 cases q:H l with
 |none=>rfl
 |some o=>rw[e l o q]at h;cases h
end L2
set_option maxHeartbeats 4000000
namespace L2
open PySem PySem.Spec PyProof.Rows
section
variable{X:Cx}{Z:bg (Tt×Obj)}{σ:St}{H:Hp}{s:Tv}{h':Heap}
theorem Inv.abX{ch:bg Tt}(I:Inv X Z σ H s)(i:∀b∈ch,pV X Z H b)
  (k:∀b u,b∉ch->s.heap.get? b=lD u->h'.get? b=lD u) (l:s.heap.objs.size<=p)
  (new:ObjOk X.prog X.w (bq H p o) h' p o):Inv X Z σ (bq H p o) {s with heap:=h',toks:=t'}:=by
 have hn:=I.UW.fresh l;have f:∀b u,H b=lD u->b∉ch:=λb u e z=>by rw[(i b z).1]at e;cases e
 have h:∀b u,s.heap.get? b=lD u->b≠p:=λb u e=>T8 (T9 (bP e) l);refine I.step (λb g=>?_) (λb u _ _ a e _=>k b u a e) (λb u _ _ a e _=>⟨u.slots,k b u a e⟩)
  (λb u _ e n=>by rw[az (h b u e)];exact n) (λb u a e=>⟨u,k b u a e⟩) (λb xs e=>by rw[az (b6 e hn)];exact e)
  (λb u xs e=>by rw[az (b6 e hn)];exact e) (λb ps e=>⟨#[],by rw[az (b6 e hn),e];simp⟩) (λm hm=>?_) (λb u e=>?_) I.bare
 .obtain⟨_,C,_,B,A,y⟩:=i b g;exact⟨B,C,A,y⟩
 .obtain⟨j,E,F,t,r⟩:=hm;exact⟨j,E,F,k _ j (λz=>(i _ z).2.1 rfl) t,r⟩
 .by_cases g:b=p
  .subst g;rw[aF]at e;cases e;exact new
  .rw[az g]at e
   refine(I.UW b u e).Yg (λc v a q=>k c v ?_ q) (λc q=>by rw[az (b6 q hn)];exact q) λc xs q=>by rw[az (b6 q hn)];exact q
   rcases a with z|z
   .rw[z];exact f b u e
   .exact f c _ z
end
mutual
inductive DV(K:Tg)(H:Hp):V->Tu->Prop
 |V8:DV K H .V8 .none
 |bl (b:Bool):DV K H (.bl b) (.bool b)
 |int (i:Int):DV K H (.int i) (.int i)
 |str (x:Str):DV K H (.str x) (.str x)
 |tup {a:Tt} {xs:bg V} {ds:bg Tu}:XY K H a xs->Vl K H xs ds->DV K H (.ref a) (.tuple ds)
 |lst {a:Tt} {xs:bg V} {ds:bg Tu}:Ym K H a xs->Vl K H xs ds->DV K H (.ref a) (.list ds)
inductive Vl(K:Tg)(H:Hp):bg V->bg Tu->Prop
 |nil:Vl K H [] []
 |cons {v:V} {vs:bg V} {d:Tu} {ds:bg Tu}:DV K H v d->Vl K H vs ds->Vl K H (v::vs) (d::ds)
end
section
variable{X:Cx}{Z:bg (Tt×Obj)}{σ:St}{H:Hp}{s:Tv}
mutual
theorem DV.reads(I:Inv X Z σ H s):∀{v:V} {d:Tu} {u:Ti},DV X.K H v d->RelV v u->∃as,adT s.heap u d as
 |_,_,_,.V8,r=>by cases r;exact⟨_,.none⟩
 |_,_,_,.bl b,r=>by cases r;exact⟨_,.bool b⟩
 |_,_,_,.int i,r=>by obtain⟨t,rfl⟩:=r;exact⟨_,.int i t⟩
 |_,_,_,.str x,r=>by obtain⟨t,rfl⟩:=r;exact⟨_,.str x t⟩
 |_,_,_,.tup h hs,r=>by cases r;obtain⟨a,rv,⟨o,e,c,n,d⟩,_⟩:=I.tuple h;obtain⟨as,q⟩:=Vl.reads I hs rv;exact⟨_,.tuple e c d (by simpa using q)⟩
 |_,_,_,.lst h hs,r=>by cases r;obtain⟨a,rv,⟨o,n,e,c,_,d⟩,_⟩:=I.list h;obtain⟨as,q⟩:=Vl.reads I hs rv;exact⟨_,.list e c d (by simpa using q)⟩
theorem Vl.reads(I:Inv X Z σ H s):∀{vs:bg V} {ds:bg Tu} {us:bg Ti},Vl X.K H vs ds->Vals vs us->∃as,abG s.heap us ds as
 |_,_,_,.nil,r=>by cases r;exact⟨_,.nil⟩
 |_,_,_,.cons h hs,r=>by
  cases r with
  |cons b a=>obtain⟨as,q⟩:=DV.reads I h b;obtain⟨bs,e⟩:=Vl.reads I hs a;exact⟨_,.cons q e⟩
end
end
def Kt(K:Tg)(neg:Bool):R2:=λx y H Q=>∃dx dy,DV K H x dx/\DV K H y dy/\dx.canLay0=To/\dy.canLay0=To/\dx.depth<=64/\Q (.bl (if neg then !Tu.eqv dx dy else Tu.eqv dx dy)) H
section
variable{X:Cx}
theorem mS(o:X.A.units+64<cLine):OpR X (Vw .Eq) (Kt X.K Tw):=by intro a s n H x y v u Q I e b h;obtain⟨dx,r,m,l,j,i,p,q⟩:=h;obtain⟨t,g⟩:=m.reads I e;obtain⟨bs,f⟩:=l.reads I b;exact ais g f j i (by omega) ⟨.bl _,H,I,rfl,q⟩
theorem F0(o:X.A.units+64<cLine):OpR X (Vw .NotEq) (Kt X.K To):=by intro a s n H x y v u Q I e b h;obtain⟨dx,r,m,l,j,i,p,q⟩:=h;obtain⟨t,g⟩:=m.reads I e;obtain⟨bs,f⟩:=l.reads I b;exact ait g f j i (by omega) ⟨.bl _,H,I,rfl,q⟩
theorem Fr:OpR X (Wl .FloorDiv) (rI (λ_ j=>0<j/\j.natAbs.log2<9000) λi j=>.int (i/j)):=Sz λi j _ _ _ _ _ a q=>by have b:(0:Int)<j:=a.1;exact floordiv_int (by omega) (by rw[Int.fdiv_eq_ediv_of_nonneg i (by omega)];exact q) (.inl (PyProof.noPylong_of_log2 a.2))
end
def iQ(env:Env):bg (Str×Up)->bg (Str×Tt)->bg (Str×Tt)
 |[],acc=>acc
 |(n,k)::r,acc=>if(k==Up.free)=To then(match env.cells.lookup n with|some c=>iQ env r ((n,c)::acc)|none=>iQ env r acc) else iQ env r acc
theorem mV{f:Str×Up->bg (Str×Tt)->Sem (ForInStep (bg (Str×Tt)))}
  (i:∀n k a,(k==Up.free)=Tw->f (n,k) a=pure (.yield a)) (g:∀n c a,env.cells.lookup n=lD c->f (n,.free) a=pure (.yield ((n,c)::a))):
  ∀(names:bg (Str×Up)) (a:bg (Str×Tt)),(∀y∈names,y.2=.free->∃c,env.cells.lookup y.1=lD c)->forIn names a f=pure (iQ env names a)
 |[],a,_=>rfl
 |(n,k)::r,a,h=>by
  have j:=λy m=>h y (Tx _ m);rw[Xo];cases hk:(k==Up.free) with
  |false=>rw[i n k a hk,pure_bind];show forIn r a f=_;rw[mV i g r a j];simp only[iQ,hk,Vh,if_false]
  |true=>
   have e:k=.free:=by simpa using hk
   subst e;obtain⟨c,l⟩:=h _ Ts rfl;rw[g n c a l,pure_bind];show forIn r ((n,c)::a) f=_;rw[mV i g r _ j];have b:=l;simp only[iQ,hk,if_true,b]
theorem ud(h:∀y∈scope.names,y.2=.free->∃c,env.cells.lookup y.1=lD c):closureFor scope env=pure (iQ env scope.names []):=by simp only[closureFor];rw[mV (λn k a b=>by simp only[b,Vh,if_false]) (λn c a e=>by simp only[dN,if_true,cellOf,e,pure_bind]) scope.names [] h,pure_bind]
theorem kZ:∀(names:bg (Str×Up)) (a:bg (Str×Tt)),(∀x c,a.lookup x=lD c->env.cells.lookup x=lD c)->∀x c,(iQ env names a).lookup x=lD c->env.cells.lookup x=lD c
 |[],_,h,x,c,e=>h x c e
 |(n,k)::r,a,h,x,c,e=>by
  unfold iQ at e;split at e
  .split at e
   .rename_i g b
    refine kZ r _ (λy d q=>?_) x c e;rw[T4]at q;split at q
    .rename_i f;cases q;rw[eq_of_beq f];exact b
    .exact h y d q
   .exact kZ r a h x c e
  .exact kZ r a h x c e
theorem lM:∀(names:bg (Str×Up)) (a:bg (Str×Tt)) (x:Str),(a.lookup x).isSome=To->((iQ env names a).lookup x).isSome=To
 |[],_,_,h=>h
 |(n,k)::r,a,x,h=>by
  unfold iQ;split
  .split
   .refine lM r _ x ?_
    rw[T4];split
    .rfl
    .exact h
   .exact lM r a x h
  .exact lM r a x h
theorem oY:∀(names:bg (Str×Up)) (a:bg (Str×Tt)) (x:Str) (c:Tt),(x,Up.free)∈names->env.cells.lookup x=lD c->((iQ env names a).lookup x).isSome=To
 |[],_,_,_,h,_=>by cases h
 |(n,k)::r,a,x,c,h,hc=>by
  rcases T1.mp h with z|h
  .cases z;simp only[iQ,dN,if_true,hc];exact lM r _ _ (by simp[T4])
  .unfold iQ
   split
   .split
    .exact oY r _ x c h hc
    .exact oY r a x c h hc
   .exact oY r a x c h hc
theorem zW(h:(x,Up.free)∈names)(a:env.cells.lookup x=lD c):(iQ env names []).lookup x=lD c:=by
 have q:=oY names [] x c h a;cases e:(iQ env names []).lookup x with
 |none=>rw[e]at q;cases q
 |some d=>have z:=kZ names [] (λy d q=>by cases q) x d e;rw[a]at z;exact z.symm
theorem zr{env:Env}{a:Xi}{x:Str}{k:Up}(h:(relabel a env).names.lookup x=lD k):∃k0,(x,k0)∈a.names/\(k=k0\/(k0=.free/\k=.cell)):=by
 obtain⟨⟨n,k0⟩,hm,e⟩:=T3.mp (Vs h);simp only at e;split at e
 .rename_i b
  cases e;have f:(k0==Up.free)=To:=by rw[T6,T6]at b;exact b.1.1
  exact⟨k0,hm,.inr ⟨by simpa using f,rfl⟩⟩
 .cases e;exact⟨_,hm,.inl rfl⟩
theorem jR{env:Env}:∀{names:bg (Str×Up)} {x:Str},names.lookup x=lD .free->
  (names.map λ(n,k)=>if(k==Up.free&&env.scope.kind==.function&&env.kindOf n==lD .cell) then(n,Up.cell) else(n,k)).lookup x=lD .cell\/
  (names.map λ(n,k)=>if(k==Up.free&&env.scope.kind==.function&&env.kindOf n==lD .cell) then(n,Up.cell) else(n,k)).lookup x=lD .free
 |[],_,h=>by cases h
 |(n,k)::r,x,h=>by
  rw[T4]at h;rw[TX];dsimp only;by_cases a:(k==Up.free&&env.scope.kind==.function&&env.kindOf n==lD .cell)=To
  .rw[av a,T4]
   cases hx:x==n with
   |true=>exact .inl rfl
   |false=>rw[hx]at h;exact jR h
  .rw[ax a,T4]
   cases hx:x==n with
   |true=>rw[hx]at h;exact .inr h
   |false=>rw[hx]at h;exact jR h
def gw(own:bg Str)(fv:bg (Str×Nat)):bg Str:=own++fv.map (·.1)
def je(own:bg Str)(fv:bg (Str×Nat))(a:St):St:=own.map (λ_=>Th)++fv.map λp=>(a[p.2]?).join
def abL(X:Cx)(a:Xi):bg (Str×Nat)->Prop
 |[]=>True
 |p::r=>(X.N[p.2]?=lD p.1/\a.names.lookup p.1=lD .free/\(X.env.scope.names.lookup p.1=lD .cell\/X.env.scope.names.lookup p.1=lD .free))/\abL X a r
theorem abL.mem:∀{fv:bg (Str×Nat)},abL X scope fv->∀p∈fv,X.N[p.2]?=lD p.1/\scope.names.lookup p.1=lD .free/\(X.env.scope.names.lookup p.1=lD .cell\/X.env.scope.names.lookup p.1=lD .free)
 |[],_,p,hp=>by cases hp
 |q::r,h,p,hp=>by
  rcases T1.mp hp with z|hp
  .rw[z];exact h.1
  .exact h.2.mem p hp
def wz(X:Cx)(a:Xi)(C:Tt):bg (Str×Tt):=VO (C+1) a.names (iQ X.env a.names [])
theorem rZ:∀(names:bg (Str×Up)) (n:Nat) (b:bg (Str×Tt)) (x:Str) (c:Tt),(VO n names b).lookup x=lD c->(n<=c/\(x,Up.cell)∈names)\/b.lookup x=lD c
 |[],_,_,_,_,h=>.inr h
 |(y,k)::r,n,b,x,c,h=>by
  unfold VO at h;by_cases f:(k==Up.cell)=To
  .rw[av f]at h
   have e:k=.cell:=by simpa using f
   rcases rZ r _ _ x c h with⟨a,g⟩|a
   .exact .inl ⟨X1 a,Tx _ g⟩
   .rw[T4]at a
    split at a
    .rename_i i;cases a;exact .inl ⟨TB _,by rw[eq_of_beq i,e];exact Ts⟩
    .exact .inr a
  .rw[ax f]at h
   rcases rZ r _ _ x c h with⟨a,g⟩|a
   .exact .inl ⟨a,Tx _ g⟩
   .exact .inr a
theorem Gi:∀(names:bg (Str×Up)) (n:Nat) (a:bg (Str×Tt)) (x:Str),(x,Up.cell)∉names->(VO n names a).lookup x=a.lookup x
 |[],_,_,_,_=>rfl
 |(y,k)::r,n,a,x,h=>by
  have f:=λz=>h (Tx _ z);unfold VO;by_cases b:(k==Up.cell)=To
  .have e:k=.cell:=by simpa using b
   rw[av b,Gi r _ _ x f,T4];have g:(x==y)=Tw:=by refine beq_eq_false_iff_ne.mpr λz=>h ?_;rw[z,e];exact Ts
   rw[g]
  .rw[ax b];exact Gi r _ _ x f
theorem tX:∀(names:bg (Str×Up)) (h:Heap) (b:bg (Str×Tt)) (x:Str) (c:Tt),(VO h.objs.size names b).lookup x=lD c->(h.objs.size<=c/\(pushCells h names).IsCell c Th)\/b.lookup x=lD c
 |[],_,_,_,_,e=>.inr e
 |(y,k)::r,h,b,x,c,e=>by
  unfold VO at e;unfold pushCells;by_cases f:(k==Up.cell)=To
  .rw[av f]at e⊢
   rw[<-cn h {cls:=.type "cell",data:=.cell Th}]at e;rcases tX r _ _ x c e with⟨a,g⟩|a
   .rw[cn]at a;exact .inl ⟨X1 a,g⟩
   .rw[T4]at a
    split at a
    .cases a;exact .inl ⟨TB _,_,aa7 _ _ _ _ (b5 _ rfl),rfl⟩
    .exact .inr a
  .rw[ax f]at e⊢;exact tX r _ _ x c e
theorem Bb:∀(names:bg (Str×Up)) (n:Nat) (e:bg (Str×Tt)),(∀x c,e.lookup x=lD c->c<n)->(∀x y c,e.lookup x=lD c->e.lookup y=lD c->x=y)->∀x y c,(VO n names e).lookup x=lD c->(VO n names e).lookup y=lD c->x=y
 |[],_,_,_,h2,x,y,c,e1,e2=>h2 x y c e1 e2
 |(z,k)::r,n,e,h1,h2,x,y,c,e1,e2=>by
  unfold VO at e1 e2;by_cases h:(k==Up.cell)=To
  .rw[av h]at e1 e2
   refine Bb r (n+1) ((z,n)::e) (λa d q=>?_) (λa b d g f=>?_) x y c e1 e2
   .rw[T4]at q
    split at q
    .cases q;exact Ww _
    .exact X2 (h1 a d q)
   .rw[T4]at g f
    split at g
    .rename_i ha
     split at f
     .rename_i i;rw[eq_of_beq ha,eq_of_beq i]
     .cases g;exact a6 (h1 b _ f) (Vo _)
    .split at f
     .cases f;exact a6 (h1 a _ g) (Vo _)
     .exact h2 a b d g f
  .rw[ax h]at e1 e2;exact Bb r n e h1 h2 x y c e1 e2
theorem Ao:∀{names:bg (Str×Up)} {x:Str} {k a:Up},(names.map (·.1)).Nodup->names.lookup x=lD k->(x,a)∈names->k=a
 |[],_,_,_,_,h,_=>by cases h
 |(y,j)::r,x,k,a,hn,h,hm=>by
  rw[TX,U5]at hn;rw[T4]at h;rcases T1.mp hm with e|hm'
  .cases e;rw[dN]at h;exact(TQ h).symm
  .cases hx:x==y with
   |true=>rw[eq_of_beq hx]at hm';exact a6 (T3.mpr ⟨_,hm',rfl⟩) hn.1
   |false=>rw[hx]at h;exact Ao hn.2 h hm'
def et(X:Cx)(s:Tv)(H:Hp)(a:Xi)(C:Tt)(N:bg Str)(fp:bg Tt):Cx:=
 {X with N:=N,s₀:=s,H₀:=H,env:=compEnvC a (wz X a C) C X.env,outer:=X.stack,stack:=X.stack,ex:=fp,fn:=λx=>((iQ X.env a.names []).lookup x).isNone,pn:=[],xe:=λ_ _=>False}
section
variable{X:Cx}{Z:bg (Tt×Obj)}{Y:St}{H:Hp}{s:Tv}
theorem vf{a:Xi}(I:Inv X Z Y H s)(e:(iQ X.env a.names []).lookup x=lD c):X.env.cells.lookup x=lD c/\c<s.heap.objs.size:=by have h:=kZ _ _ (λ_ _ q=>by cases q) x c e;obtain⟨v,o,z,_⟩:=I.cell x c h;exact⟨h,bP z⟩
theorem C2(I:Inv X Z Y H s)(M:scope.kind=.function)(n:(scope.names.map (·.1)).Nodup)
  (v:∀y∈scope.names,y.2=.free->∃c,X.env.cells.lookup y.1=lD c) (g:s.heap.objs.size<=C) (j:∀b∈fp,pV X Z H b) (f:∀b∈fp,b<s.heap.objs.size):(et X s H scope C N fp).Ok where
 mod:=I.ok.mod
 kind:=M
 glob:=I.ok.glob
 blt:=I.ok.blt
 above:=g
 inj:=Bb _ _ _ (λx c e=>X2 (T9 (vf I e).2 g)) λx y c B A=>I.ok.inj x y c (vf I B).1 (vf I A).1
 has:=λx G=>by
  have m:∃k,(relabel scope X.env).names.lookup x=lD k/\(k=.cell\/k=.free):=by
   rcases G with z|z
   .exact⟨_,z,.inl rfl⟩
   .exact⟨_,z,.inr rfl⟩
  obtain⟨k,K,t⟩:=m;obtain⟨E,hm,u⟩:=zr K;have e:E=.free\/E=.cell:=by
   rcases u with z|⟨z,_⟩
   .subst z
    rcases t with z|z
    .exact .inr z
    .exact .inl z
   .exact .inl z
  have q:((wz X scope C).lookup x).isSome=To:=by
   rcases e with e|e
   .subst e;obtain⟨c,L⟩:=v _ hm rfl;exact WN _ _ _ (.inr (by rw[zW hm L];rfl))
   .subst e
    refine WN _ _ _ (.inl ?_);cases z:scope.names.lookup x with
    |none=>exact a6 hm (λhm=>by
      have:∀{l:bg (Str×Up)},l.lookup x=Th->(x,Up.cell)∉l:=λ{l}=>by
       induction l with
       |nil=>exact λ_=>by simp
       |cons p r F=>
        intro h q;rw[T4]at h;rcases T1.mp q with q|q
        .rw[<-q,dN]at h;cases h
        .split at h
         .cases h
         .exact F h q
      exact this z hm)
    |some O=>rw[Ao n z hm]
  exact aaB.mp q
 cab:=λx c B A=>by
  have i:((iQ X.env scope.names []).lookup x).isNone=To:=B;have w:=A;rcases rZ _ _ _ x c w with⟨z,_⟩|z
  .exact Uv g (X1 z)
  .rw[z]at i;cases i
 hd:=I.ok.hd
 frames:=I.ok.frames
 stk:=.inl rfl
 exf:=λb a=>⟨T8 (T9 (f b a) g),λx c e=>by
  rcases rZ _ _ _ x c e with⟨z,_⟩|z
  .exact U4 (T9 (T9 (f b a) g) (X1 z))
  .exact(j b a).2.2.2.2.1 x c (vf I z).1⟩
 bs:=I.bs
 bsz:=Uv I.ok.bsz I.sz
 abm:=λb o e a=>by
  rcases(j b a).2.2.2.1 with z|z
  .exact I.ok.abm b o e z
  .exact a6 (T9 (bP e) (Uv I.ok.bsz z)) (Vo _)
 abg:=λb a J=>by
  rcases T1.mp (I.Zs b J) with z|z
  .exact(j b a).2.1 z
  .exact(j b a).2.2.1 z
 Y0:=I.stack
 frf:=I.Z9
theorem G2(I:Inv X Z Y H s)(XD:scope.kind=.function)(hnd:(scope.names.map (·.1)).Nodup)
  (hfr:∀y∈scope.names,y.2=.free->∃c,X.env.cells.lookup y.1=lD c) (hfv:abL X scope fv) (hD:s.heap.objs.size<=D) (hDC:D<C) (hC:s.heap.objs.size<=C) (hf:∀b∈fp,pV X Z H b) (hfl:∀b∈fp,b<s.heap.objs.size)
  (hns:h1.Ns C m) (hoc:∀x c,(wz X scope C).lookup x=lD c->C<c->∃v,h1.IsCell c v) (hk:∀b o,s.heap.get? b=lD o->h1.get? b=lD o) (hd:∃n,h1.get? D=lD {cls:=.type "list",data:=.seq #[] n}):
  Inv (et X s H scope C (gw own fv) fp) [] (je own fv Y) (bq H D (.lst [])) {s with heap:=h1,toks:=t1}:=by
 have hn:=I.UW.fresh hD;obtain⟨n,hd⟩:=hd;have hCD:=U4 hDC;have hcs:∀x c,(wz X scope C).lookup x=lD c->C<c\/(X.env.cells.lookup x=lD c/\c<s.heap.objs.size):=λx c e=>by
  rcases rZ _ _ _ x c e with⟨z,_⟩|z
  .exact .inl z
  .exact .inr (vf I z)
 refine⟨C2 I XD hnd hfr hC hf hfl,rfl,I.bare,Un.laid hk hD hn,⟨m,hns,λi x v e1 e2 e3=>?_⟩,λx c e=>?_,?_,λx c e=>?_,λp hp=>a6 (show p∈([]:bg (Tt×Obj)) from hp) (by simp),?_,?_⟩
 .
  have e1':(own++fv.map (·.1))[i]?=lD x:=e1;have e2':(own.map (λ_=>(Th:br V))++fv.map λp=>(Y[p.2]?).join)[i]?=lD (lD v):=e2;have hi:own.length<=i:=by
   by_cases hi:i<own.length
   .rw[TF (by simpa using hi),TH]at e2'
    cases q:own[i]? with
    |none=>rw[q]at e2';cases e2'
    |some _=>rw[q]at e2';cases e2'
   .omega
  rw[Um hi,TH]at e1';rw[Um (by simpa using hi),TH,Tj]at e2';cases q:fv[i - own.length]? with
  |none=>rw[q]at e1';cases e1'
  |some p=>
   rw[q]at e1' e2';have ex:=TQ e1';subst ex;have ev:(Y[p.2]?).join=lD v:=TQ e2';obtain⟨g1,g2,g3⟩:=hfv.mem p (Ug q);have ev2:Y[p.2]?=lD (lD v):=by
    cases z:Y[p.2]? with
    |none=>rw[z]at ev;cases ev
    |some y=>rw[z]at ev;exact dw lD ev
   obtain⟨m0,_,hl⟩:=I.loc;obtain⟨u,r,l⟩:=hl p.2 p.1 v g1 ev2 (.inr g3);refine⟨u,r,?_⟩;have l2:∃c,X.env.cells.lookup p.1=lD c/\s.heap.IsCell c (lD u):=by
    rcases l with⟨k,_⟩|⟨_,c,e,z⟩
    .have k':X.env.scope.names.lookup p.1=lD .local:=k
     rcases g3 with z|z
     .rw[z]at k';cases k'
     .rw[z]at k';cases k'
    .exact⟨c,e,z⟩
   obtain⟨c,e,o,ho,hdc⟩:=l2;refine .inr ⟨?_,c,?_,o,hk c o ho,hdc⟩
   .exact jR g2
   .show(wz X scope C).lookup p.1=lD c;unfold wz;rw[Gi _ _ _ _ λz=>by cases Ao hnd g2 z];exact zW (Vs g2) e
 .rcases hcs x c e with z|⟨z,_⟩
  .exact hoc x c e z
  .obtain⟨v,o,ho,hdc⟩:=I.cell x c z;exact⟨v,o,hk c o ho,hdc⟩
 .show bq H D (.lst []) C=Th;rw[az hCD];exact I.UW.fresh hC
 .show bq H D (.lst []) c=Th
  rcases hcs x c e with z|⟨z1,z2⟩
  .rw[az (U4 (W0 hDC z))];exact I.UW.fresh (Uv hC (Yn z))
  .rw[az (T8 (T9 z2 hD))];exact I.Xe x c z1
 .exact I.UW.laid hk hD ⟨by show 0<=TL;exact Ur _,[],n,.nil,hd⟩
 .show(own.map (λ_=>(Th:br V))++fv.map λp=>(Y[p.2]?).join).length=(own++fv.map (·.1)).length;simp
end
def GY(X:Cx)(e:bg UD)(t:TT):Prop:=
 ∀(a:bg (Tt×Obj)) (s:Tv) (b:St) (H:Hp) (Q:Bool->Hp->Prop),Inv X a b H s->t b H Q->
  wpAny (model X.prog X.w) X.A (forIn e To λc r=>if r=To then do let ok<-isTrue c X.env (eval c X.env);pure (ForInStep.yield ok) else pure (ForInStep.yield r)) (TP X a b Q) X.xe s
def E4:TT:=λ_ H Q=>Q To H
theorem dB:GY X [] E4:=λ_ _ _ H _ I h=>wpAny_tests_nil ⟨H,I,h⟩
theorem oO(h:PT X c tc):GY X [c] tc:=λa s b H Q I e=>wpAny_tests_one (h a s b H Q I e)
def G4(J:It)(D:Tt)(e:St)(g:TG)(j:TT)(te:TE)(n:Hp)(Fin:Hp->Prop):Prop:=
 ∃W:Nat->Nat->St->Hp->Prop,(∃m,W 0 m e (bq n D (.lst [])))/\∀i m σ H,W i m σ H->
  (J.stop i H/\Fin H)\/(J.go i H/\∃N:St->Hp->Prop,(∀σ' H',N σ' H'->∃m',m'<m/\W (i+1) m' σ' H')/\
   ∀x H',J.yld i H x H'->g x σ H' λa l=>j a l λb h=>if b=To then te a h λy f=>∃ys,f D=lD (.lst ys)/\ys.length<TL/\N a (bq f D (.lst (ys++[y]))) else N a h)
section
variable{prog:T5}{w:Uu}{A:Uk}{s:Tv}
theorem El{i p f:UD}{g:bg UD}{b:Xi}{l:Pos}{q j:Ti}{env:Env}{R:aaG->Tv->Prop}{XE:Ti->Tv->Prop}(F:∀x s1,XE x s1->notedBy (model prog w) A env (λe s2=>R (.error e) s2) x s1)(I:Nat->Tv->Prop)
  (turn:∀n s,I n s->wpAny (model prog w) A (pyNext q) (λr s1=>match r with
   |none=>R (.ok .next) s1
   |some v=>wpAny (model prog w) A (letOwnedTupleGo p q v) (λ_ s2=>wpAny (model prog w) A (assign p env v) (λ_ s3=>
     wpAny (model prog w) A (forIn g To λc r=>if r=To then do let ok<-isTrue c env (eval c env);pure (ForInStep.yield ok) else pure (ForInStep.yield r)) (λok s4=>
      if ok=To then wpAny (model prog w) A (eval i env) (λx s5=>
       wpAny (model prog w) A (call (.builtin "list.append") [j,x]) (λ_ s6=>∃m,m<n/\I m s6) (λ_ _=>False) s5) XE s4
      else∃m,m<n/\I m s4) (λ_ _=>False) s3) (λ_ _=>False) s2) (λ_ _=>False) s1) (λ_ _=>False) s)
  (n:Nat) (h:I n s):codeAny (model prog w) A (.compLoop (.ListComp i [⟨p,f,g,0⟩] b l) 0 q j env) R s:=by
 refine codeAny_loop rfl I (λn s G=>?_) n h;show wpAny _ A (Sem.onRaise (compTurn (.ListComp i [⟨p,f,g,0⟩] b l) 0 q j env) (λx=>do noteFrame x env;theTreesLotGoes x)) _ _ s;refine wpAny_noted ?_;rw[compTurn_list]
 have o:∀{α:Type} {t:Sem α} {Q C:α->Tv->Prop} {E:Ti->Tv->Prop} {s:Tv},wpAny (model prog w) A t Q (λ_ _=>False) s->(∀a s',Q a s'->C a s')->wpAny (model prog w) A t C E s:=
  λu y=>wpAny_mono u y λ_ _ z=>False.elim z
 refine Ld (V3 (Ld (o (turn n s G) λr s1 u=>?_)));cases r with
 |none=>exact Tr u
 |some v=>
  refine Ld (o u λ_ s2 y=>Ld (o y λ_ s3 K=>Ld (o K λok s4 B=>?_)));cases ok with
  |false=>exact Tr ⟨rfl,B⟩
  |true=>exact Ld (Ld (wpAny_mono B (λx s5 J=>Ld (o J λ_ s6 H=>Tr (Tr ⟨rfl,H⟩))) F))
end
section
variable{X:Cx}{Z:bg (Tt×Obj)}{Y:St}{H:Hp}{s:Tv}
theorem xb
  (h:Q (newEnv scope s.heap.objs.size globals (VO (s.heap.objs.size+1) scope.names closure) qual Th .none (lD env) builtinsNs) {s with heap:=pushCells (s.heap.push {cls:=.type "dict",data:=.dict #[]}) scope.names}):
  wpAny M A (newFunctionEnv scope globals closure [] qual Th .none (lD env)) Q E s:=by
 simp only[newFunctionEnv,acd,if_true];refine Ld (wpAny_alloc ?_);refine Ld (wpAny_layCells _ (λe a b=>by cases hkc:a==Up.cell<;>simp[hkc]) _ _ _ _ ?_);rw[show({s with heap:=s.heap.push {cls:=.type "dict",data:=.dict #[]}}:Tv).heap.objs.size=s.heap.objs.size+1 from cn ..];rw[YK];exact Ld (Tr (Tr h))
theorem sZ{O tg l:UD}{B:bg UD}{scope:Xi}{pos:Pos}{own:bg Str}{fv:bg (Str×Nat)}{g:TG}{tc:TT}{te:TE}{E:Ti->Tv->Prop}{it:Tt}{fp:bg Tt}{U:Nat->Heap->Prop}{J:It}{Fin:Tt->Hp->Prop}
  {RR:Ti->Tt->aaG->Tv->Prop} (I:Inv X Z Y H s) (hc:X.calm=To) (XD:scope.kind=.function) (hnd:(scope.names.map (·.1)).Nodup) (hfr:∀y∈scope.names,y.2=.free->∃c,X.env.cells.lookup y.1=lD c) (hfv:abL X scope fv)
  (T:Turn X.prog X.w X.K tg J fp it U) (st:U 0 s.heap) (G:∀b∈fp,pV X Z H b)
  (hg:∀C,PG (et X s H scope C (gw own fv) fp) tg g) (ht:∀C,GY (et X s H scope C (gw own fv) fp) B tc) {W:Tt->Ti->Tv->Prop} (he:∀C,PE ((et X s H scope C (gw own fv) fp).YI (W C)) O te) (hEE:∀D C x s1,s.heap.objs.size<=C->W C x s1->notedBy (model X.prog X.w) X.A (compEnvC scope (wz X scope C) C X.env) (λe s2=>RR (.ref D) C (.error e) s2) x s1)
  (hR:∀D,H D=Th->G4 J D (je own fv Y) g tc te H (Fin D))
  (hRR:∀D C H' s',Inv X Z Y H' s'->Fin D H'->(∃m,s'.heap.Ns C m)->s.heap.objs.size<=C->H' C=Th->RR (.ref D) C (.ok .next) s'):
  wpAny (model X.prog X.w) X.A (newList []) (λacc s3=>wpAny (model X.prog X.w) X.A (newFunctionEnv scope X.env.globals (iQ X.env scope.names []) [] X.env.qual Th .none (lD X.env)) (λagJ s4=>
   codeAny (model X.prog X.w) X.A (.compStart (.ListComp O [⟨tg,l,B,0⟩] scope pos) 0 (.ref it) acc {agJ with scope:=relabel scope X.env}) (RR acc agJ.locals) s4) E s3) E s:=by
 refine UG ?_;generalize hH2:s.heap.push {cls:=.type "list",dict:=Th,data:=.seq ([]:bg Ti).toArray}=h2;have hz:h2.objs.size=s.heap.objs.size+1:=by rw[<-hH2,cn]
 refine xb (s:={s with heap:=h2}) ?_;have L:s.heap.objs.size<h2.objs.size:=by rw[hz];exact Ww _
 have hC:s.heap.objs.size<=h2.objs.size:=Yn L;generalize hH1:pushCells (h2.push {cls:=.type "dict",data:=.dict #[]}) scope.names=h1;have kp2:∀b o,h2.get? b=lD o->h1.get? b=lD o:=λb o e=>by rw[<-hH1];exact aa7 _ _ b o (bt _ e)
 have kp:∀b o,s.heap.get? b=lD o->h1.get? b=lD o:=λb o e=>kp2 b o (by rw[<-hH2];exact bt _ e);have hns:h1.Ns h2.objs.size (λ_=>Th):=by rw[<-hH1];exact(Heap.Ns.new h2 (.type "dict")).keeps (aa7 _ _)
 have hoc:∀x c,(wz X scope h2.objs.size).lookup x=lD c->h2.objs.size<c->∃v,h1.IsCell c v:=λx c e Xp=>by
  have e':(VO (h2.push {cls:=.type "dict",data:=.dict #[]}).objs.size scope.names (iQ X.env scope.names [])).lookup x=lD c:=by rw[cn];exact e
  rcases tX _ _ _ x c e' with⟨_,z⟩|z
  .exact⟨Th,by rw[<-hH1];exact z⟩
  .exact a6 (W0 (vf I z).2 (W0 L Xp)) (Vo _)
 have hd:∃n,h1.get? s.heap.objs.size=lD {cls:=.type "list",data:=.seq #[] n}:=⟨0,kp2 _ _ (by rw[<-hH2];exact b5 _ rfl)⟩;have F:∀b∈fp,b<s.heap.objs.size:=λb f=>by obtain⟨o,e,_⟩:=T.obj 0 _ st b f;exact bP e
 have hn:H s.heap.objs.size=Th:=I.UW.fresh (TB _);obtain⟨W,⟨m0,w0⟩,turn⟩:=hR s.heap.objs.size hn;have M:∀{pl:bg (Tt×Obj)} {H':Hp},(∀b∈fp,H' b=Th)->(∀p∈pl,p.1∉fp)->∀b∈fp,pV (et X s H scope h2.objs.size (gw own fv) fp) pl H' b:=λ{pl H'} hn' ZH b f=>by have ok:=C2 (C:=h2.objs.size) (N:=gw own fv) I XD hnd hfr hC G F;exact⟨hn' b f,(ok.exf b f).1,ok.abg b f,.inl f,(ok.exf b f).2,λp hp=>by have hp':p∈([]:bg (Tt×Obj))++pl:=hp;intro z;exact ZH p (by simpa using hp') (by rw[z];exact f)⟩
 have j:∀s4:Tv,s4={s with heap:=h1}->
   codeAny (model X.prog X.w) X.A (.compLoop (.ListComp O [⟨tg,l,B,0⟩] scope pos) 0 (.ref it) (.ref s.heap.objs.size) (compEnvC scope (wz X scope h2.objs.size) h2.objs.size X.env)) (RR (.ref s.heap.objs.size) h2.objs.size) s4:=by
  rintro s4 rfl
  have I0:Inv (et X s H scope h2.objs.size (gw own fv) fp) [] (je own fv Y) (bq H s.heap.objs.size (.lst [])) {s with heap:=h1}:=
   G2 I XD hnd hfr hfv (TB _) L hC G F hns hoc kp hd
  have st0:U 0 h1:=T.keep 0 _ _ st λb _ o e=>kp b o e;have fr0:∀b∈fp,(bq H s.heap.objs.size (.lst [])) b=Th:=λb f=>by rw[az (T8 (F b f))];exact(G b f).1
  refine El (λx s1 z=>hEE _ _ x s1 hC z) (λn s'=>∃i σ' H',Inv (et X s H scope h2.objs.size (gw own fv) fp) [] σ' H' s'/\U i s'.heap/\(∀b∈fp,H' b=Th)/\W i n σ' H') ?_ m0 ⟨0,_,_,I0,st0,fr0,w0⟩;rintro n s5 ⟨i,h,H5,I5,st5,fr5,w5⟩;rcases turn i n h H5 w5 with⟨stop,fin⟩|⟨go,N,hN,step⟩
  .refine cz (T.done (et X s H scope h2.objs.size (gw own fv) fp) rfl rfl rfl hc i [] s5 h H5 (λ_ _=>False) I5 (M fr5 (by simp)) st5 stop) λr s6 ⟨hr,R⟩=>?_;subst hr;obtain⟨mm,hm,_⟩:=R.loc;refine hRR _ _ H5 s6 ?_ fin ⟨mm,hm⟩ hC R.free;exact I.adp (ch:=fp) R.os R.base R.UW R.bare λb f=>⟨(G b f).2.2.2.1,(G b f).2.1,(G b f).2.2.2.2.1,(G b f).2.2.2.2.2⟩
  .refine cz (T.item (et X s H scope h2.objs.size (gw own fv) fp) rfl rfl rfl hc i [] s5 h H5 (λ_ _=>False) I5 (M fr5 (by simp)) st5 go) λr s6 ⟨u,hr,h6⟩=>?_
   subst hr;refine cz h6 λ_ s7 ⟨x,H7,I7,r7,y7,t,fr7⟩=>?_;have I7':=I7.pinned (fp:=fp) (M fr7 (by simp)) (T.obj _ _ t);have q:∀{a:St} {P:Hp} {Q:Tv},Inv (et X s H scope h2.objs.size (gw own fv) fp) ([]++sX fp s7.heap) a P Q->N a P->∃m,m<n/\∃i σ' H',Inv (et X s H scope h2.objs.size (gw own fv) fp) [] σ' H' Q/\U i Q.heap/\(∀b∈fp,H' b=Th)/\W i m σ' H':=λ{a P Q} I8 n8=>by obtain⟨m',hm,w8⟩:=hN a P n8;refine⟨m',hm,i+1,a,P,I8.Zb,T.keep _ _ _ t λb f o e=>(I8.pin (b,o) (Uh _ (Uh _ (jX f e)))).1,λb f=>?_,w8⟩;obtain⟨o,e,d⟩:=T.obj _ _ t b f;exact(I8.pin (b,o) (Uh _ (Uh _ (jX f e)))).2.1
   refine cz (hg _ _ s7 h H7 x u _ I7' r7 (step x H7 y7)) λ_ Q ⟨a,P,I8,q8⟩=>?_;refine cz (ht _ _ Q a P _ I8 q8) λok s9 ⟨H9,I9,q9⟩=>?_;cases ok with
   |false=>rw[ax TV]at q9⊢;exact q I9 q9
   |true=>rw[av rfl]at q9⊢;refine cz (he _ _ s9 a H9 _ (I9.YI _) q9) λy s10 ⟨S,H10,ajQ,r10,ys,hy,hl,q10⟩=>?_;have I10:=ajQ.Xw;refine cz (ir _ s10 a H10 (.ref s.heap.objs.size) [S] (.ref s.heap.objs.size) [y] (λ_ H11=>N a H11) I10 rfl (.cons r10 .nil) ⟨_,ys,S,rfl,rfl,hy,hl,q10⟩) λ_ s11 ⟨v11,H11,I11,_,q11⟩=>?_;exact q I11 q11
 exact codeAny_compStart_list (j _ rfl) (T.self _ 0 _ _ _ (T.keep 0 _ _ st λb _ o e=>kp b o e) (j _ rfl))
def zd(own:bg Str)(fv:bg (Str×Nat))(b:TI)(g:TG)(e:TT)(te:TE):TE:=λY H Q=>b Y H λJ a=>∀D,a D=Th->G4 J D (je own fv Y) g e te a λf=>Q (.ref D) f
theorem rS{a:Xi}(ok:X.Ok)(h:∀y∈a.names,y.2=.free->(X.env.scope.names.lookup y.1=lD .cell\/X.env.scope.names.lookup y.1=lD .free)):∀y∈a.names,y.2=.free->∃c,X.env.cells.lookup y.1=lD c:=
 λy b e=>ok.has y.1 (h y b e)
theorem MN{a b:Xi}(h:(a.names.all λy=> !(y.2==Up.free)||(b.names.lookup y.1==lD Up.cell)||(b.names.lookup y.1==lD Up.free))=To):
  ∀y∈a.names,y.2=.free->(b.names.lookup y.1=lD .cell\/b.names.lookup y.1=lD .free):=λy f e=>by
 have q:=Vi.mp h y f;rw[e]at q
 simpa using q
theorem fG{elt tg iter:UD}{ifs:bg UD}{scope:Xi}{pos:Pos}(own:bg Str)(fv:bg (Str×Nat)){wi:TI}{g:TG}{tc:TT}{te:TE}(hc:X.calm=To)(hi:PI X tg iter wi)
  (hg:∀s H C fp,PG (et X s H scope C (gw own fv) fp) tg g) (ht:∀s H C fp,GY (et X s H scope C (gw own fv) fp) ifs tc) (he:∀s H C fp,PE (et X s H scope C (gw own fv) fp) elt te) (hfv:abL X scope fv)
  (ae4:(scope.names.all λy=> !(y.2==Up.free)||(X.env.scope.names.lookup y.1==lD Up.cell)||(X.env.scope.names.lookup y.1==lD Up.free))=To)
  (XD:scope.kind=.function:=by rfl) (hnd:(scope.names.map (·.1)).Nodup:=by left)
  (abP:∀y∈scope.names,y.2=.local->scope.names.lookup y.1=lD .local:=by left) (hs:∀x,foldedSetIterable iter X.env x=pure x:=by intro _;rfl):
  PE X (.ListComp elt [⟨tg,iter,ifs,0⟩] scope pos) (zd own fv wi g tc te):=by
 intro Z s Y H Q I h;have hfr:=MN ae4;rw[eval_ListComp];refine acu (use:=Th) rfl hs (ud (rS I.ok hfr)) XD abP (cz (hi Z s Y H _ I h) λxv s1 h1=>cz h1 λitv s2 h2=>?_);obtain⟨it,fp,tn,J,H2,e,I2,T,st2,f2,R⟩:=h2;subst e;refine sZ I2 hc XD hnd (rS I.ok hfr) hfv T st2 f2 (λC=>hg _ _ C _) (λC=>ht _ _ C _) (W:=λ_ _ _=>False) (λC=>he _ _ C _) (λ_ _ _ _ _ z=>z.elim) (Fin:=λD H'=>Q (.ref D) H') R ?_;intro D C H' s' I' fin hm hC hn;obtain⟨m,hm⟩:=hm;refine⟨m,hm,λh' hs'=>⟨.ref D,H',?_,rfl,fin⟩⟩;obtain⟨f0,f1,_,f3,f4,f5⟩:=I2.abN hC hn;exact I'.turned (t':=s'.toks) (λb o hb q=>(hs'.2 b hb).trans q) f0 f1 f3 f4 f5
theorem oh{elt tg iter:UD}{ifs:bg UD}{scope:Xi}{pos agZ py:Pos}{i:Nat}{x:Str}(own:bg Str)(fv:bg (Str×Nat)){wi:TI}{g:TG}{tc:TT}{te:TE}(hN:X.N.Nodup)(hi':X.N[i]?=lD x)(hx:X.env.scope.names.lookup x=lD .local)
  (hc:X.calm=To) (hi:PI X tg iter wi)
  (hg:∀s H C fp,PG (et X s H scope C (gw own fv) fp) tg g) (ht:∀s H C fp,GY (et X s H scope C (gw own fv) fp) ifs tc) (he:∀s H C fp,PE (et X s H scope C (gw own fv) fp) elt te) (hfv:abL X scope fv)
  (ae4:(scope.names.all λy=> !(y.2==Up.free)||(X.env.scope.names.lookup y.1==lD Up.cell)||(X.env.scope.names.lookup y.1==lD Up.free))=To)
  (hsw:Vg (.ListComp elt [⟨tg,iter,ifs,0⟩] scope pos) (lD (.Name x py)) agZ.line X.env=pure To:=by rfl)
  (XD:scope.kind=.function:=by rfl) (hnd:(scope.names.map (·.1)).Nodup:=by left)
  (abP:∀y∈scope.names,y.2=.local->scope.names.lookup y.1=lD .local:=by left) (hs:∀x,foldedSetIterable iter X.env x=pure x:=by intro _;rfl):
  PS X (.Assign [.Name x py] (.ListComp elt [⟨tg,iter,ifs,0⟩] scope pos) agZ) (Hn (zd own fv wi g tc te) (zO i)):=by
 intro Z s Y H D I h;have hfr:=MN ae4;rw[exec_Assign_Name_used _ _ _ _ hsw];refine Ld (V3 (Ld ?_));show wpAny _ _ (do let _<-comprehension (.ListComp elt [⟨tg,iter,ifs,0⟩] scope pos) scope X.env _ (newList []) Tw (eval iter X.env) (lD (assign (.Name x py) X.env))) _ _ s;refine Ld (cz (acu (use:=lD (assign (.Name x py) X.env)) (Q:=λ_ s'=>SP X Z D .next s') rfl hs (ud (rS I.ok hfr)) XD abP
  (cz (hi Z s Y H _ I h) λxv s1 h1=>cz h1 λitv s2 h2=>?_)) λ_ s' q=>Tr (Tr q))
 obtain⟨it,fp,tn,J,H2,e,I2,T,st2,f2,R⟩:=h2;subst e;refine sZ I2 hc XD hnd (rS I.ok hfr) hfv T st2 f2 (λC=>hg _ _ C _) (λC=>ht _ _ C _) (W:=λ_ _ _=>False) (λC=>he _ _ C _) (λ_ _ _ _ _ z=>z.elim) (Fin:=λL H'=>D.nx (Y.set i (lD (.ref L))) H') R ?_;intro L C H' s' I' fin hm hC hn;obtain⟨m,hm⟩:=hm;obtain⟨f0,f1,f2',f3,f4,f5⟩:=I2.abN hC hn;show wpAny _ _ (assign (.Name x py) X.env (.ref L)) _ _ s';refine afB (u0 I' hN hi' (.inl hx) (v:=.ref L) rfl (λs'' I'' ⟨a,sb,ha⟩=>?_) (.inr hx));have hCa:C≠a:=by
  rcases ha with z|z
  .rw[z];exact f1
  .exact λq=>f4 x a z q.symm
 refine⟨m,hm.sameBut sb hCa,λh' hs'=>⟨_,H',?_,fin⟩⟩;exact I''.turned (t':=s''.toks) (λb o hb q=>(hs'.2 b hb).trans q) f0 f1 f3 f4 f5
end
def yX(P:T5)(w:Uu)(K:Tg)(mg:Str->br Ti)(base:Heap)(k:Nat)(x:Str)(ps:bg Str)(sp:Sp):Prop:=
 ∃(f:Tt) (a:UO),FnOk P w K mg base dD k f a ps sp/\Binds K a ps []/\Vm K (.ref f)=To/\mg x=lD (.ref f)
theorem eX(C:yX X.prog X.w X.K X.mg X.base k x ps sp)(i:VU j X.A)(ha:PA X (e::es) t)(a:k<=j:=by decide)(l:Gl X x:=by rfl)
  (g:(x==("__debug__":Str))=Tw:=by decide) (n:Uc (e::es) X.env=(Tw,eval e X.env)::Uc es X.env:=by rfl) (o:(backTo pos (Uc es X.env)).any (·.1)=Tw:=by rfl):
  PE X (.Call (.Name x p) (e::es) [] pos) (kg sp [] E0 t):=by
 obtain⟨f,q,F,b,h,m⟩:=C;exact Ch F (i.mono a) l m h b .nil Ha ha g n o
section
variable{Z:St}{H:Hp}{Q:VK}{D:Ends}
theorem Ou(h:t {D with nx:=u D} Z H):La t u D Z H:=h
theorem RU(h:Q v H):tC v Z H Q:=h
theorem NL(h:te Z H D.rt):Hu te D Z H:=h
theorem LK(h:te Z H λ_ H1=>D.nx Z H1):Cn te D Z H:=h
theorem Oi{Q:bg V->Hp->Prop}(h:Q [] H):jK Z H Q:=h
theorem Kb{Q:bg V->Hp->Prop}(h:ta Z H λx H1=>tr Z H1 λxs H2=>Q (x::xs) H2):fy ta tr Z H Q:=h
theorem Q8(h:t Z H λvs H1=>r vs H1 Q):yG r t Z H Q:=h
theorem LZ(h:t Z H λvs H1=>sp (vs++[]) H1 Q E):kg sp [] E t Z H Q:=h
theorem OJ(h:t Z H λxs H1=>xs.length<=TL/\∀p,H1 p=Th->Q (.ref p) (bq H1 p (.tup xs))):Kj t Z H Q:=h
end
theorem N0{α:Type}{xs:bg α}{i:Int}{v:α}(a:0<=i)(h:xs[i.toNat]?=lD v):ng xs i=lD v:=by have q:=Ck h;rwa [acM a]at q
theorem Vp.tup{K:Tg}(e:Vp H H')(h:XY K H a xs):XY K H' a xs:=by
 rcases h with(h|⟨o,h⟩)|h
 .exact .inl (.inl (e _ _ h))
 .exact .inl (.inr ⟨o,e _ _ h⟩)
 .exact .inr h
theorem bO(h:H p=Th)(o:HO):Vp H (bq H p o):=λb u q=>by rw[az (b6 q h)];exact q
theorem MD:UT "max"=lD (.builtin "max"):=by left
theorem oo:UT "isinstance"=lD (.builtin "isinstance"):=by left
theorem k9:UT "len"=lD (.builtin "len"):=by left
theorem yh:UT "sorted"=lD (.builtin "sorted"):=by left
theorem M5:UT "all"=lD (.builtin "all"):=by left
theorem xL:UT "list"=lD (.type "list"):=by left
theorem oB:UT "tuple"=lD (.type "tuple"):=by left
section
variable{X:Cx}
theorem yD:Wj X (.builtin "sorted") (λxs H Q=>∃(p:Tt) (g:bg Int),xs=[.ref p]/\Ym X.K H p (g.map V.int)/\g.length<64/\∀(l:Tt) (a:bg Int),H l=Th->a.Perm g->a.Pairwise (·<=·)->Q (.ref l) (bq H l (.lst (a.map V.int)))):=by
 intro j s E H xs F Q I r h;obtain⟨p,g,rfl,v,A,q⟩:=h;obtain⟨u,rfl,n⟩:=iV r;cases n;obtain⟨C,rv,pl,J⟩:=I.list v;have w:=rv.length;rw[Tj]at w;refine sorted_ints pl.isList (mY rv) (by omega) λf a hi m t=>?_;obtain⟨e,y⟩:=sortedAll_at s.heap C f;have i:a.length=g.length:=m.length_eq;have B:f.toList.length=a.length:=hi.length;refine⟨.ref (s.heap.objs.size+1),_,I.laid (t':=s.toks) (o:=.lst (a.map V.int)) (λb G z=>sortedAll_old z) (Xm _) ?_,rfl,q _ a (I.UW.fresh (Xm _)) m t⟩;refine⟨?_,f.toList,e,jA hi,y⟩;rw[Tj,i];have:(64:Nat)<=TL:=by decide
 omega
end
end L2
namespace L3
open PySem L2
abbrev D:=Tu
inductive PV where
 |fz (d:D)
 |ow (ds:bg D)
 |pl (i:Nat)
abbrev bp:=bg (br PV)
structure Xc where
 cls:Str
 fs:bg (Str×D)
inductive Res(α:Type) where
 |ok (a:α)
 |er (x:Xc)
 |bad
namespace Res
def bind(r:Res α)(f:α->Res β):Res β:=match r with
 |.ok a=>f a
 |.er x=>.er x
 |.bad=>.bad
def UB:br α->Res α
 |some a=>.ok a
 |none=>.bad
theorem bind_ok(a:α)(f:α->Res β):(Res.ok a).bind f=f a:=rfl
end Res
abbrev dP:=@Res.bind_ok
abbrev cg:=Tt->Prop
def ck(O:cg)(p:Tt):cg:=λb=>O b\/b=p
def GG(O:cg)(p:Tt):cg:=λb=>O b/\b≠p
def noO:cg:=λ_=>False
def Ev(O:cg)(H:Hp)(a:cg)(H':Hp):Prop:=∀b o,H b=lD o->¬O b->H' b=lD o/\¬a b
theorem Ev.refl:Ev O H O H:=λ_ _ h n=>⟨h,n⟩
theorem Ev.trans(a:Ev O H O1 H1)(b:Ev O1 H1 O2 H2):Ev O H O2 H2:=λp o h n=>let⟨h1,n1⟩:=a p o h n;b p o h1 n1
theorem Ev.grow(s:Vp H H'):Ev O H O H':=λb o h n=>⟨s b o h,n⟩
theorem Ev.add(s:Vp H H')(a:H p=Th):Ev O H (ck O p) H':=λb o h n=>⟨s b o h,λz=>z.elim n λe=>by subst e;rw[h]at a;cases a⟩
theorem Ev.sub(h:∀b,O' b->O b):Ev O H O' H:=λb o e n=>⟨e,λz=>n (h b z)⟩
theorem Ev.mut(a:O p)(u:HO):Ev O H O (bq H p u):=λb o h n=>⟨by rw[az (λe=>n (by rw[e];exact a))];exact h,n⟩
def Xz(K:Tg)(H:Hp)(a:Tt)(xs:bg V):Prop:=Rd H a (.lst xs)\/∃(b:bg Ti) (n:Nat),K.lookup a=lD {cls:=.type "list",data:=.seq b.toArray n}/\xs.length<=TL/\Vals xs b
theorem Xz.sq(h:Xz K H a xs):Ym K H a xs:=by
 rcases h with h|⟨Uz,n,h1,h2,h3⟩
 .exact .inl h
 .exact .inr ⟨_,Uz.toArray,n,h1,rfl,rfl,rfl,by rw[TU,<-h3.length];exact h2,by simpa using h3⟩
theorem Xz.of(h:H a=lD (.lst xs)):Xz K H a xs:=.inl (.inl h)
theorem Xz.same(e:Vp H H')(h:Xz K H a xs):Xz K H' a xs:=by
 rcases h with(h|⟨o,h⟩)|h
 .exact .inl (.inl (e _ _ h))
 .exact .inl (.inr ⟨o,e _ _ h⟩)
 .exact .inr h
theorem l7(H:Hp):Vp (λ_=>Th) H:=λ_ _ h=>by cases h
def ZT(O:cg)(K:Tg)(H:Hp)(a:Tt)(xs:bg V):Prop:=Xz K H a xs/\(O a->Xz K (λ_=>Th) a xs)
def Yh(O:cg)(K:Tg)(H:Hp)(a:Tt)(xs:bg V):Prop:=XY K H a xs/\(O a->XY K (λ_=>Th) a xs)
section
variable{O Z:cg}{K:Tg}{H H':Hp}{a:Tt}{xs:bg V}
theorem ZT.ev(h:ZT O K H a xs)(e:Ev O H Z H'):ZT Z K H' a xs:=by
 obtain⟨h,k⟩:=h;by_cases z:O a
 .exact⟨Xz.same (l7 H') (k z),λ_=>k z⟩
 .rcases h with(h|⟨o,h⟩)|h
  .obtain⟨f,b⟩:=e a _ h z;exact⟨.inl (.inl f),λy=>a6 y b⟩
  .obtain⟨f,b⟩:=e a _ h z;exact⟨.inl (.inr ⟨o,f⟩),λy=>a6 y b⟩
  .exact⟨.inr h,λ_=>.inr h⟩
theorem Yh.ev(h:Yh O K H a xs)(e:Ev O H Z H'):Yh Z K H' a xs:=by
 obtain⟨h,k⟩:=h;by_cases z:O a
 .exact⟨(l7 H').tup (k z),λ_=>k z⟩
 .rcases h with(h|⟨o,h⟩)|h
  .obtain⟨f,b⟩:=e a _ h z;exact⟨.inl (.inl f),λy=>a6 y b⟩
  .obtain⟨f,b⟩:=e a _ h z;exact⟨.inl (.inr ⟨o,f⟩),λy=>a6 y b⟩
  .exact⟨.inr h,λ_=>.inr h⟩
end
mutual
inductive DV(O:cg)(K:Tg)(H:Hp):V->D->Prop
 |V8:DV O K H .V8 .none
 |bl (b:Bool):DV O K H (.bl b) (.bool b)
 |int (i:Int):DV O K H (.int i) (.int i)
 |str (x:Str):DV O K H (.str x) (.str x)
 |tup {a:Tt} {xs:bg V} {ds:bg D}:Yh O K H a xs->Vl O K H xs ds->DV O K H (.ref a) (.tuple ds)
 |lst {a:Tt} {xs:bg V} {ds:bg D}:ZT O K H a xs->Vl O K H xs ds->DV O K H (.ref a) (.list ds)
inductive Vl(O:cg)(K:Tg)(H:Hp):bg V->bg D->Prop
 |nil:Vl O K H [] []
 |cons {v:V} {vs:bg V} {d:D} {ds:bg D}:DV O K H v d->Vl O K H vs ds->Vl O K H (v::vs) (d::ds)
end
section
variable{O Z:cg}{K:Tg}{H H':Hp}
mutual
theorem DV.ev(e:Ev O H Z H'):∀{v:V} {d:D},DV O K H v d->DV Z K H' v d
 |_,_,.V8=>.V8
 |_,_,.bl b=>.bl b
 |_,_,.int i=>.int i
 |_,_,.str x=>.str x
 |_,_,.tup h hs=>.tup (h.ev e) (Vl.ev e hs)
 |_,_,.lst h hs=>.lst (h.ev e) (Vl.ev e hs)
theorem Vl.ev(e:Ev O H Z H'):∀{vs:bg V} {ds:bg D},Vl O K H vs ds->Vl Z K H' vs ds
 |_,_,.nil=>.nil
 |_,_,.cons h hs=>.cons (DV.ev e h) (Vl.ev e hs)
end
theorem Vl.length:∀{vs:bg V} {ds:bg D},Vl O K H vs ds->vs.length=ds.length
 |_,_,.nil=>rfl
 |_,_,.cons _ t=>by rw[TR,TR,t.length]
theorem Vl.get:∀{vs:bg V} {ds:bg D} {i:Nat} {d:D},Vl O K H vs ds->ds[i]?=lD d->∃v,vs[i]?=lD v/\DV O K H v d
 |_,_,_,_,.nil,e=>by simp at e
 |_,_,0,_,.cons h _,e=>by simp at e;subst e;exact⟨_,rfl,h⟩
 |_,_,i+1,d,.cons _ t,e=>by obtain⟨v,b,a⟩:=Vl.get t (by simpa using e);exact⟨v,by simpa using b,a⟩
theorem Vl.aef:∀{vs:bg V} {ds:bg D} {i:Nat} {v:V},Vl O K H vs ds->vs[i]?=lD v->∃d,ds[i]?=lD d/\DV O K H v d
 |_,_,_,_,.nil,e=>by simp at e
 |_,_,0,_,.cons h _,e=>by simp at e;subst e;exact⟨_,rfl,h⟩
 |_,_,i+1,v,.cons _ t,e=>by obtain⟨d,b,a⟩:=Vl.aef t (by simpa using e);exact⟨d,by simpa using b,a⟩
theorem Vl.append:∀{vs ws:bg V} {ds es:bg D},Vl O K H vs ds->Vl O K H ws es->Vl O K H (vs++ws) (ds++es)
 |_,_,_,_,.nil,h=>h
 |_,_,_,_,.cons h t,g=>.cons h (Vl.append t g)
theorem Vl.take:∀{vs:bg V} {ds:bg D} (n:Nat),Vl O K H vs ds->Vl O K H (vs.take n) (ds.take n)
 |_,_,0,_=>.nil
 |_,_,_+1,.nil=>.nil
 |_,_,n+1,.cons h t=>.cons h (Vl.take n t)
theorem Vl.drop:∀{vs:bg V} {ds:bg D} (n:Nat),Vl O K H vs ds->Vl O K H (vs.drop n) (ds.drop n)
 |_,_,0,h=>h
 |_,_,_+1,.nil=>.nil
 |_,_,n+1,.cons _ t=>Vl.drop n t
theorem Vl.flat(h:Vl O K H vs ds):∀n:Nat,Vl O K H (TJ n vs).flatten (TJ n ds).flatten
 |0=>.nil
 |n+1=>by rw[UN,UN,VV,VV];exact h.append (Vl.flat h n)
mutual
theorem DV.plain:∀{v:V} {d:D},DV O K H v d->L2.DV K H v d
 |_,_,.V8=>.V8
 |_,_,.bl b=>.bl b
 |_,_,.int i=>.int i
 |_,_,.str x=>.str x
 |_,_,.tup h hs=>.tup h.1 (Vl.plain hs)
 |_,_,.lst h hs=>.lst h.1.sq (Vl.plain hs)
theorem Vl.plain:∀{vs:bg V} {ds:bg D},Vl O K H vs ds->L2.Vl K H vs ds
 |_,_,.nil=>.nil
 |_,_,.cons h hs=>.cons (DV.plain h) (Vl.plain hs)
end
end
def DX(O:cg)(K:Tg)(H:Hp)(v:V):D->Prop
 |.list ds=>∃a xs,v=.ref a/\Xz K H a xs/\Vl O K H xs ds
 |d=>DV O K H v d
theorem DV.x(h:DV O K H v d):DX O K H v d:=by
 cases h with
 |lst h a=>exact⟨_,_,rfl,h.1,a⟩
 |V8=>exact .V8
 |bl b=>exact .bl b
 |int i=>exact .int i
 |str x=>exact .str x
 |tup h a=>exact .tup h a
theorem DX.plain(h:DX O K H v d):L2.DV K H v d:=by
 cases d with
 |list ds=>obtain⟨a,xs,rfl,f,e⟩:=h;exact .lst f.sq e.plain
 |none=>exact DV.plain h
 |bool b=>exact DV.plain h
 |int i=>exact DV.plain h
 |str x=>exact DV.plain h
 |tuple ds=>exact DV.plain h
 |dict Ub=>exact DV.plain h
def aaO(K:Tg)(b:Hp)(O:cg)(H:Hp)(v:V):PV->Prop
 |.fz d=>DV O K H v d
 |.ow ds=>∃a vs,v=.ref a/\O a/\b a=Th/\H a=lD (.lst vs)/\Vl O K H vs ds
 |.pl _=>False
structure Rl(K:Tg)(B:cg)(H0:Hp)(O:cg)(σ:St)(H:Hp)(ρ:bp):Prop where
 same:Vp H0 H
 bo:∀a,B a->O a
 bd:∀a,B a->H0 a≠Th
 od:∀a,H a=Th->¬O a
 len:σ.length=ρ.length
 slot:∀(i:Nat) (x:PV),ρ[i]?=lD (lD x)->∃v,σ[i]?=lD (lD v)/\aaO K H0 O H v x
 one:∀(i j:Nat) (ds es:bg D) (v:V),ρ[i]?=lD (lD (.ow ds))->ρ[j]?=lD (lD (.ow es))->σ[i]?=lD (lD v)->σ[j]?=lD (lD v)->i=j
def Yf(K:Tg)(f:Hp)(O:cg)(b:St)(H:Hp)(ρ:bp)(v:V):PV->Prop
 |.fz d=>DV O K H v d
 |.ow ds=>∃a vs,v=.ref a/\O a/\f a=Th/\H a=lD (.lst vs)/\Vl O K H vs ds/\∀(i:Nat) (e:bg D),ρ[i]?=lD (lD (.ow e))->b[i]?≠lD (lD (.ref a))
 |.pl i=>b[i]?=lD (lD v)
def l6:PV->Prop
 |.ow _=>False
 |_=>True
def cj:PV->PV
 |.ow ds=>.fz (.list ds)
 |p=>p
section
variable{K:Tg}{B O X:cg}{Z H H':Hp}{Y:St}{ρ ρ':bp}{v:V}
theorem aaO.grow(s:Vp H H')(h:aaO K Z O H v x):aaO K Z O H' v x:=by
 cases x with
 |fz d=>exact DV.ev (Ev.grow s) h
 |ow ds=>obtain⟨a,vs,e,j,g,f,b⟩:=h;exact⟨a,vs,e,j,g,s _ _ f,b.ev (Ev.grow s)⟩
 |pl i=>exact h
theorem Rl.grow(R:Rl K B Z O Y H ρ)(s:Vp H H'):Rl K B Z O Y H' ρ:=
 ⟨R.same.trans s,R.bo,R.bd,λa h=>R.od a (s.free h),R.len,λi x h=>let⟨v,h1,h2⟩:=R.slot i x h;⟨v,h1,h2.grow s⟩,R.one⟩
theorem Rl.aez(R:Rl K B Z O Y H ρ)(h:H p=Th):Z p=Th:=R.same.free h
theorem Rl.add(R:Rl K B Z O Y H ρ)(s:Vp H H')(f:H p=Th)(g:H' p≠Th):Rl K B Z (ck O p) Y H' ρ:=by
 refine⟨R.same.trans s,λa h=>.inl (R.bo a h),R.bd,λa h z=>z.elim (R.od a (s.free h)) λe=>g (by rw[<-e];exact h),R.len,λi x h=>?_,R.one⟩;obtain⟨v,j,b⟩:=R.slot i x h;refine⟨v,j,?_⟩;cases x with
 |fz d=>exact DV.ev (Ev.add s f) b
 |ow ds=>obtain⟨a,vs,e,o,n,m,l⟩:=b;exact⟨a,vs,e,.inl o,n,s _ _ m,l.ev (Ev.add s f)⟩
 |pl i=>exact b
theorem Rl.aeo(R:Rl K B Z O Y H ρ)(h:Z a=Th):¬B a:=λz=>R.bd a z h
theorem Rl.sub(R:Rl K B Z O Y H ρ){a:Tt}(m:Z a=Th)(h:∀(i:Nat) (es:bg D),ρ[i]?=lD (lD (.ow es))->Y[i]?≠lD (lD (.ref a))):Rl K B Z (GG O a) Y H ρ:=by
 refine⟨R.same,λb f=>⟨R.bo b f,λe=>R.aeo m (e▸f)⟩,R.bd,λb f z=>R.od b f z.1,R.len,λi x j=>?_,R.one⟩;obtain⟨v,l,g⟩:=R.slot i x j;refine⟨v,l,?_⟩;cases x with
 |fz d=>exact DV.ev (Ev.sub λb z=>z.1) g
 |ow ds=>obtain⟨b,vs,e,q,p,o,n⟩:=g;subst e;exact⟨b,vs,rfl,⟨q,λe=>h i ds j (by rw[l,e])⟩,p,o,n.ev (Ev.sub λb z=>z.1)⟩
 |pl i=>exact g
theorem xt(h:H a=lD (.lst vs))(n:¬O a)(hd:Vl O K H vs ds):DV O K H (.ref a) (.list ds):=.lst ⟨Xz.of h,λz=>a6 z n⟩ hd
theorem jt{pv:PV}(R:Rl K B Z O Y H ρ)(h:Yf K Z O Y H ρ v pv):∃X,Ev O H X H/\Rl K B Z X Y H ρ/\Yf K Z X Y H ρ v (cj pv):=by
 cases pv with
 |fz d=>exact⟨O,.refl,R,h⟩
 |pl i=>exact⟨O,.refl,R,h⟩
 |ow ds=>obtain⟨a,vs,rfl,l,j,g,f,e⟩:=h;exact⟨GG O a,Ev.sub λb z=>z.1,R.sub j e,xt g (λz=>z.2 rfl) (f.ev (Ev.sub λb z=>z.1))⟩
theorem rB(pv:PV):l6 (cj pv):=by cases pv<;>trivial
theorem Yf.keep{pv:PV}(a:l6 pv)(e:Ev O H X H')(h:Yf K Z O Y H ρ v pv):Yf K Z X Y H' ρ' v pv:=by
 cases pv with
 |fz d=>exact DV.ev e h
 |pl i=>exact h
 |ow ds=>exact a.elim
def SI:br (br PV)->br D
 |some (lD (.fz d))=>lD d
 |some (lD (.ow ds))=>lD (.list ds)
 |_=>Th
def zZ(ρ:bp):PV->br D
 |.fz d=>lD d
 |.ow ds=>lD (.list ds)
 |.pl i=>SI ρ[i]?
theorem qj{pv:PV}(R:Rl K B Z O Y H ρ)(h:Yf K Z O Y H ρ v pv)(e:zZ ρ pv=lD d):DX O K H v d:=by
 cases pv with
 |fz t=>cases e;exact DV.x h
 |ow ds=>cases e;obtain⟨a,vs,rfl,E,C,p,n,A⟩:=h;exact⟨a,vs,rfl,Xz.of p,n⟩
 |pl i=>
  have b:SI ρ[i]?=lD d:=e;have r:=h;cases q:ρ[i]? with
  |none=>rw[q]at b;cases b
  |some o=>
   cases o with
   |none=>rw[q]at b;cases b
   |some x=>
    obtain⟨u,g,f⟩:=R.slot i x q;rw[r]at g;cases g;rw[q]at b;cases x with
    |fz t=>cases b;exact DV.x f
    |ow ds=>cases b;obtain⟨a,vs,rfl,y,w,m,l⟩:=f;exact⟨a,vs,rfl,Xz.of m,l⟩
    |pl j=>exact f.elim
def Sl(ρ:bp)(i:Nat):br (br PV)->br (D×bp)
 |some (lD (.fz d))=>lD (d,ρ)
 |some (lD (.ow ds))=>lD (.list ds,ρ.set i (lD (.fz (.list ds))))
 |_=>Th
def zj(ρ:bp):PV->br (D×bp)
 |.fz d=>lD (d,ρ)
 |.ow ds=>lD (.list ds,ρ)
 |.pl i=>Sl ρ i ρ[i]?
theorem b4{l:bg α}(h:(l.set i x)[j]?=lD y):(j=i/\y=x)\/(j≠i/\l[j]?=lD y):=by
 rw[UQ]at h;by_cases e:i=j
 .rw[av e]at h
  split at h
  .cases h;exact .inl ⟨e.symm,rfl⟩
  .cases h
 .rw[ax e]at h;exact .inr ⟨λz=>e z.symm,h⟩
theorem vQ{pv:PV}(R:Rl K B Z O Y H ρ)(h:Yf K Z O Y H ρ v pv)(e:zj ρ pv=lD (d,ρ')):∃X,Ev O H X H/\Rl K B Z X Y H ρ'/\DV X K H v d:=by
 cases pv with
 |fz d'=>cases e;exact⟨O,.refl,R,h⟩
 |ow ds=>cases e;obtain⟨a,vs,rfl,h1,h2,h3,U,T⟩:=h;exact⟨GG O a,Ev.sub λb z=>z.1,R.sub h2 T,xt h3 (λz=>z.2 rfl) (U.ev (Ev.sub λb z=>z.1))⟩
 |pl i=>
  have f:Sl ρ i ρ[i]?=lD (d,ρ'):=e;have y:=h;cases q:ρ[i]? with
  |none=>rw[q]at f;cases f
  |some o=>
   cases o with
   |none=>rw[q]at f;cases f
   |some x=>
    obtain⟨u,E,A⟩:=R.slot i x q;rw[y]at E;cases E;rw[q]at f;cases x with
    |fz d'=>cases f;exact⟨O,.refl,R,A⟩
    |pl j=>exact A.elim
    |ow ds=>
     cases f;obtain⟨a,vs,rfl,k1,S,Q,P⟩:=A;have n:Ev O H (GG O a) H:=Ev.sub λb z=>z.1;have F:=xt Q (λz=>z.2 rfl) (P.ev n);refine⟨GG O a,n,⟨R.same,λb m=>⟨R.bo b m,λe=>R.aeo S (e▸m)⟩,R.bd,λb m z=>R.od b m z.1,by rw[UJ];exact R.len,λj x l=>?_,λj k xs G w t r=>?_⟩,F⟩
     .rcases b4 l with⟨rfl,g⟩|⟨YH,l⟩
      .cases g;exact⟨_,y,F⟩
      .obtain⟨u,C,p⟩:=R.slot j x l
       refine⟨u,C,?_⟩;cases x with
       |fz d=>exact DV.ev n p
       |pl i=>exact p
       |ow xs=>obtain⟨b,I,rfl,N,M,L,J⟩:=p;exact⟨b,I,rfl,⟨N,λz=>YH (R.one j i xs ds (.ref a) l q (by rw[C,z]) y)⟩,M,L,J.ev n⟩
     .rcases b4 t with⟨rfl,g⟩|⟨_,t⟩
      .cases g
      .rcases b4 r with⟨rfl,g⟩|⟨_,r⟩
       .cases g
       .exact R.one j k xs G w t r
end
def XOk(K:Tg)(B:cg)(H:Hp)(c:Ti)(dx:br Tt)(x:Xc):Prop:=
 (∃a,c=.ref a/\T7 K TZ x.cls=lD (lD (.ref a)))/\∃fs,(∀p,dx=lD p->H p=lD (.xd fs))/\∀f d,x.fs.lookup f=lD d->dx≠Th/\∃v,fs.lookup f=lD v/\DV B K H v d
def XE(K:Tg)(B:cg)(a:Hp)(E:XK)(x:Xc):Prop:=∀c dx H',Vp a H'->XOk K B H' c dx x->E c dx H'
def WR(K:Tg)(E:XK)(B:cg)(b:Hp)(P:α->Prop):Res α->Prop
 |.ok a=>P a
 |.er x=>XE K B b E x
 |.bad=>False
section
variable{K:Tg}{E:XK}{B:cg}{Z:Hp}
theorem WR.bind(h:WR K E B Z P (r.bind k)):WR K E B Z (λa=>WR K E B Z P (k a)) r:=by cases r<;>exact h
theorem WR.UB(h:WR K E B Z P ((Res.UB o).bind k)):∃a,o=lD a/\WR K E B Z P (k a):=by
 cases o with
 |none=>exact h.elim
 |some a=>exact⟨a,rfl,h⟩
theorem WR.imp(h:WR K E B Z P r)(g:∀a,P a->P' a):WR K E B Z P' r:=by
 cases r with
 |ok a=>exact g a h
 |er x=>exact h
 |bad=>exact h
end
abbrev FE:=bp->Res (PV×bp)
abbrev FT:=bp->Res (Bool×bp)
abbrev FA:=bp->Res (bg PV×bp)
def EO(K:Tg)(E:XK)(t:TE)(f:FE):Prop:=
 ∀(B:cg) (b:Hp) (O:cg) (a:St) (H:Hp) (ρ:bp) (Q:VK),Rl K B b O a H ρ->WR K E B b (λr=>∀O' v H',Ev O H O' H'->Rl K B b O' a H' r.2->Yf K b O' a H' r.2 v r.1->Q v H') (f ρ)->t a H Q
def TTO(K:Tg)(E:XK)(t:TT)(f:FT):Prop:=
 ∀(B:cg) (b:Hp) (O:cg) (a:St) (H:Hp) (ρ:bp) (Q:Bool->Hp->Prop),Rl K B b O a H ρ->WR K E B b (λr=>∀O' H',Ev O H O' H'->Rl K B b O' a H' r.2->Q r.1 H') (f ρ)->t a H Q
def AO(K:Tg)(E:XK)(t:TA)(f:FA):Prop:=
 ∀(B:cg) (b:Hp) (O:cg) (a:St) (H:Hp) (ρ:bp) (Q:bg V->Hp->Prop),Rl K B b O a H ρ->WR K E B b (λr=>∀O' vs H',Ev O H O' H'->Rl K B b O' a H' r.2->Paired (λv pv=>Yf K b O' a H' r.2 v pv/\l6 pv) vs r.1->Q vs H') (f ρ)->t a H Q
inductive RV where
 |fz (d:D)
 |ow (ds:bg D)
def RV.pv:RV->PV
 |.fz d=>.fz d
 |.ow ds=>.ow ds
def Fin(O:cg)(K:Tg)(H:Hp)(Q:VK):RV->Prop
 |.fz d=>∀v H',Vp H H'->DV O K H' v d->Q v H'
 |.ow ds=>∀p vs H',Vp H H'->H p=Th->H' p=lD (.lst vs)->Vl (ck O p) K H' vs ds->Q (.ref p) H'
def oZ(O:cg)(H:Hp):Prop:=∀a,H a=Th->¬O a
section
variable{K:Tg}{E:XK}{B O X:cg}{Y H H':Hp}{Z:St}{ρ ρ':bp}{v:V}
theorem mW(R:Rl K B Y O Z H ρ)(h:∀X v H',Ev O H X H'->Rl K B Y X Z H' ρ->Yf K Y X Z H' ρ v rv.pv->Q v H'):Fin O K H Q rv:=by
 cases rv with
 |fz d=>exact λv H' s f=>h O v H' (Ev.grow s) (R.grow s) f
 |ow ds=>intro p vs H' s b e f;refine h (ck O p) (.ref p) H' (Ev.add s b) (R.add s b (by rw[e];simp)) ⟨p,vs,rfl,.inr rfl,R.aez b,e,f,λi r hi z=>?_⟩;obtain⟨u,g,a,m,l,q,o,j,n⟩:=R.slot i _ hi;rw[z]at g;cases g;cases l;rw[b]at j;cases j
theorem Fin.new(hd:Vl O K H vs ds)(h:Fin O K H Q (.ow ds)):∀p,H p=Th->Q (.ref p) (bq H p (.lst vs)):=λp a=>
 h p vs _ (bO a _) a aF (hd.ev (Ev.add (bO a _) a))
theorem Fin.adi(hd:Vl O K H vs ds)(b:oZ O H)(h:Fin O K H Q (.fz (.tuple ds))):∀p,H p=Th->Q (.ref p) (bq H p (.tup vs)):=λp a=>
 h (.ref p) _ (bO a _) (.tup ⟨XY.of aF,λz=>a6 z (b p a)⟩ (hd.ev (Ev.grow (bO a _))))
theorem Fin.at(h:Fin O K H Q (.fz d))(a:DV O K H v d):Q v H:=h v H (Vp.refl H) a
def Dy(ρ:bp)(i:Nat):br (br PV)->Res (PV×bp)
 |some (lD (.fz d))=>.ok (.fz d,ρ)
 |some (lD (.ow _))=>.ok (.pl i,ρ)
 |_=>.bad
def ad(i:Nat):FE:=λρ=>Dy ρ i ρ[i]?
theorem aj:EO K E (uF i) (ad i):=by
 intro B Y O Z H ρ Q R w;unfold ad at w;cases q:ρ[i]? with
 |none=>rw[q]at w;exact w.elim
 |some o=>
  cases o with
  |none=>rw[q]at w;exact w.elim
  |some x=>
   rw[q]at w;obtain⟨v,a,b⟩:=R.slot i x q;cases x with
   |fz d=>exact⟨v,a,w O v H .refl R b⟩
   |ow ds=>exact⟨v,a,w O v H .refl R a⟩
   |pl j=>exact w.elim
def pC(d:D):FE:=λρ=>.ok (.fz d,ρ)
theorem Eo(h:∀O H,DV O K H v d):EO K E (tC v) (pC d):=λB Y O Z H ρ Q R w=>w O v H .refl R (h O H)
theorem aZ:EO K E (tC (.int i)) (pC (.int i)):=Eo λ_ _=>.int i
theorem u6:EO K E (tC (.bl b)) (pC (.bool b)):=Eo λ_ _=>.bl b
theorem fV:EO K E (tC (.str x)) (pC (.str x)):=Eo λ_ _=>.str x
theorem iC:EO K E (tC .V8) (pC .none):=Eo λ_ _=>.V8
def ri(K:Tg)(r:R2)(f:D->D->br RV):Prop:=∀(O:cg) (H:Hp) (x y:V) (dx a:D) (rv:RV) (Q:VK),oZ O H->DX O K H x dx->DX O K H y a->f dx a=lD rv->Fin O K H Q rv->r x y H Q
def aM(f:D->D->br RV)(fa fb:FE):FE:=λρ=>(fa ρ).bind λa=>(fb a.2).bind λb=>(Res.UB (zZ b.2 (cj a.1))).bind λdx=>(Res.UB (zZ b.2 b.1)).bind λe=>(Res.UB (f dx e)).bind λrv=>.ok (rv.pv,b.2)
theorem bG(u:ri K r f)(ha:EO K E ta fa)(A:EO K E tb fb):EO K E (Jm r ta tb) (aM f fa fb):=by intro B Y O Z H ρ Q R w;refine ha B Y O Z H ρ _ R (w.bind.imp λa j O1 x U G L t=>?_);obtain⟨P,F,R2,q⟩:=jt L t;refine A B Y P Z U a.2 _ R2 (j.bind.imp λb e N y T i g p=>?_);have h:=q.keep (rB a.1) i (ρ':=b.2);obtain⟨dx,m,e⟩:=e.UB;obtain⟨I,l,e⟩:=e.UB;obtain⟨rv,n,e⟩:=e.UB;refine u N T x y dx I rv Q g.od (qj g h m) (qj g p l) n (mW g λM v S C J o=>?_);exact e M v S (G.trans (F.trans (i.trans C))) J o
def Su:D->br Bool
 |.bool b=>lD b
 |_=>Th
theorem Ny(h:DX O K H x d)(e:Su d=lD b):x=.bl b:=by cases d<;>cases e;cases h;rfl
def aK(fa:FE):bp->Res (Bool×bp):=λρ=>(fa ρ).bind λa=>(Res.UB (zZ a.2 a.1)).bind λd=>(Res.UB (Su d)).bind λb=>.ok (b,a.2)
theorem eG(ha:EO K E ta fa):TTO K E (Ho ta) (aK fa):=by intro B Y O Z H ρ Q R w;refine ha B Y O Z H ρ _ R (w.bind.imp λa e l x m j f i=>?_);obtain⟨d,g,e⟩:=e.UB;obtain⟨b,h,e⟩:=e.UB;exact⟨b,Ny (qj f i g) h,e l m j f⟩
theorem G5(ha:EO K E ta fa):TTO K E (tB ta) (aK fa):=eG ha
def wc(fa fb:FT):FT:=λρ=>(fa ρ).bind λa=>if a.1=To then fb a.2 else .ok (Tw,a.2)
def FQ(fa:FT):FT:=λρ=>(fa ρ).bind λa=>.ok (!a.1,a.2)
theorem TTO.next(h:TTO K E t f)(R:Rl K B Y O1 Z H1 ρ)(a:Ev O H O1 H1)(w:WR K E B Y (λr=>∀X H',Ev O H X H'->Rl K B Y X Z H' r.2->Q r.1 H') (f ρ)):t Z H1 Q:=
 h B Y O1 Z H1 ρ Q R (w.imp λr q X H' b e=>q X H' (a.trans b) e)
theorem EO.next(h:EO K E t f)(R:Rl K B Y O1 Z H1 ρ)(b:Ev O H O1 H1)(w:WR K E B Y (λr=>∀X v H',Ev O H X H'->Rl K B Y X Z H' r.2->Yf K Y X Z H' r.2 v r.1->Q v H') (f ρ)):t Z H1 Q:=
 h B Y O1 Z H1 ρ Q R (w.imp λr q X v H' e g a=>q X v H' (b.trans e) g a)
theorem J9(m:TTO K E t f)(l:TTO K E u g):TTO K E (P0 t u) (wc f g):=by
 intro B Y O Z H ρ Q R w;refine m B Y O Z H ρ _ R (w.bind.imp λa e n o h i=>?_);obtain⟨b,j⟩:=a;cases b with
 |true=>exact l.next i h e
 |false=>exact e n o h i
theorem CD(e:TTO K E t f):TTO K E (O9 t) (FQ f):=by intro B Y O Z H ρ Q R w;exact e B Y O Z H ρ _ R (w.bind.imp λa b i j g h=>b i j g h)
def dH:FT:=λρ=>.ok (To,ρ)
theorem dS:TTO K E E4 dH:=λB Y O Z H ρ Q R w=>w O H .refl R
def Pp(c:FT)(fa fb:FE):FE:=λρ=>(c ρ).bind λa=>if a.1=To then fa a.2 else fb a.2
theorem Nf(i:TTO K E t c)(ha:EO K E ta fa)(j:EO K E tb fb):EO K E (RJ t ta tb) (Pp c fa fb):=by
 intro B Y O Z H ρ Q R w;refine i B Y O Z H ρ _ R (w.bind.imp λa e l m f g=>?_);obtain⟨b,h⟩:=a;cases b with
 |true=>exact ha.next g f e
 |false=>exact j.next g f e
def au:FA:=λρ=>.ok ([],ρ)
def aa(fa:FE)(fr:FA):FA:=λρ=>(fa ρ).bind λa=>(fr a.2).bind λb=>.ok (cj a.1::b.1,b.2)
theorem aR:AO K E jK au:=λB Y O Z H ρ Q R w=>w O [] H .refl R .nil
theorem aw(ha:EO K E ta fa)(m:AO K E tr fr):AO K E (fy ta tr) (aa fa fr):=by intro B Y O Z H ρ Q R w;refine ha B Y O Z H ρ _ R (w.bind.imp λa h A x y o q l=>?_);obtain⟨t,n,R2,j⟩:=jt q l;refine m B Y t Z y a.2 _ R2 (h.bind.imp λb g r f u e p i=>?_);exact g r (x::f) u (o.trans (n.trans e)) p (.cons ⟨j.keep (rB a.1) e,rB a.1⟩ i)
def uI(ρ:bp):bg PV->br (bg D)
 |[]=>lD []
 |p::r=>match zZ ρ p with
  |some d=>(match uI ρ r with
   |some ds=>lD (d::ds)
   |none=>Th)
  |none=>Th
theorem xA(R:Rl K B Y O Z H ρ):∀{vs:bg V} {ps:bg PV} {ds:bg D},Paired (λv pv=>Yf K Y O Z H ρ v pv/\l6 pv) vs ps->uI ρ ps=lD ds->Paired (DX O K H) vs ds
 |_,_,_,.nil,e=>by cases e;exact .nil
 |_,_,_,.cons (l₂:=ps) (b:=p) h t,e=>by
  unfold uI at e;cases q:zZ ρ p with
  |none=>rw[q]at e;cases e
  |some d=>
   rw[q]at e;dsimp only at e;cases q2:uI ρ ps with
   |none=>rw[q2]at e;cases e
   |some a=>rw[q2]at e;cases e;exact .cons (qj R h.1 q) (xA R t q2)
def ro(ρ:bp):bg PV->br (bg D×bp)
 |[]=>lD ([],ρ)
 |p::r=>match zj ρ p with
  |some (d,ρ1)=>(match ro ρ1 r with
   |some (ds,ρ2)=>lD (d::ds,ρ2)
   |none=>Th)
  |none=>Th
theorem sO:∀{vs:bg V} {ps:bg PV} {ds:bg D} {O:cg} {ρ ρ':bp},Rl K B Y O Z H ρ->Paired (λv pv=>Yf K Y O Z H ρ v pv/\l6 pv) vs ps->ro ρ ps=lD (ds,ρ')->∃X,Ev O H X H/\Rl K B Y X Z H ρ'/\Vl X K H vs ds
 |_,_,_,O,_,_,R,.nil,e=>by cases e;exact⟨O,.refl,R,.nil⟩
 |_,_,_,O,ρ,ρ',R,.cons (l₁:=vs) (l₂:=ps) (b:=p) h t,e=>by
  unfold ro at e;cases q:zj ρ p with
  |none=>rw[q]at e;cases e
  |some r=>
   obtain⟨d,a⟩:=r;rw[q]at e;dsimp only at e;cases q2:ro a ps with
   |none=>rw[q2]at e;cases e
   |some m=>obtain⟨o,j⟩:=m;rw[q2]at e;cases e;obtain⟨C,i,y,w⟩:=vQ R h.1 q;have l:Paired (λv pv=>Yf K Y C Z H a v pv/\l6 pv) vs ps:=Paired.Xg t λv pv ⟨n,f⟩=>⟨n.keep f i,f⟩;obtain⟨A,g,R2,u⟩:=sO y l q2;exact⟨A,i.trans g,R2,.cons (w.ev g) u⟩
abbrev FN:=bg D->Res RV
def qC(K:Tg)(n:Nat)(F:FN):Sp:=λvs H Q E=>vs.length=n/\∃(B:cg) (ds:bg D),(∀a,B a->H a≠Th)/\Vl B K H vs ds/\WR K E B H (Fin B K H Q) (F ds)
def bw(fa:FA):FE:=λρ=>(fa ρ).bind λa=>(Res.UB (ro a.2 a.1)).bind λb=>if b.1.length<=1000 then .ok (.fz (.tuple b.1),b.2) else .bad
def eT(fa:FA):FE:=λρ=>(fa ρ).bind λa=>(Res.UB (ro a.2 a.1)).bind λb=>if b.1.length<=1000 then .ok (.ow b.1,b.2) else .bad
theorem AZ(h:n<=1000):n<=TL:=Uv h (by decide)
theorem dQ(ha:AO K E ta fa):EO K E (Kj ta) (bw fa):=by
 intro B Y O Z H ρ Q R w;refine ha B Y O Z H ρ _ R (w.bind.imp λa g u vs y m o i=>?_);obtain⟨⟨ds,f⟩,q,b⟩:=g.UB;obtain⟨t,l,R2,e⟩:=sO o i q;dsimp only at b;by_cases hn:ds.length<=1000
 .rw[av hn]at b;refine⟨by rw[e.length];exact AZ hn,Fin.adi e R2.od (mW R2 λp v r j n h=>b p v r (m.trans (l.trans j)) n h)⟩
 .rw[ax hn]at b;exact b.elim
theorem nc(ha:AO K E ta fa):EO K E (QX ta) (eT fa):=by
 intro B Y O Z H ρ Q R w;refine ha B Y O Z H ρ _ R (w.bind.imp λa g u vs y m o i=>?_);obtain⟨⟨ds,f⟩,q,b⟩:=g.UB;obtain⟨t,l,R2,e⟩:=sO o i q;dsimp only at b;by_cases hn:ds.length<=1000
 .rw[av hn]at b;refine⟨by rw[e.length];exact AZ hn,Fin.new e (mW R2 λp v r j n h=>b p v r (m.trans (l.trans j)) n h)⟩
 .rw[ax hn]at b;exact b.elim
def EL(K:Tg)(r:bg V->Hp->VK->Prop)(f:bg D->br RV):Prop:=∀(O:cg) (H:Hp) (xs:bg V) (ds:bg D) (rv:RV) (Q:VK),oZ O H->Paired (DX O K H) xs ds->f ds=lD rv->Fin O K H Q rv->r xs H Q
def ji(f:bg D->br RV)(fa:FA):FE:=λρ=>(fa ρ).bind λa=>(Res.UB (uI a.2 a.1)).bind λds=>(Res.UB (f ds)).bind λrv=>.ok (rv.pv,a.2)
theorem mG(l:EL K r f)(ha:AO K E ta fa):EO K E (yG r ta) (ji f fa):=by intro B Y O Z H ρ Q R w;refine ha B Y O Z H ρ _ R (w.bind.imp λa g t vs y n e j=>?_);obtain⟨ds,q,b⟩:=g.UB;obtain⟨rv,h,b⟩:=b.UB;exact l t y vs ds rv Q e.od (xA e j q) h (mW e λp v u m o i=>b p v u (n.trans m) o i)
def RY:D->br Int
 |.int i=>lD i
 |_=>Th
theorem Pz(h:DX O K H x d)(e:RY d=lD i):x=.int i:=by cases d<;>cases e;cases h;rfl
abbrev FO:=bp->Res (br Int×bp)
def Rt(K:Tg)(E:XK)(t:TO)(f:FO):Prop:=
 ∀(B:cg) (Y:Hp) (O:cg) (Z:St) (H:Hp) (ρ:bp) (Q:br Int->Hp->Prop),Rl K B Y O Z H ρ->WR K E B Y (λr=>∀X H',Ev O H X H'->Rl K B Y X Z H' r.2->Q r.1 H') (f ρ)->t Z H Q
def tt:FO:=λρ=>.ok (Th,ρ)
def iS(fa:FE):FO:=λρ=>(fa ρ).bind λa=>(Res.UB (zZ a.2 a.1)).bind λd=>(Res.UB (RY d)).bind λi=>.ok (lD i,a.2)
theorem sE:Rt K E Cs tt:=λB Y O Z H ρ Q R w=>w O H .refl R
theorem r9(ha:EO K E ta fa):Rt K E (Nh ta) (iS fa):=by intro B Y O Z H ρ Q R w;refine ha B Y O Z H ρ _ R (w.bind.imp λa f l x m j e h=>?_);obtain⟨d,q,b⟩:=f.UB;obtain⟨i,g,b⟩:=b.UB;exact⟨i,Pz (qj e h q) g,b l m j e⟩
def Ru(K:Tg)(r:V->br Int->br Int->Hp->VK->Prop)(f:D->br Int->br Int->br RV):Prop:=∀(O:cg) (H:Hp) (x:V) (lo hi:br Int) (dx:D) (rv:RV) (Q:VK),oZ O H->DX O K H x dx->f dx lo hi=lD rv->Fin O K H Q rv->r x lo hi H Q
def GK(f:D->br Int->br Int->br RV)(fa:FE)(b e:FO):FE:=λρ=>(fa ρ).bind λa=>(b a.2).bind λl=>(e l.2).bind λh=>(Res.UB (zZ h.2 (cj a.1))).bind λdx=>(Res.UB (f dx l.1 h.1)).bind λrv=>.ok (rv.pv,h.2)
theorem FK(u:Ru K r f)(ha:EO K E ta fa)(y:Rt K E tl fl)(A:Rt K E th fh):EO K E (SU r ta tl th) (GK f fa fl fh):=by intro B Y O Z H ρ Q R w;refine ha B Y O Z H ρ _ R (w.bind.imp λa m O1 x H1 G L t=>?_);obtain⟨S,F,R2,q⟩:=jt L t;refine y B Y S Z H1 a.2 _ R2 (m.bind.imp λl j P H3 i J=>?_);refine A B Y P Z H3 l.2 _ J (j.bind.imp λh b N U g e=>?_);obtain⟨dx,n,b⟩:=b.UB;obtain⟨rv,o,b⟩:=b.UB;exact u N U x l.1 h.1 dx rv Q e.od (qj e (q.keep (rB a.1) (i.trans g)) n) o (mW e λM v T C I p=>b M v T (G.trans (F.trans (i.trans (g.trans C)))) I p)
end
theorem wD{l:bg α}(h:(l.set i x)[i]?=lD y):i<l.length:=by
 rw[UQ]at h;rw[av rfl]at h;split at h
 .assumption
 .cases h
section
variable{K:Tg}{E:XK}{B O U:cg}{Z H H':Hp}{Y:St}{ρ ρ':bp}{v:V}
theorem Rl.mut{i:Nat}{ds g:bg D}{a:Tt}{f:bg V}(R:Rl K B Z O Y H ρ)(hi:ρ[i]?=lD (lD (.ow ds)))(I:Y[i]?=lD (lD (.ref a)))(J:O a)(L:Z a=Th)(hd:Vl O K H f g):
  Rl K B Z O Y (bq H a (.lst f)) (ρ.set i (lD (.ow g))):=by
 have ev:Ev O H O (bq H a (.lst f)):=Ev.mut J _;refine⟨λb o e=>by rw[az (b6 e L)];exact R.same b o e,R.bo,R.bd,λb m=>?_,by rw[UJ];exact R.len,λj x l=>?_,λj k xs F w X T y r=>?_⟩
 .by_cases e:b=a
  .rw[e,aF]at m;cases m
  .rw[az e]at m;exact R.od b m
 .rcases b4 l with⟨rfl,ee⟩|⟨YH,l⟩
  .cases ee;exact⟨_,I,a,f,rfl,J,L,aF,hd.ev ev⟩
  .obtain⟨u,G,q⟩:=R.slot j x l
   refine⟨u,G,?_⟩;cases x with
   |fz d=>exact DV.ev ev q
   |pl i=>exact q
   |ow xs=>obtain⟨b,M,rfl,S,Q,P,N⟩:=q;have C:b≠a:=λz=>YH (R.one j i xs ds (.ref a) l hi (by rw[G,z]) I);exact⟨b,M,rfl,S,Q,by rw[az C];exact P,N.ev ev⟩
 .have own:∀{j:Nat} {xs:bg D},(ρ.set i (lD (.ow g)))[j]?=lD (lD (.ow xs))->∃F,ρ[j]?=lD (lD (.ow F)):=λ{j xs} h=>by
   rcases b4 h with⟨rfl,_⟩|⟨_,h⟩
   .exact⟨_,hi⟩
   .exact⟨_,h⟩
  obtain⟨p,A⟩:=own X;obtain⟨n,t⟩:=own T;exact R.one j k p n w A t y r
theorem uX(h:n<1000000):n<TL:=T9 h (by decide)
def HE:br (br PV)->br (bg D)
 |some (lD (.ow ds))=>lD ds
 |_=>Th
theorem Ds(h:HE o=lD ds):o=lD (lD (.ow ds)):=by
 unfold HE at h;split at h
 .cases h;rfl
 .cases h
def Ie(i:Nat)(fe:FE):FE:=λρ=>(Res.UB (HE ρ[i]?)).bind λ_=>(fe ρ).bind λa=>(Res.UB (zj a.2 a.1)).bind λb=>(Res.UB (HE b.2[i]?)).bind λds=>
 if ds.length<1000000 then .ok (.fz .none,b.2.set i (lD (.ow (ds++[b.1])))) else .bad
theorem Ix(A:EO K E te fe):EO K E (RF K "list" xM (uF i) (fy te jK)) (Ie i fe):=by
 intro B Z O Y H ρ Q R w;obtain⟨L,q,w⟩:=w.UB;obtain⟨v,j,a,vs,rfl,X,T,C,S⟩:=R.slot i _ (Ds q);refine⟨_,j,.inl ⟨rfl,_,Ym.of C⟩,?_⟩;refine A B Z O Y H ρ _ R (w.bind.imp λb e O1 y H1 G M r=>?_);obtain⟨⟨d,o⟩,p,e⟩:=e.UB;obtain⟨N,F,R2,J⟩:=vQ M r p;obtain⟨ds,f,e⟩:=e.UB;have f:=Ds f;obtain⟨P,n,a',g,I,m,u,t,l⟩:=R2.slot i _ f;subst I;rw[j]at n;cases n;dsimp only at e;by_cases h:ds.length<1000000
 .rw[av h]at e;refine⟨a,g,y,rfl,rfl,t,uX (by rw[l.length];exact h),?_⟩;exact e N .V8 _ (G.trans (F.trans (Ev.mut m _))) (R2.mut f j m u (l.append (.cons J .nil))) .V8
 .rw[ax h]at e;exact e.elim
abbrev FG:=PV->bp->Res bp
abbrev Qu:=bg D->bp->Res bp
def GO(K:Tg)(E:XK)(g:TG)(f:FG):Prop:=
 ∀(B:cg) (Z:Hp) (O:cg) (Y:St) (H:Hp) (ρ:bp) (v:V) (pv:PV) (Q:St->Hp->Prop),Rl K B Z O Y H ρ->Yf K Z O Y H ρ v pv->WR K E B Z (λρ'=>∀U σ' H',Ev O H U H'->Rl K B Z U σ' H' ρ'->Q σ' H') (f pv ρ)->g v Y H Q
def RE(K:Tg)(E:XK)(g:PL)(f:Qu):Prop:=
 ∀(B:cg) (Z:Hp) (O:cg) (Y:St) (H:Hp) (ρ:bp) (vs:bg V) (ds:bg D) (Q:St->Hp->Prop),Rl K B Z O Y H ρ->Vl O K H vs ds->WR K E B Z (λρ'=>∀U σ' H',Ev O H U H'->Rl K B Z U σ' H' ρ'->Q σ' H') (f ds ρ)->g vs Y H Q
theorem Rl.agY(R:Rl K B Z O Y H ρ)(h:DV O K H v d):Rl K B Z O (Y.set i (lD v)) H (ρ.set i (lD (.fz d))):=by
 refine⟨R.same,R.bo,R.bd,R.od,by rw[UJ,UJ];exact R.len,λj x f=>?_,λj k xs n w l g b a=>?_⟩
 .rcases b4 f with⟨rfl,e⟩|⟨t,f⟩
  .cases e;have:=wD f;exact⟨v,by rw[UQ,av rfl,av (by rw[R.len];exact this)],h⟩
  .obtain⟨u,r,q⟩:=R.slot j x f;exact⟨u,by rw[UQ,ax (λz=>t z.symm)];exact r,q⟩
 .rcases b4 l with⟨rfl,m⟩|⟨p,l⟩
  .cases m
  .rcases b4 g with⟨rfl,m⟩|⟨o,g⟩
   .cases m
   .rw[UQ,ax (λz=>p z.symm)]at b;rw[UQ,ax (λz=>o z.symm)]at a;exact R.one j k xs n w l g b a
theorem Rl.ajp(R:Rl K B Z O Y H ρ)(h:Yf K Z O Y H ρ v (.ow ds)):Rl K B Z O (Y.set i (lD v)) H (ρ.set i (lD (.ow ds))):=by
 obtain⟨a,vs,rfl,I,G,F,C,p⟩:=h;refine⟨R.same,R.bo,R.bd,R.od,by rw[UJ,UJ];exact R.len,λj x m=>?_,λj k xs o w A l f b=>?_⟩
 .rcases b4 m with⟨rfl,e⟩|⟨M,m⟩
  .cases e;have:=wD m;exact⟨.ref a,by rw[UQ,av rfl,av (by rw[R.len];exact this)],a,vs,rfl,I,G,F,C⟩
  .obtain⟨u,t,r⟩:=R.slot j x m;exact⟨u,by rw[UQ,ax (λz=>M z.symm)];exact t,r⟩
 .rcases b4 A with⟨rfl,L⟩|⟨q,g⟩
  .rcases b4 l with⟨rfl,J⟩|⟨n,l⟩
   .rfl
   .rw[UQ,ax (λz=>n z.symm)]at b
    rcases b4 f with⟨_,e⟩|⟨z,_⟩
    .cases e;exact a6 b (p k o l)
    .exact a6 rfl z
  .have y:=g
   rw[UQ,ax (λz=>q z.symm)]at f;rcases b4 l with⟨rfl,L⟩|⟨n,l⟩
   .rcases b4 b with⟨_,e⟩|⟨z,_⟩
    .cases e;exact a6 f (p j xs g)
    .exact a6 rfl z
   .rw[UQ,ax (λz=>n z.symm)]at b;exact R.one j k xs o w g l f b
def gN(i:Nat):FG:=λpv ρ=>match pv with
 |.ow ds=>.ok (ρ.set i (lD (.ow ds)))
 |.fz d=>.ok (ρ.set i (lD (.fz d)))
 |.pl j=>(Res.UB (zj ρ (.pl j))).bind λb=>.ok (b.2.set i (lD (.fz b.1)))
theorem bE:GO K E (zO i) (gN i):=by
 intro B Z O Y H ρ v pv Q R p w;cases pv with
 |ow ds=>exact w O _ H .refl (R.ajp p)
 |fz d=>exact w O _ H .refl (R.agY p)
 |pl j=>obtain⟨⟨d,a⟩,q,w⟩:=WR.UB (show WR K E B Z _ ((Res.UB (zj ρ (.pl j))).bind λb=>.ok (b.2.set i (lD (.fz b.1)))) from w);obtain⟨g,e,R2,f⟩:=vQ R p q;exact w g _ H e (R2.agY f)
def Nr:Qu:=λds ρ=>match ds with
 |[]=>.ok ρ
 |_=>.bad
def EK(f:FG)(g:Qu):Qu:=λds ρ=>match ds with
 |[]=>.bad
 |d::r=>(f (.fz d) ρ).bind λa=>g r a
theorem Ad:RE K E Ox Nr:=by
 intro B Z O Y H ρ vs ds Q R a w;cases a with
 |nil=>exact⟨rfl,w O Y H .refl R⟩
 |cons _ _=>exact w.elim
theorem oi(o:GO K E t f)(n:RE K E u g):RE K E (Gb t u) (EK f g):=by
 intro B Z O Y H ρ vs ds Q R r w;cases r with
 |nil=>exact w.elim
 |cons m l=>rename_i v vs d ds;refine⟨_,_,rfl,o B Z O Y H ρ _ (.fz d) _ R m (WR.imp (WR.bind w) λe j C b G h y=>?_)⟩;exact n B Z C b G e _ _ Q y (l.ev h) (j.imp λi q A a F p R2=>q A a F (h.trans p) R2)
def SC:D->br (bg D)
 |.tuple ds=>lD ds
 |_=>Th
theorem FH(h:DX O K H x d)(e:SC d=lD ds):∃a xs,x=.ref a/\Yh O K H a xs/\Vl O K H xs ds:=by
 cases d<;>cases e;cases h with
 |tup h b=>exact⟨_,_,rfl,h,b⟩
def gT(n:Nat)(f:Qu):FG:=λpv ρ=>(Res.UB (zZ ρ pv)).bind λd=>(Res.UB (SC d)).bind λds=>if ds.length=n then f ds ρ else .bad
theorem A7(h:RE K E t f):GO K E (PM K n t) (gT n f):=by
 intro B Z O Y H ρ v pv Q R p w;obtain⟨d,g,w⟩:=w.UB;obtain⟨ds,e,w⟩:=w.UB;obtain⟨a,xs,rfl,i,b⟩:=FH (qj R p g) e;by_cases hn:ds.length=n
 .rw[av hn]at w;exact⟨a,xs,rfl,i.1,b.length.trans hn,h B Z O Y H ρ xs ds Q R b w⟩
 .rw[ax hn]at w;exact w.elim
inductive Fl where
 |nx (ρ:bp)
 |rt (rv:RV)
 |bk (ρ:bp)
 |ct (ρ:bp)
abbrev FS:=bp->Res Fl
def acD(K:Tg)(B:cg)(Z:Hp)(O:cg)(H:Hp)(D:Ends):Fl->Prop
 |.nx ρ'=>∀U σ' H',Ev O H U H'->Rl K B Z U σ' H' ρ'->D.nx σ' H'
 |.bk ρ'=>∀U σ' H',Ev O H U H'->Rl K B Z U σ' H' ρ'->D.bk σ' H'
 |.ct ρ'=>∀U σ' H',Ev O H U H'->Rl K B Z U σ' H' ρ'->D.ct σ' H'
 |.rt rv=>Fin B K Z D.rt rv
def SO(K:Tg)(E:XK)(t:TS)(g:FS):Prop:=
 ∀(B:cg) (Z:Hp) (O:cg) (Y:St) (H:Hp) (ρ:bp) (D:Ends),Rl K B Z O Y H ρ->WR K E B Z (acD K B Z O H D) (g ρ)->t D Y H
theorem acD.ev{D:Ends}(e:Ev O H O1 H1)(h:acD K B Z O H D fl):acD K B Z O1 H1 D fl:=by
 cases fl with
 |nx ρ'=>exact λU a H' b f=>h U a H' (e.trans b) f
 |bk ρ'=>exact λU a H' b f=>h U a H' (e.trans b) f
 |ct ρ'=>exact λU a H' b f=>h U a H' (e.trans b) f
 |rt rv=>exact h
def gu:FS:=λρ=>.ok (.nx ρ)
def cw(f g:FS):FS:=λρ=>(f ρ).bind λa=>match a with
 |.nx ρ1=>g ρ1
 |a=>.ok a
def ve(f:FE):FS:=λρ=>(f ρ).bind λa=>.ok (.nx a.2)
def fQ(f:FE)(g:FG):FS:=λρ=>(f ρ).bind λa=>(g a.1 a.2).bind λb=>.ok (.nx b)
def pd(c:FT)(f g:FS):FS:=λρ=>(c ρ).bind λa=>if a.1=To then f a.2 else g a.2
def D5(ρ:bp):PV->br RV
 |.fz d=>lD (.fz d)
 |.ow ds=>lD (.ow ds)
 |.pl i=>match ρ[i]? with
  |some (lD (.fz d))=>lD (.fz d)
  |some (lD (.ow ds))=>lD (.ow ds)
  |_=>Th
def eS(f:FE):FS:=λρ=>(f ρ).bind λa=>(Res.UB (D5 a.2 a.1)).bind λrv=>.ok (.rt rv)
theorem Lx:SO K E Hr gu:=λB Z O Y H ρ D R w=>w O Y H .refl R
theorem cx(j:SO K E t f)(i:SO K E u g):SO K E (La t u) (cw f g):=by
 intro B Z O Y H ρ D R w;refine j B Z O Y H ρ {D with nx:=u D} R (WR.imp (WR.bind w) λh b=>?_);cases h with
 |nx a=>exact λn e o l m=>i B Z n e o a D m (WR.imp b λh q=>q.ev l)
 |rt rv=>exact b
 |bk a=>exact b
 |ct a=>exact b
theorem CY(h:EO K E t f):SO K E (Cn t) (ve f):=by intro B Z O Y H ρ D R w;exact h B Z O Y H ρ _ R (w.bind.imp λa b i x j e g l=>b i Y j e g)
theorem iK(h:EO K E t f)(m:GO K E g fg):SO K E (Hn t g) (fQ f fg):=by intro B Z O Y H ρ D R w;refine h B Z O Y H ρ _ R (w.bind.imp λa j r x y o p l=>?_);exact m B Z r Y y a.2 x a.1 _ p l (j.bind.imp λe i q b u n R2=>i q b u (o.trans n) R2)
theorem Qm(n:TTO K E c fc)(p:SO K E t f)(o:SO K E u g):SO K E (NQ c t u) (pd fc f g):=by
 intro B Z O Y H ρ D R w;refine n B Z O Y H ρ _ R (w.bind.imp λa h l m i j=>?_);obtain⟨b,e⟩:=a;cases b with
 |true=>exact p B Z l Y m e D j (WR.imp h λr q=>q.ev i)
 |false=>exact o B Z l Y m e D j (WR.imp h λr q=>q.ev i)
theorem N3{pv:PV}(R:Rl K B Z O Y H ρ)(p:Yf K Z O Y H ρ v pv)(e:D5 ρ pv=lD rv)(w:Fin B K Z Q rv):Q v H:=by
 have ow:∀{a:Tt} {vs:bg V} {ds:bg D},O a->Z a=Th->H a=lD (.lst vs)->Vl O K H vs ds->Fin B K Z Q (.ow ds)->Q (.ref a) H:=λ{a vs ds} m l g f w=>
  w a vs H R.same l g (f.ev (Ev.sub λb z=>z.elim (R.bo b) λe=>by rw[e];exact m))
 have fz:∀{d:D},DV O K H v d->Fin B K Z Q (.fz d)->Q v H:=λ{d} h w=>w v H R.same (h.ev (Ev.sub R.bo));cases pv with
 |fz d=>cases e;exact fz p w
 |ow ds=>cases e;obtain⟨a,vs,rfl,m,l,g,f,y⟩:=p;exact ow m l g f w
 |pl i=>
  have t:=p;unfold D5 at e;dsimp only at e;cases q:ρ[i]? with
  |none=>rw[q]at e;cases e
  |some o=>
   cases o with
   |none=>rw[q]at e;cases e
   |some x=>
    obtain⟨u,r,n⟩:=R.slot i x q;rw[t]at r;cases r;rw[q]at e;cases x with
    |fz d=>cases e;exact fz n w
    |ow ds=>cases e;obtain⟨a,vs,rfl,m,l,g,f⟩:=n;exact ow m l g f w
    |pl j=>exact n.elim
theorem jm(h:EO K E t f):SO K E (Hu t) (eS f):=by intro B Z O Y H ρ D R w;refine h B Z O Y H ρ _ R (w.bind.imp λa b j x l i g e=>?_);obtain⟨rv,q,b⟩:=b.UB;exact N3 g e q b
def wo(K:Tg)(J:It)(O:cg)(H:Hp)(ds:bg D):Prop:=∀U H',Ev O H U H'->oZ U H'->
 (∀i,i<ds.length->J.go i H'/\∀x H'',J.yld i H' x H''->Vp H' H''/\∃d,ds[i]?=lD d/\DV U K H'' x d)/\J.stop ds.length H'
abbrev FI:=bp->Res (bg D×bp)
def IO(K:Tg)(E:XK)(b:TI)(e:FI):Prop:=
 ∀(B:cg) (Z:Hp) (O:cg) (Y:St) (H:Hp) (ρ:bp) (a:It->Hp->Prop),Rl K B Z O Y H ρ->WR K E B Z (λr=>∀U J H',Ev O H U H'->Rl K B Z U Y H' r.2->wo K J U H' r.1->a J H') (e ρ)->b Y H a
def qS(gt:FG)(b:FS):bg D->FS
 |[],ρ=>.ok (.nx ρ)
 |d::r,ρ=>(gt (.fz d) ρ).bind λa=>(b a).bind λe=>match e with
  |.nx ρ2=>qS gt b r ρ2
  |.ct ρ2=>qS gt b r ρ2
  |.bk ρ2=>.ok (.nx ρ2)
  |.rt rv=>.ok (.rt rv)
def xz(e:FI)(gt:FG)(b:FS):FS:=λρ=>(e ρ).bind λa=>qS gt b a.1 a.2
theorem Gp(hi:IO K E wi fi)(hg:GO K E g gt)(hb:SO K E tb b):SO K E (Gx wi g tb) (xz fi gt b):=by
 intro B Z O Y H ρ D R w;refine hi B Z O Y H ρ _ R (w.bind.imp λa P I J H1 T X S=>?_);obtain⟨ds,G⟩:=a;dsimp only at P S X;refine⟨λi m f H'=>m=ds.length - i/\i<=ds.length/\∃O2 ρ2,Ev I H1 O2 H'/\Rl K B Z O2 f H' ρ2/\WR K E B Z (acD K B Z O H D) (qS gt b (ds.drop i) ρ2),⟨_,rfl,Ur _,I,G,.refl,X,P⟩,?_⟩;rintro i m n N ⟨rfl,hi,O2,ρ2,e2,R2,w2⟩;obtain⟨go,o⟩:=S O2 N e2 R2.od;by_cases A:i<ds.length
 .obtain⟨g1,g2⟩:=go i A
  refine .inr ⟨g1,λf H'=>i+1<=ds.length/\∃O2 ρ2,Ev I H1 O2 H'/\Rl K B Z O2 f H' ρ2/\WR K E B Z (acD K B Z O H D) (qS gt b (ds.drop (i+1)) ρ2),λf H' ⟨h1,h2⟩=>⟨ds.length - (i+1),by omega,rfl,h1,h2⟩,λx M y=>?_⟩;obtain⟨Q,d,hd,dv⟩:=g2 x M y;have ed:ds.drop i=d::ds.drop (i+1):=by obtain⟨_,q⟩:=Tn.mp hd;rw[Ve A,q]
  rw[ed]at w2;have e3:Ev O2 N O2 M:=Ev.grow Q;refine hg B Z O2 n M ρ2 x (.fz d) _ (R2.grow Q) dv (WR.imp (WR.bind w2) λF w3 O4 C H4 e4 R4=>?_);have l:=e2.trans (e3.trans e4);refine hb B Z O4 C H4 F _ R4 (WR.imp (WR.bind w3) λfl u=>?_);cases fl with
  |nx h=>exact λt j L p r=>⟨A,t,h,l.trans p,r,u⟩
  |ct h=>exact λt j L p r=>⟨A,t,h,l.trans p,r,u⟩
  |bk h=>exact λt j L p r=>u t j L (T.trans (l.trans p)) r
  |rt rv=>exact u
 .have e:i=ds.length:=by omega
  subst e;rw[Vc (TB _)]at w2;exact .inl ⟨o,w2 O2 n N (T.trans e2) R2⟩
def fT:D->br (bg D)
 |.tuple ds=>lD ds
 |.list ds=>lD ds
 |_=>Th
def GP(K:Tg)(e:TE):TI:=λY H R=>e Y H λx b=>∃a,x=.ref a/\(((∃xs,Ym K b a xs)/\R (Sa K a) b)\/((∃xs,XY K b a xs)/\R (Ss K a) b))
theorem eY(y:PE X l tl):PI X tg l (GP X.K tl):=by
 intro i s Y H R I h;refine cz (y i s Y H _ I h) λv g ⟨x,r,f,t,u⟩=>?_;obtain⟨a,e,q⟩:=u;subst e;cases t;rcases q with⟨⟨xs,j⟩,q⟩|⟨⟨xs,j⟩,q⟩
 .obtain⟨n,rv,p,w⟩:=f.list j
  refine WT p.isList ?_;refine⟨g.heap.objs.size,[g.heap.objs.size],_,_,r,rfl,f.kept λb o e=>bt _ e,DW a _,⟨_,b5 _ rfl,rfl,rfl⟩,λb m=>?_,q⟩;have e:b=g.heap.objs.size:=by simpa using m
  subst e;exact f.abN (TB _) (f.UW.fresh (TB _))
 .obtain⟨n,rv,p,w⟩:=f.tuple j
  refine Y7 (show g.heap.IsTuple a n.toArray from p) ?_;refine⟨g.heap.objs.size,[g.heap.objs.size],_,_,r,rfl,f.kept λb o e=>bt _ e,AA a _,⟨_,b5 _ rfl,rfl,rfl⟩,λb m=>?_,q⟩;have e:b=g.heap.objs.size:=by simpa using m
  subst e;exact f.abN (TB _) (f.UW.fresh (TB _))
theorem CT(h:ZT O K H a xs)(hd:Vl O K H xs ds):wo K (Sa K a) O H ds:=by intro U H' e n;have f:=h.ev e;have b:=hd.ev e;refine⟨λi hi=>?_,⟨xs,f.1.sq,by rw[hd.length];exact TB _⟩⟩;obtain⟨x,l,_⟩:=b.get (TK hi);refine⟨⟨xs,x,f.1.sq,l⟩,?_⟩;rintro y m ⟨rfl,hy⟩;obtain⟨d,j,g⟩:=b.aef (hy xs f.1.sq);exact⟨Vp.refl _,d,j,g⟩
theorem GM(h:Yh O K H a xs)(hd:Vl O K H xs ds):wo K (Ss K a) O H ds:=by intro U H' e n;have f:=h.ev e;have b:=hd.ev e;refine⟨λi hi=>?_,⟨xs,f.1,by rw[hd.length];exact TB _⟩⟩;obtain⟨x,l,_⟩:=b.get (TK hi);refine⟨⟨xs,x,f.1,l⟩,?_⟩;rintro y m ⟨rfl,hy⟩;obtain⟨d,j,g⟩:=b.aef (hy xs f.1);exact⟨Vp.refl _,d,j,g⟩
def jV(fe:FE):FI:=λρ=>(fe ρ).bind λa=>(Res.UB (zj a.2 a.1)).bind λb=>(Res.UB (fT b.1)).bind λds=>.ok (ds,b.2)
theorem gZ(h:EO K E tl fe):IO K E (GP K tl) (jV fe):=by
 intro B Z O Y H ρ r R w;refine h B Z O Y H ρ _ R (w.bind.imp λa b t x l i p n=>?_);obtain⟨⟨d,m⟩,q,b⟩:=b.UB;obtain⟨j,g,R2,o⟩:=vQ p n q;obtain⟨ds,e,b⟩:=b.UB;dsimp only at e;cases o with
 |tup h f=>cases e;exact⟨_,rfl,.inr ⟨⟨_,h.1⟩,b j _ l (i.trans g) R2 (GM h f)⟩⟩
 |lst h f=>cases e;exact⟨_,rfl,.inl ⟨⟨_,h.1.sq⟩,b j _ l (i.trans g) R2 (CT h f)⟩⟩
 |_=>cases e
def gO(lo:Int)(n:Nat):bg D:=(TY n).map λ(k:Nat)=>.int (lo+(k:Int))
theorem Fb:wo K (RO lo n) O H (gO lo n):=by
 intro U H' e f;have a:(gO lo n).length=n:=by unfold gO;rw[Tj,Uq]
 refine⟨λi hi=>?_,by show n<=_;rw[a];exact TB _⟩;rw[a]at hi;refine⟨hi,?_⟩;rintro x b ⟨rfl,rfl⟩;exact⟨Vp.refl _,.int (lo+i),by unfold gO;rw[TH,List.getElem?_range hi];rfl,.int _⟩
def lL(i:Int):Prop:= -(2^62)<=i/\i<2^62
noncomputable instance(i:Int):Decidable (lL i):=by unfold lL;infer_instance
def mJ:bg D->br (bg D)
 |[.int j]=>if lL j then lD (gO 0 j.toNat) else Th
 |_=>Th
def tV(f:bg D->br (bg D))(fa:FA):FI:=λρ=>(fa ρ).bind λa=>(Res.UB (uI a.2 a.1)).bind λds=>(Res.UB (f ds)).bind λxs=>.ok (xs,a.2)
theorem iZ(h:AO K E ta fa):IO K E (M4 ta) (tV mJ fa):=by
 intro B Z O Y H ρ t R w;refine h B Z O Y H ρ _ R (w.bind.imp λa e p vs r o g l=>?_);obtain⟨ds,q,e⟩:=e.UB;obtain⟨xs,b,e⟩:=e.UB;have i:=xA g l q;unfold mJ at b;split at b
 .rename_i j
  split at b
  .rename_i f
   cases b;cases i with
   |cons n m=>cases m;cases n;exact⟨j,rfl,f.1,f.2,e p _ r o g Fb⟩
  .cases b
 .cases b
end
section
variable{K:Tg}{E:XK}{B O Y:cg}{X H H':Hp}{Z:St}{ρ ρ':bp}{v:V}
def F5:br PV->br PV
 |some (.fz d)=>lD (.fz d)
 |_=>Th
def df(ρ:bp):bp:=ρ.map F5
theorem Bt{i:Nat}(h:(df ρ)[i]?=lD (lD x)):∃d,x=.fz d/\ρ[i]?=lD (lD (.fz d)):=by
 unfold df at h;rw[TH]at h;cases q:ρ[i]? with
 |none=>rw[q]at h;cases h
 |some o=>
  rw[q]at h;have a:=TQ h;unfold F5 at a;split at a
  .cases a;exact⟨_,rfl,rfl⟩
  .cases a
def vU(ρ:bp):bg Nat->br (bg D×bp)
 |[]=>lD ([],ρ)
 |j::r=>match zj ρ (.pl j) with
  |some (d,ρ1)=>(match vU ρ1 r with
   |some (c,ρ2)=>lD (d::c,ρ2)
   |none=>Th)
  |none=>Th
theorem EA(R:Rl K B X O Z H ρ)(h:zj ρ (.pl i)=lD (d,ρ')):∃v,Z[i]?=lD (lD v):=by
 have a:Sl ρ i ρ[i]?=lD (d,ρ'):=h;cases q:ρ[i]? with
 |none=>rw[q]at a;cases a
 |some o=>
  cases o with
  |none=>rw[q]at a;cases a
  |some x=>obtain⟨v,b,_⟩:=R.slot i x q;exact⟨v,b⟩
theorem yM:∀{fv:bg Nat} {ds:bg D} {O:cg} {ρ ρ':bp},Rl K B X O Z H ρ->vU ρ fv=lD (ds,ρ')->∃Y vs,Ev O H Y H/\Rl K B X Y Z H ρ'/\Vl Y K H vs ds/\fv.map (λj=>(Z[j]?).join)=vs.map lD
 |[],_,O,_,_,R,e=>by cases e;exact⟨O,[],.refl,R,.nil,rfl⟩
 |j::r,_,O,ρ,ρ',R,e=>by
  unfold vU at e;cases q:zj ρ (.pl j) with
  |none=>rw[q]at e;cases e
  |some p=>
   obtain⟨d,a⟩:=p;rw[q]at e;dsimp only at e;cases q2:vU a r with
   |none=>rw[q2]at e;cases e
   |some h=>obtain⟨c,g⟩:=h;rw[q2]at e;cases e;obtain⟨v,b⟩:=EA R q;obtain⟨u,l,o,n⟩:=vQ (pv:=.pl j) R b q;obtain⟨t,vs,f,R2,m,i⟩:=yM o q2;exact⟨t,v::vs,l.trans f,R2,.cons (n.ev f) m,by rw[TX,TX,i,b];rfl⟩
def dG(gt:FG)(ft:FT)(fe:FE):bg D->bp->bg D->Res (bg D)
 |[],_,acc=>.ok acc
 |d::r,ρ,acc=>(gt (.fz d) ρ).bind λe=>(ft e).bind λb=>if b.1=To then(fe b.2).bind λa=>(Res.UB (zj a.2 a.1)).bind λx=>
   if acc.length<1000000 then dG gt ft fe r (df x.2) (acc++[x.1]) else .bad
  else dG gt ft fe r (df b.2) acc
def ku:Res α->Res α
 |.er _=>.bad
 |r=>r
def fA(n:Nat)(fv:bg Nat)(b:FI)(gt:FG)(ft:FT)(fe:FE):FE:=λρ=>(b ρ).bind λa=>(Res.UB (vU a.2 fv)).bind λc=>
 (ku (dG gt ft fe a.1 (TJ n Th++c.1.map λd=>lD (.fz d)) [])).bind λxs=>.ok (.ow xs,c.2)
theorem B6{own:bg Str}(h:own.length=n):own.map (λ_=>(Th:br V))=TJ n Th:=by
 subst h
 induction own with
 |nil=>rfl
 |cons x r a=>rw[TX,a,TR,UN]
theorem CJ(h:WR K E B X P (ku r)):∃a,r=.ok a/\P a:=by
 cases r with
 |ok a=>exact⟨a,rfl,h⟩
 |er x=>exact h.elim
 |bad=>exact h.elim
def Ra(K:Tg)(J:It)(O:cg)(H:Hp)(ds:bg D):Prop:=∀Y H',Ev O H Y H'->Vp H H'->oZ Y H'->
 (∀i,i<ds.length->J.go i H'/\∀x H'',J.yld i H' x H''->Vp H' H''/\∃d,ds[i]?=lD d/\DV Y K H'' x d)/\J.stop ds.length H'
def SS(K:Tg)(E:XK)(b:TI)(e:FI):Prop:=
 ∀(B:cg) (X:Hp) (O:cg) (Z:St) (H:Hp) (ρ:bp) (a:It->Hp->Prop),Rl K B X O Z H ρ->WR K E B X (λr=>∀Y J H',Ev O H Y H'->Rl K B X Y Z H' r.2->Ra K J Y H' r.1->a J H') (e ρ)->b Z H a
theorem IO.s(h:IO K E wi fi):SS K E wi fi:=λB X O Z H ρ f R w=>h B X O Z H ρ f R (w.imp λr q Y J H' e R a=>q Y J H' e R λg i b _ n=>a g i b n)
theorem Ga(hn:own.length=n)(hf:fv.map (·.2)=fj)
  (hi:SS K E wi fi) (hg:GO K E0 g gt) (ht:TTO K E0 tc ft) (he:EO K E0 te fe):EO K E (zd own fv wi g tc te) (fA n fj fi gt ft fe):=by
 intro B X O Z H ρ Q R w;refine hi B X O Z H ρ _ R (w.bind.imp λa w1 O1 J H1 e1 R1 it=>?_);obtain⟨ds,ρ1⟩:=a;obtain⟨⟨cs,ρ2⟩,qc,w1⟩:=w1.UB;dsimp only at qc it;obtain⟨I,vs,e2,R2,dvs,hvs⟩:=yM R1 qc;obtain⟨xs,qx,w1⟩:=CJ (WR.bind w1);intro l F;have hB:∀{H':Hp},Vp H1 H'->H' l≠Th->∀a,ck I l a->H' a≠Th:=λ{H'} s nd a h z=>h.elim (λq=>R2.od a (s.free z) q) λe=>nd (by rw[<-e];exact z);refine⟨λi m L H'=>m=ds.length - i/\i<=ds.length/\∃(A:bg D) (G:bg V) (t:bp),Vp H1 H'/\H' l=lD (.lst G)/\Vl (ck I l) K H' G A/\L.length=t.length/\(∀(j:Nat) (x:PV),t[j]?=lD (lD x)->∃d u,x=PV.fz d/\L[j]?=lD (lD u)/\DV (ck I l) K H' u d)/\dG gt ft fe (ds.drop i) t A=.ok xs,
  ⟨_,rfl,Ur _,[],[],_,bO F _,aF,.nil,?_,λj x M=>?_,qx⟩,?_⟩
 .unfold je;rw[Tz,Tz,Tj,Tj,Ut,Tj,hn,<-dvs.length];have:=dw XT hvs;rw[Tj,Tj,<-hf,Tj]at this;omega
 .have hm:fv.map (λp=>(Z[p.2]?).join)=vs.map lD:=by rw[<-hvs,<-hf,Ui];rfl
  unfold je;rw[B6 hn,hm];by_cases hj:j<n
  .rw[TF (by rw[Ut];exact hj),V1,av hj]at M;cases M
  .rw[Um (by rw[Ut];omega),Ut,TH]at M⊢
   cases qd:cs[j - n]? with
   |none=>rw[qd]at M;cases M
   |some d=>rw[qd]at M;cases M;obtain⟨u,hu,du⟩:=dvs.get qd;exact⟨d,u,rfl,by rw[hu];rfl,du.ev (Ev.add (bO F _) F)⟩
 .rintro i m L H' ⟨rfl,hi,A,G,t,s,hD,dys,hl,hsl,f⟩
  have nD:H' l≠Th:=by rw[hD];simp
  have no':=λa z h=>hB s nD a h z;have ev1:=e2.trans (Ev.add s F);obtain⟨go,stop⟩:=it (ck I l) H' ev1 s no';by_cases Xp:i<ds.length
  .obtain⟨g1,g2⟩:=go i Xp
   refine .inr ⟨g1,λC N=>i+1<=ds.length/\∃(A:bg D) (G:bg V) (t:bp),Vp H1 N/\N l=lD (.lst G)/\Vl (ck I l) K N G A/\C.length=t.length/\(∀(j:Nat) (x:PV),t[j]?=lD (lD x)->∃d u,x=PV.fz d/\C[j]?=lD (lD u)/\DV (ck I l) K N u d)/\dG gt ft fe (ds.drop (i+1)) t A=.ok xs,
    λC N ⟨U,h2⟩=>⟨ds.length - (i+1),by omega,rfl,U,h2⟩,λx H3 y=>?_⟩
   obtain⟨s3,d,hd,dv⟩:=g2 x H3 y;have ed:ds.drop i=d::ds.drop (i+1):=by obtain⟨_,q⟩:=Tn.mp hd;rw[Ve Xp,q]
   rw[ed]at f;have hD3:=s3 _ _ hD;have nD3:H3 l≠Th:=by rw[hD3];simp
   have sv:=s.trans s3;have RC:Rl K (ck I l) H3 (ck I l) L H3 t:=⟨Vp.refl _,λ_ h=>h,hB sv nD3,λa z h=>hB sv nD3 a h z,hl,λj x M=>by obtain⟨d,u,rfl,U,h2⟩:=hsl j x M;exact⟨u,U,h2.ev (Ev.grow s3)⟩,λj k xs G w hj=>by obtain⟨d,u,e,_⟩:=hsl j _ hj;cases e⟩;unfold dG at f;have back:∀{O5:cg} {C:St} {N:Hp} {P:bp} {H6:Hp},Rl K (ck I l) H3 O5 C N P->(∀b o,b≠l->N b=lD o->H6 b=lD o)->C.length=(df P).length/\∀(j:Nat) (x:PV),(df P)[j]?=lD (lD x)->∃d u,x=PV.fz d/\C[j]?=lD (lD u)/\DV (ck I l) K H6 u d:=λ{O5 C N P H6} T k=>by refine⟨by unfold df;rw[Tj];exact T.len,λj x M=>?_⟩;obtain⟨d,rfl,hxx⟩:=Bt M;obtain⟨u,U,h2⟩:=T.slot j _ hxx;refine⟨d,u,rfl,U,DV.ev (λb o h n=>⟨k b o (λe=>n (.inr e)) h,n⟩) (DV.ev (Ev.sub T.bo) h2)⟩
   refine hg _ _ _ L H3 t x (.fz d) _ RC dv ?_;cases qg:gt (.fz d) t with
   |er z=>rw[qg]at f;cases f
   |bad=>rw[qg]at f;cases f
   |ok ρ3=>
    rw[qg,dP]at f;intro O4 σ4 H4 e4 R4;refine ht _ _ _ σ4 H4 ρ3 _ R4 ?_;cases qt:ft ρ3 with
    |er z=>rw[qt]at f;cases f
    |bad=>rw[qt]at f;cases f
    |ok b=>
     obtain⟨b,ρ4⟩:=b;rw[qt,dP]at f;intro O5 N e5 T;cases b with
     |false=>rw[ax TV]at f⊢;obtain⟨l5,k5⟩:=back T λb o _ h=>h;refine⟨Xp,A,G,df ρ4,sv.trans T.same,T.same _ _ hD3,?_,l5,k5,f⟩;exact dys.ev (Ev.grow (s3.trans T.same))
     |true=>
      rw[av rfl]at f⊢;refine he _ _ _ σ4 N ρ4 _ T ?_;cases qe:fe ρ4 with
      |er z=>rw[qe]at f;cases f
      |bad=>rw[qe]at f;cases f
      |ok r=>
       rw[qe,dP]at f;intro O6 yv H6 e6 R6 p6;cases q7:zj r.2 r.1 with
       |none=>rw[q7]at f;cases f
       |some xr=>
        obtain⟨xd,ρ7⟩:=xr;rw[q7]at f;obtain⟨O7,e7,R7,dv7⟩:=vQ R6 p6 q7;have hD7:=R7.same _ _ hD3;have S:(if A.length<1000000 then dG gt ft fe (ds.drop (i+1)) (df ρ7) (A++[xd]) else .bad)=.ok xs:=f;by_cases hl6:A.length<1000000
        .rw[av hl6]at S
         have up:∀b o,b≠l->H6 b=lD o->bq H6 l (.lst (G++[yv])) b=lD o:=λb o hb h=>by rw[az hb];exact h
         have fU:Ev (ck I l) H6 (ck I l) (bq H6 l (.lst (G++[yv]))):=λb o h n=>⟨up b o (λe=>n (.inr e)) h,n⟩;have aiQ:=dys.ev (Ev.grow (s3.trans R7.same));obtain⟨l5,k5⟩:=back R7 up;refine⟨G,hD7,uX (by rw[dys.length];exact hl6),Xp,A++[xd],G++[yv],df ρ7,λb o h=>?_,aF,?_,l5,k5,S⟩
         .rw[az (b6 h F)];exact R7.same _ _ (sv _ _ h)
         .exact(aiQ.append (.cons (DV.ev (Ev.sub R7.bo) dv7) .nil)).ev fU
        .rw[ax hl6]at S;cases S
  .have e:i=ds.length:=by omega
   subst e;rw[Vc (TB _)]at f;have f:=f;cases f;refine .inl ⟨stop,?_⟩;refine w1 (ck I l) (.ref l) H' (e1.trans ev1) (R2.add s F nD) ⟨l,G,rfl,.inr rfl,R2.aez F,hD,dys,λk es hk z=>?_⟩;obtain⟨u,U,b,us,e2,g1,g2,g3,g4⟩:=R2.slot k _ hk;rw[z]at U;cases U;cases e2;rw[F]at g3;cases g3
theorem dM(hn:own.length=n)(e:fv.map (·.2)=fj)
  (hi:IO K E wi fi) (b:GO K E0 g gt) (a:TTO K E0 tc ft) (f:EO K E0 te fe):EO K E (zd own fv wi g tc te) (fA n fj fi gt ft fe):=Ga hn e hi.s b a f
def cK(F:FN)(n:Nat)(fa:FA):FE:=λρ=>(fa ρ).bind λa=>(Res.UB (ro a.2 a.1)).bind λb=>if b.1.length=n then(ku (F b.1)).bind λrv=>.ok (rv.pv,b.2) else .bad
theorem iA(ha:AO K E ta fa):EO K E (kg (qC K n F) [] E0 ta) (cK F n fa):=by
 intro B X O Z H ρ Q R w;refine ha B X O Z H ρ _ R (w.bind.imp λa g C vs G p t j=>?_);obtain⟨⟨ds,f⟩,q,b⟩:=g.UB;obtain⟨y,o,R2,e⟩:=sO t j q;dsimp only at b;by_cases hn:ds.length=n
 .rw[av hn]at b;obtain⟨rv,h,b⟩:=CJ (WR.bind b);rw[Uo];refine⟨e.length.trans hn,y,ds,λa z l=>R2.od a l z,e,?_⟩;rw[h];exact mW R2 λu v A m r i=>b u v A (p.trans (o.trans m)) r i
 .rw[ax hn]at b;exact b.elim
end
def gA(N:Nat)(g:FS):FN:=λds=>(g (ds.map (λd=>lD (.fz d))++TJ (N - ds.length) Th)).bind λa=>match a with
 |.rt rv=>.ok rv
 |.nx _=>.ok (.fz .none)
 |_=>.bad
theorem Ja(g:∀a,B a->H a≠Th)(l:Vl B K H vs ds):Rl K B H B (L2.start N vs) H (ds.map (λd=>lD (.fz d))++TJ (N.length - ds.length) Th):=by
 have n:=l.length;refine⟨Vp.refl _,λ_ h=>h,g,λa z h=>g a h z,?_,λi x m=>?_,λi j xs r w hi=>?_⟩
 .unfold L2.start;rw[Tz,Tz,Tj,Tj,Ut,Ut,n]
 all_goals
  have b:∀{i:Nat} {x:PV},(ds.map (λd=>lD (PV.fz d))++TJ (N.length - ds.length) Th)[i]?=lD (lD x)->∃d,x=.fz d/\ds[i]?=lD d:=λ{i x} h=>by
   by_cases hi:i<ds.length
   .rw[TF (by rw[Tj];exact hi),TH]at h
    cases q:ds[i]? with
    |none=>rw[q]at h;cases h
    |some d=>rw[q]at h;cases h;exact⟨d,rfl,rfl⟩
   .rw[Um (by rw[Tj];omega),V1]at h;split at h<;>cases h
 .obtain⟨d,rfl,o⟩:=b m;obtain⟨v,f,p⟩:=l.get o;refine⟨v,?_,p⟩;have hi:=(Tn.mp f).1;unfold L2.start;rw[TF (by rw[Tj];exact hi),TH,f];rfl
 .obtain⟨d,e,_⟩:=b hi;cases e
theorem S2(F:WL K x qual st f fd)(S:Wb N ps (aB st))(hn:ps.length=n)
  (r:∀(a:Ti) (A:Uk) (outer:bg Env) (s:Tv) (H:Hp) (E:XK),VU k (A.deeper (Ud qual (aB st) s.heap.objs.size f a))->
   ∃t,Zl (gy dD P w K mg base N qual (aB st) f a A outer s H E).nox (cr st) t/\SO K E t g):FnOk P w K mg base dD (k+1) f fd ps (qC K n (gA N.length g)):=by
 refine F.ok S (λvs H Q E h=>h.1.trans hn.symm) (λa A outer s H vs Q E l h=>?_);obtain⟨t,i,j⟩:=r a A outer s H E l;obtain⟨v,B,ds,m,p,h⟩:=h;refine⟨t,i,j B H B _ H _ _ (Ja m p) (WR.imp (WR.bind h) λo q=>?_)⟩;cases o with
 |rt rv=>exact q
 |nx ρ=>exact λy b u e R=>q .V8 u R.same .V8
 |bk ρ=>exact q.elim
 |ct ρ=>exact q.elim
end L3
namespace L3
open PySem PySem.Spec PyProof.Rows L2
theorem OpR.or(h:OpR X f r)(h':OpR X f r'):OpR X f (λx y H Q=>r x y H Q\/r' x y H Q):=by
 intro a s b H x y v u Q I g e q;rcases q with q|q
 .exact h a s b H x y v u Q I g e q
 .exact h' a s b H x y v u Q I g e q
theorem Pm(I:Inv X pins σ H s)(h:Xz X.K H l xs):xs.length<=TL/\∃(a:bg Ti) (n:Nat),Vals xs a/\xs.length=a.length/\s.heap.get? l=lD {cls:=.type "list",data:=.seq a.toArray n}:=by
 rcases h with(h|⟨o,h⟩)|⟨a,n,h1,h2,h3⟩
 .exact I.agG h
 .obtain⟨_,z,a,n,r,e⟩:=I.UW l _ h;exact⟨z,a,n,r,r.length,e⟩
 .exact⟨h2,a,n,h3,h3.length,I.Yu _ _ h1⟩
def Nc(K:Tg):R2:=λx y H Q=>∃l b xs zs,x=.ref l/\y=.ref b/\Xz K H l xs/\Xz K H b zs/\xs.length+zs.length<=TL/\∀p,H p=Th->Q (.ref p) (bq H p (.lst (xs++zs)))
theorem JW:OpR X (Wl .Add) (Nc X.K):=by
 intro f s B H x y v u Q I j i h;obtain⟨l,b,xs,C,rfl,rfl,p,t,G,q⟩:=h;cases j;cases i;obtain⟨z,g,n,r,J,e⟩:=Pm I p;obtain⟨E,a,F,m,o,A⟩:=Pm I t;refine PySem.P.add_list e A ?_ (by rw[TU,TU];omega);have w:g.toArray++a.toArray=(g++a).toArray:=by simp
 rw[w];exact⟨.ref _,_,I.ahl (r.append m) (by rw[Tz];omega),rfl,q _ I.fresh⟩
def MB(K:Tg):R2:=λx y H Q=>∃l k xs,x=.ref l/\y=.int k/\Xz K H l xs/\ -(2^63)<=k/\k<2^63/\xs.length*k.toNat<=TL/\
 ∀p,H p=Th->Q (.ref p) (bq H p (.lst (TJ k.toNat xs).flatten))
theorem Lr:OpR X (Wl .Mult) (MB X.K):=by
 intro p s P H x y v u Q I G E h;obtain⟨l,k,xs,rfl,rfl,L,N,M,w,q⟩:=h;cases G;obtain⟨t,rfl⟩:=E;obtain⟨z,b,n,r,J,e⟩:=Pm I L;have f:b.toArray.size*k.toNat<=TL:=by rw[TU,<-J];exact w
 have g:¬b.toArray.size*k.toNat>(2^63 - 1)/8:=by
  have:(TL:Nat)<=(2^63 - 1)/8:=by decide
  omega
 have j:¬(!Ul.List.listFitsIndex k)=To:=by rw[fitsIndex_both N M];exact TV
 have i:¬Ul.List.listTooLong (b.toArray.size*k.toNat)=To:=by rw[IB f];exact TV
 have o:Yi (λB A=>B++A) #[] (TJ (if b.toArray.isEmpty=To then 0 else k.toNat) b.toArray)=(TJ k.toNat b).flatten.toArray:=by
  have O:=λm=>by have:=pR b m [];rw[aaq]at this;exact this
  rw[O];cases b with
  |nil=>simp
  |cons a R=>rw[ax (by simp)]
 refine ace (by decide) ⟨_,e,rfl⟩ (λC=>aac C k t) noFill_list_mul F.fills_int_mul F.slot_int_rmul repeat_list F.slot_int_index.lookup
  (X8 F.slot_int_rmul (aac s k t) F.entry_int_rmul (F.args_int_rmul_2 _ _) (int___rmul___int_list k t l b.toArray n)
   ⟨e,rfl,⟨_,e,rfl⟩,X8 F.slot_list_mul ⟨_,e,rfl⟩ F.entry_list_mul (F.args_list_mul_2 _ _) (AutoListH.list___mul___list_int_3 l b.toArray n k t j g i) ⟨e,?_⟩⟩)
 rw[o];exact⟨.ref _,_,I.ahl (r.rep k.toNat) (by rw[Cp,Nat.mul_comm];exact w),rfl,q _ I.fresh⟩
section
variable{K:Tg}
def fI(g:Int->Int->Int):D->D->br RV
 |.int i,.int j=>lD (.fz (.int (g i j)))
 |_,_=>Th
def fB(g:Int->Int->Bool):D->D->br RV
 |.int i,.int j=>lD (.fz (.bool (g i j)))
 |_,_=>Th
def RH(C:Int->Int->Bool)(g:Int->Int->Int):D->D->br RV
 |.int i,.int j=>if C i j=To then lD (.fz (.int (g i j))) else Th
 |_,_=>Th
theorem yz(h:fI g dx dy=lD rv):∃i j,dx=.int i/\dy=.int j/\rv=.fz (.int (g i j)):=by
 unfold fI at h;split at h
 .cases h;exact⟨_,_,rfl,rfl,rfl⟩
 .cases h
theorem Qd:ri K (CW λi j=>.int (g i j)) (fI g):=by intro O H x y dx f rv Q n b a e q;obtain⟨i,j,rfl,rfl,rfl⟩:=yz e;cases b;cases a;exact⟨i,j,rfl,rfl,q.at (.int _)⟩
theorem Io:ri K (CW λi j=>.bl (g i j)) (fB g):=by
 intro O H x y dx f rv Q n b a e q;unfold fB at e;split at e
 .cases e;cases b;cases a;exact⟨_,_,rfl,rfl,q.at (.bl _)⟩
 .cases e
theorem GC(h:∀i j,C i j=To->C' i j):ri K (rI C' λi j=>.int (g i j)) (RH C g):=by
 intro O H x y dx l rv Q n b a e q;unfold RH at e;split at e
 .split at e
  .rename_i f;cases e;cases b;cases a;exact⟨_,_,rfl,rfl,h _ _ f,q.at (.int _)⟩
  .cases e
 .cases e
theorem BV(h:DX O K H x (.list ds)):∃a xs,x=.ref a/\Xz K H a xs/\Vl O K H xs ds:=h
theorem EI(h:DX O K H x (.tuple ds)):∃a xs,x=.ref a/\Yh O K H a xs/\Vl O K H xs ds:=FH h rfl
def MX(K:Tg):R2:=λx y H Q=>CW (λi j=>.int (i+j)) x y H Q\/Nc K x y H Q\/M8 K x y H Q
theorem gq:OpR X (Wl .Add) (MX X.K):=OpR.or Nt (OpR.or JW Lz)
def cB:D->D->br RV
 |.int i,.int j=>lD (.fz (.int (i+j)))
 |.list xs,.list ys=>if xs.length+ys.length<=1000000 then lD (.ow (xs++ys)) else Th
 |.tuple xs,.tuple ys=>if xs≠[]/\xs.length+ys.length<=1000000 then lD (.fz (.tuple (xs++ys))) else Th
 |_,_=>Th
theorem vL(h:n<=1000000):n<=TL:=Uv h (by decide)
theorem Vl.ne(h:Vl O K H vs ds):vs=[]↔ds=[]:=by cases h<;>simp
theorem fW:ri K (MX K) cB:=by
 intro O H x y dx r rv Q n m l e q;unfold cB at e;split at e
 .cases e;cases m;cases l;exact .inl ⟨_,_,rfl,rfl,q.at (.int _)⟩
 .split at e
  .rename_i h;cases e;obtain⟨a,xs,rfl,i,f⟩:=BV m;obtain⟨b,j,rfl,o,g⟩:=BV l;exact .inr (.inl ⟨a,b,xs,j,rfl,rfl,i,o,vL (by rw[f.length,g.length];exact h),Fin.new (f.append g) q⟩)
  .cases e
 .split at e
  .rename_i h;cases e;obtain⟨a,xs,rfl,i,f⟩:=EI m;obtain⟨b,j,rfl,o,g⟩:=EI l;refine .inr (.inr ⟨a,b,xs,j,rfl,rfl,i.1,o.1,λz=>h.1 (f.ne.mp z),vL (by rw[f.length,g.length];exact h.2),λz=>?_,λ_=>Fin.adi (f.append g) n q⟩);have p:=g.ne.mp z;subst p;rw[Uo]at q;exact q.at (.tup i f)
  .cases e
 .cases e
def FV(K:Tg):R2:=λx y H Q=>rI aee (λi j=>.int (i*j)) x y H Q\/MB K x y H Q
theorem LU:OpR X (Wl .Mult) (FV X.K):=OpR.or NX Lr
def ic(i:Int):Bool:=decide (-(2^64)<i/\i<2^64)
theorem tQ(h:ic i=To): -(2^64)<i/\i<2^64:=a5 h
def Ew:D->D->br RV
 |.int i,.int j=>if(ic i||ic j)=To then lD (.fz (.int (i*j))) else Th
 |.list xs,.int k=>if xs.length*k.toNat<=1000000/\ -(2^63)<=k/\k<2^63 then lD (.ow (TJ k.toNat xs).flatten) else Th
 |_,_=>Th
theorem Lg:ri K (FV K) Ew:=by
 intro O H x y dx j rv Q n g f e q;unfold Ew at e;split at e
 .split at e
  .rename_i b
   cases e;cases g;cases f;refine .inl ⟨_,_,rfl,rfl,?_,q.at (.int _)⟩;rcases(Ys _ _).mp b with z|z
   .exact .inl (tQ z)
   .exact .inr (tQ z)
  .cases e
 .split at e
  .rename_i b;cases e;cases f;obtain⟨a,xs,rfl,i,h⟩:=BV g;exact .inr ⟨a,_,xs,rfl,rfl,i,b.2.1,b.2.2,vL (by rw[h.length];exact b.1),Fin.new (h.flat _) q⟩
  .cases e
 .cases e
def xj:=fI λi j=>i - j
theorem LJ:ri K (CW λi j=>.int (i - j)) xj:=Qd
def OO(_ j:Int):Bool:=decide (0<j)
def uB:=RH OO λi j=>i % j
theorem LG:ri K (rI (λ_ j=>0<j) λi j=>.int (i % j)) uB:=GC λi j h=>a5 h
def Ph(_ j:Int):Bool:=decide (0<j/\j<2^128)
def En:=RH Ph λi j=>i/j
theorem KC:ri K (rI (λ_ j=>0<j/\j.natAbs.log2<9000) λi j=>.int (i/j)) En:=GC λi j h=>by
 have a:=a5 h;refine⟨a.1,?_⟩;have b:j.natAbs<2^128:=by have:=a.2;omega
 have e:=(Nat.log2_lt (by omega)).mpr b;omega
def P3:=fB λi j=>decide (i<j)
def F1:=fB λi j=>decide (j<i)
def Sq:=fB λi j=>decide (j<=i)
theorem wg:ri K (CW λi j=>.bl (decide (i<j))) P3:=Io
theorem G9:ri K (CW λi j=>.bl (decide (j<i))) F1:=Io
theorem IM:ri K (CW λi j=>.bl (decide (j<=i))) Sq:=Io
def lY(d:D):Bool:=d.canLay0&&decide (d.depth<=64)
def dh(d e:D):br RV:=if(lY d&&e.canLay0)=To then lD (.fz (.bool (Tu.eqv d e))) else Th
def tK(d e:D):br RV:=if(lY d&&e.canLay0)=To then lD (.fz (.bool (!Tu.eqv d e))) else Th
theorem nr:ri K (Kt K Tw) dh:=by
 intro O H x y dx g rv Q n f b e q;unfold dh at e;split at e
 .rename_i a;cases e;unfold lY at a;simp only[T6,decide_eq_true_eq]at a;exact⟨dx,g,f.plain,b.plain,a.1.1,a.2,a.1.2,q.at (.bl _)⟩
 .cases e
theorem Ir:ri K (Kt K To) tK:=by
 intro O H x y dx g rv Q n f b e q;unfold tK at e;split at e
 .rename_i a;cases e;unfold lY at a;simp only[T6,decide_eq_true_eq]at a;exact⟨dx,g,f.plain,b.plain,a.1.1,a.2,a.1.2,q.at (.bl _)⟩
 .cases e
def rc:D->D->br RV
 |.none,.none=>lD (.fz (.bool To))
 |_,.none=>lD (.fz (.bool Tw))
 |_,_=>Th
def oJ:D->D->br RV
 |.none,.none=>lD (.fz (.bool Tw))
 |_,.none=>lD (.fz (.bool To))
 |_,_=>Th
theorem IH(h:DX O K H x d)(hd:d≠.none):x≠.V8:=by
 cases d with
 |none=>exact a6 rfl hd
 |list ds=>obtain⟨a,xs,rfl,_⟩:=BV h;simp
 |tuple ds=>obtain⟨a,xs,rfl,_⟩:=EI h;simp
 |bool b=>cases h;simp
 |int b=>cases h;simp
 |str b=>cases h;simp
 |dict b=>cases h
theorem B5:ri K (λx y H Q=>y=.V8/\Q (.bl (decide (x=.V8))) H) rc:=by
 intro O H x y dx g rv Q n b a e q;unfold rc at e;split at e
 .cases e;cases b;cases a;exact⟨rfl,q.at (.bl _)⟩
 .rename_i f;cases e;cases a;refine⟨rfl,?_⟩;rw[a4 (IH b f)];exact q.at (.bl _)
 .cases e
theorem rG:ri K (λx y H Q=>y=.V8/\Q (.bl (!decide (x=.V8))) H) oJ:=by
 intro O H x y dx g rv Q n b a e q;unfold oJ at e;split at e
 .cases e;cases b;cases a;exact⟨rfl,q.at (.bl _)⟩
 .rename_i f;cases e;cases a;refine⟨rfl,?_⟩;rw[a4 (IH b f)];exact q.at (.bl _)
 .cases e
def LV(K:Tg)(neg:Bool):R2:=λx y H Q=>∃d ds,L2.DV K H x d/\(L2.DV K H y (.list ds)\/L2.DV K H y (.tuple ds))/\d.canLay0=To/\Tu.canLayAll0 ds=To/\d.depth<=64/\Q (.bl (if neg then !(ds.any λe=>Tu.eqv e d) else ds.any λe=>Tu.eqv e d)) H
theorem xU(p:X.A.units+65<cLine):OpR X (Vw .In) (LV X.K Tw):=by
 intro g s o H x y v u Q I l e h;obtain⟨d,ds,n,a,j,i,m,q⟩:=h;obtain⟨r,f⟩:=n.reads I l;have hm:min (Tu.depthAll ds) d.depth<=64:=Uv (aab _ _) m;rcases a with a|a
 .obtain⟨bs,b⟩:=a.reads I e;exact aiu b f i j (by omega) ⟨.bl _,H,I,rfl,q⟩
 .obtain⟨bs,b⟩:=a.reads I e;exact aiv b f i j (by omega) ⟨.bl _,H,I,rfl,q⟩
theorem KL(p:X.A.units+65<cLine):OpR X (Vw .NotIn) (LV X.K To):=by
 intro g s o H x y v u Q I l e h;obtain⟨d,ds,n,a,j,i,m,q⟩:=h;obtain⟨r,f⟩:=n.reads I l;have hm:min (Tu.depthAll ds) d.depth<=64:=Uv (aab _ _) m;rcases a with a|a
 .obtain⟨bs,b⟩:=a.reads I e;exact aiw b f i j (by omega) ⟨.bl _,H,I,rfl,q⟩
 .obtain⟨bs,b⟩:=a.reads I e;exact aix b f i j (by omega) ⟨.bl _,H,I,rfl,q⟩
def Kq(d e:D):br RV:=match fT e with
 |some ds=>if(lY d&&Tu.canLayAll0 ds)=To then lD (.fz (.bool (ds.any λe=>Tu.eqv e d))) else Th
 |none=>Th
def zl(d e:D):br RV:=match fT e with
 |some ds=>if(lY d&&Tu.canLayAll0 ds)=To then lD (.fz (.bool (!ds.any λe=>Tu.eqv e d))) else Th
 |none=>Th
theorem IZ(a:DX O K H y e)(h:fT e=lD ds):L2.DV K H y (.list ds)\/L2.DV K H y (.tuple ds):=by
 unfold fT at h;split at h
 .cases h;exact .inr a.plain
 .cases h;exact .inl a.plain
 .cases h
theorem xu:ri K (LV K Tw) Kq:=by
 intro O H x y dx h rv Q n f b e q;unfold Kq at e;split at e
 .rename_i ds g
  split at e
  .rename_i a;cases e;unfold lY at a;simp only[T6,decide_eq_true_eq]at a;exact⟨dx,ds,f.plain,IZ b g,a.1.1,a.2,a.1.2,q.at (.bl _)⟩
  .cases e
 .cases e
theorem Kl:ri K (LV K To) zl:=by
 intro O H x y dx h rv Q n f b e q;unfold zl at e;split at e
 .rename_i ds g
  split at e
  .rename_i a;cases e;unfold lY at a;simp only[T6,decide_eq_true_eq]at a;exact⟨dx,ds,f.plain,IZ b g,a.1.1,a.2,a.1.2,q.at (.bl _)⟩
  .cases e
 .cases e
def bJ(d e:D):br RV:=match fT d,e with
 |some ds,.int i=>(ng ds i).map .fz
 |_,_=>Th
theorem Iu(h:Vl O K H xs ds)(e:ng ds i=lD d):∃v,ng xs i=lD v/\DV O K H v d:=by
 unfold ng at e⊢;rw[h.length];cases q:M6 ds.length i with
 |none=>rw[q]at e;cases e
 |some j=>rw[q]at e;exact h.get e
theorem cy:ri K (RD K) bJ:=by
 intro O H x y dx o rv Q n l m e q;unfold bJ at e;split at e
 .rename_i ds i b
  cases m;cases qa:ng ds i with
  |none=>rw[qa]at e;cases e
  |some d=>
   rw[qa]at e;cases e;unfold fT at b;split at b
   .cases b;obtain⟨a,xs,rfl,h,g⟩:=EI l;obtain⟨v,f,j⟩:=Iu g qa;exact .inr (.inl ⟨a,xs,i,v,rfl,rfl,h.1,f,q.at j⟩)
   .cases b;obtain⟨a,xs,rfl,h,g⟩:=BV l;obtain⟨v,f,j⟩:=Iu g qa;exact .inl ⟨a,xs,i,v,rfl,rfl,h.sq,f,q.at j⟩
   .cases b
 .cases e
def p8(xs:bg D)(lo hi:br Int):bg D:=(xs.drop (HT.sIx xs.length 0 lo)).take (HT.sIx xs.length xs.length hi - HT.sIx xs.length 0 lo)
theorem Ig{lo hi:br Int}(h:Vl O K H xs ds):Vl O K H (D9 xs lo hi) (p8 ds lo hi):=by unfold D9 p8;rw[h.length];exact(h.drop _).take _
def kR(n:Nat)(lo hi:br Int):Bool:=decide (HT.sIx n 0 lo=0/\HT.sIx n n hi=n)
def OD(K:Tg):V->br Int->br Int->Hp->VK->Prop:=λx lo hi H Q=>QN K x lo hi H Q\/Qq K x lo hi H Q
theorem xH:NW X (OD X.K):=by
 intro a s b H x v f e lo hi g Q I i l pl j h;rcases h with h|h
 .exact J1 a s b H x v f e lo hi g Q I i l pl j h
 .exact Nu a s b H x v f e lo hi g Q I i l pl j h
def NG:D->br Int->br Int->br RV
 |.list ds,lo,hi=>lD (.ow (p8 ds lo hi))
 |.tuple ds,lo,hi=>if kR ds.length lo hi=To then Th else lD (.fz (.tuple (p8 ds lo hi)))
 |_,_,_=>Th
theorem oU:Ru K (OD K) NG:=by
 intro O H x lo hi dx rv Q n g e q;unfold NG at e;split at e
 .cases e;obtain⟨a,xs,rfl,f,b⟩:=BV g;exact .inl ⟨a,xs,rfl,f.sq,Fin.new (Ig b) q⟩
 .split at e
  .cases e
  .rename_i h;cases e;obtain⟨a,xs,rfl,f,b⟩:=EI g;refine .inr ⟨a,xs,rfl,f.1,λz=>h ?_,Fin.adi (Ig b) n q⟩;unfold kR;rw[<-b.length];exact aP z
 .cases e
def fP:bg D->br RV
 |[d]=>(match fT d with
  |some ds=>lD (.fz (.int ds.length))
  |none=>Th)
 |_=>Th
theorem kF:EL K (λxs H Q=>∃x n,xs=[x]/\Ku K x H n/\Q (.int n) H) fP:=by
 intro O H xs ds rv Q n h e q;unfold fP at e;split at e
 .split at e
  .rename_i i f
   cases e;cases h with
   |cons b g=>
    cases g;unfold fT at f;split at f
    .cases f;obtain⟨a,xs,rfl,b,g⟩:=EI b;exact⟨_,xs.length,rfl,.inr ⟨xs,b.1,rfl⟩,by rw[g.length];exact q.at (.int _)⟩
    .cases f;obtain⟨a,xs,rfl,b,g⟩:=BV b;exact⟨_,xs.length,rfl,.inl ⟨xs,b.sq,rfl⟩,by rw[g.length];exact q.at (.int _)⟩
    .cases f
  .cases e
 .cases e
def ou:bg D->br RV
 |[.tuple ds]=>lD (.fz (.tuple ds))
 |[.list ds]=>lD (.fz (.tuple ds))
 |_=>Th
theorem oQ:EL K (λxs H Q=>∃p ys,xs=[.ref p]/\((Ym K H p ys/\∀l,H l=Th->Q (.ref l) (bq H l (.tup ys)))\/(XY K H p ys/\Q (.ref p) H))) ou:=by
 intro O H xs ds rv Q n g e q;unfold ou at e;split at e
 .cases e
  cases g with
  |cons b f=>cases f;obtain⟨a,xs,rfl,b,f⟩:=EI b;exact⟨a,xs,rfl,.inr ⟨b.1,q.at (.tup b f)⟩⟩
 .cases e
  cases g with
  |cons b f=>cases f;obtain⟨a,xs,rfl,b,f⟩:=BV b;exact⟨a,xs,rfl,.inl ⟨b.sq,Fin.adi f n q⟩⟩
 .cases e
def wj:bg D->br RV
 |[d]=>(fT d).map .ow
 |_=>Th
theorem KY:EL K (λxs H Q=>∃p ys,xs=[.ref p]/\(Ym K H p ys\/XY K H p ys)/\∀l,H l=Th->Q (.ref l) (bq H l (.lst ys))) wj:=by
 intro O H xs ds rv Q n g e q;unfold wj at e;split at e
 .rename_i d
  cases g with
  |cons b f=>
   cases f;cases hs:fT d with
   |none=>rw[hs]at e;cases e
   |some h=>
    rw[hs]at e;cases e;unfold fT at hs;split at hs
    .cases hs;obtain⟨a,xs,rfl,b,f⟩:=EI b;exact⟨a,xs,rfl,.inr b.1,Fin.new f q⟩
    .cases hs;obtain⟨a,xs,rfl,b,f⟩:=BV b;exact⟨a,xs,rfl,.inl b.sq,Fin.new f q⟩
    .cases hs
 .cases e
def Dw:bg D->br RV
 |[.int i,.int j]=>lD (.fz (.int (if j>i then j else i)))
 |_=>Th
theorem KA:EL K (λxs H Q=>∃i j,xs=[.int i,.int j]/\Q (.int (if j>i then j else i)) H) Dw:=by
 intro O H xs ds rv Q n b e q;unfold Dw at e;split at e
 .cases e
  cases b with
  |cons g a=>
   cases a with
   |cons a f=>cases f;cases g;cases a;exact⟨_,_,rfl,q.at (.int _)⟩
 .cases e
end
end L3
namespace PySem
open Sem (wp)
open AutoSeq1 (wpAny_loadPart')
open Builtin Builtin.Str
section
variable{prog:T5}{w:Uu}{A:Uk}{E:Ti->Tv->Prop}{s:Tv}
theorem oy(a:s.heap.IsTupleIter it t i)(j:s.heap.IsTuple t items)(h:items[i]?=lD x)
  (m:∀h',h'.IsTupleIter it t (i+1)->Heap.SameBut it s.heap h'->Q x {s with heap:=h'}):wpAny (model prog w) A (Ul.SmallTypes.nextOf (.ref it)) Q E s:=by
 obtain⟨o,e,l,b⟩:=id a;obtain⟨n,f,_,p,g⟩:=j;unfold Ul.SmallTypes.nextOf;refine Ld (UR a.typeIs F.slot_tuple_iterator_next
  (UZ F.slot_tuple_iterator_next a.typeIs F.entry_tuple_iterator_next ?_ (F.args_tuple_iterator_next_1 _)))
 show wpAny _ _ (field (.ref it) 0>>=_) _ _ s;refine Ld (UC e b rfl ?_);show wpAny _ _ (if(Ti.ref t==Ti.none)=To then _ else _) _ _ s;rw[ax (show¬((Ti.ref t==Ti.none)=To) from TV)];refine Ld (UC e b rfl ?_);refine Ld (Vf f g ?_);simp only[UX,h];refine Ld (Vt e b (by simp) (Tr ⟨x,rfl,Tr (m _ ?_ (Heap.SameBut.update ..))⟩));exact⟨_,b9 _ e (da (c9 b _)),(Obj.cls_mapFields ..).trans l,by rw[c9 b];simp[rawInt]⟩
theorem pi(j:A.handled=Th)(a:s.heap.IsTupleIter it t i)(m:s.heap.IsTuple t items)(l:items[i]?=Th)
  (n:∀h' e,Heap.ExtBut it s.heap h'->(∃o,h'.get? e=lD o/\o.cls=.type "StopIteration")->E (.ref e) {s with heap:=h'}):wpAny (model prog w) A (Ul.SmallTypes.nextOf (.ref it)) Q E s:=by
 obtain⟨o,f,r,h⟩:=id a;obtain⟨p,b,_,q,g⟩:=m;unfold Ul.SmallTypes.nextOf;refine Ld (UR a.typeIs F.slot_tuple_iterator_next
  (UZ F.slot_tuple_iterator_next a.typeIs F.entry_tuple_iterator_next ?_ (F.args_tuple_iterator_next_1 _)))
 show wpAny _ _ (field (.ref it) 0>>=_) _ _ s;refine Ld (UC f h rfl ?_);show wpAny _ _ (if(Ti.ref t==Ti.none)=To then _ else _) _ _ s;rw[ax (show¬((Ti.ref t==Ti.none)=To) from TV)];refine Ld (UC f h rfl ?_);refine Ld (Vf b g ?_);simp only[UX,l];refine Ld (YT (Ld (Vt f h (by simp) ?_)));refine Ld ?_;simp only[newExc,newTuple];refine Ld (UG ?_ (by size_fits));refine Ld (Zn (by first|rfl|(simp only[firstArgMember];rfl)) ?_);refine UG ?_ (by size_fits);simp only[raiseNew];refine Ld (akr ?_)
 first|rw[show A.in1.handled=Th from j]|rw[j]
 refine Ld (Tr (wpAny_throw ?_));exact n _ _ (((Heap.SameBut.update ..).extBut.push _).push _) ⟨_,b5 _ rfl,rfl⟩
end
end PySem
namespace L3
open PySem PySem.Spec PyProof.Rows L2
theorem K8(I:Inv X pins σ H s)(l:XY X.K H a xs)(j:XY X.K H a ys):xs=ys:=by
 obtain⟨g,i,⟨o,m,_,n,p⟩,_⟩:=I.tuple l;obtain⟨b,h,⟨r,e,_,t,f⟩,_⟩:=I.tuple j;rw[m]at e;cases e;rw[p]at f;have:g=b:=by
  have q:g.toArray=b.toArray:=by injection f
  simpa using q
 subst this;exact i.inj h
theorem D1{bs:bg Bool}(r:Vals (bs.map V.bl) Uz){i:Nat}(h:Uz[i]?=lD v):∃b,bs[i]?=lD b/\v=.bool b:=by
 have e:=r.length;rw[Tj]at e;have hi:i<bs.length:=by rw[e];exact(Tn.mp h).1
 obtain⟨u,a,f⟩:=r.get (by rw[TH,TK hi];rfl);rw[h]at a;cases a;exact⟨bs[i],TK hi,f⟩
theorem A0(bs:bg Bool):((TY bs.length).all λi=>(bs[i]?).getD To)=bs.all id:=by
 rw[adU,Vi,Vi];constructor
 .intro h b a;obtain⟨i,hi,e⟩:=List.mem_iff_getElem.mp a;have:=h i (V0.mpr hi);rw[TK hi,e]at this;exact this
 .intro h i hi;have hi:=V0.mp hi;rw[TK hi];exact h _ (adG hi)
section
variable{X:Cx}
theorem yk(w:X.calm=To):Wj X (.builtin "all") (λxs H Q=>∃(p:Tt) (bs:bg Bool),xs=[.ref p]/\Ym X.K H p (bs.map V.bl)/\Q (.bl (bs.all id)) H):=by
 intro f s C H xs E Q I r h;obtain⟨l,bs,rfl,n,q⟩:=h;obtain⟨u,rfl,m⟩:=iV r;cases m;obtain⟨j,rv,pl,J⟩:=I.list n;have a:=rv.length;rw[Tj]at a;have B:l<s.heap.objs.size:=by obtain⟨_,_,e,_⟩:=pl;exact bP e
 refine call_all_walk (WT pl.isList ?_);refine⟨s.heap.objs.size,[s.heap.objs.size,l],[s.heap.objs.size],j.toArray.size,_,_,λi=>(bs[i]?).getD To,rfl,Walks.list (A:=X.A.in1) (I.ok.hd w) _ l (T8 B) j.toArray,
  ⟨⟨_,b5 _ rfl,rfl,rfl⟩,pl.isList.push _⟩,λi v G M N y g=>?_,λL F t=>?_⟩
 .obtain⟨b,e,rfl⟩:=D1 rv (by simpa using y);simp only[e,X3]at g;exact Wt g
 .rw[TU,<-a,A0];refine⟨.bl _,H,I.kept λb o e=>t b o (λhm=>?_) (bt _ e),rfl,q⟩;rw[TN.mp hm]at e;exact Vo _ (bP e)
end
section
variable{K:Tg}
def wR:bg D->br (bg Bool)
 |[]=>lD []
 |.bool b::r=>(wR r).map (b::·)
 |_=>Th
theorem BK:∀{xs:bg V} {ds:bg D} {bs:bg Bool},Vl O K H xs ds->wR ds=lD bs->xs=bs.map V.bl
 |_,_,_,.nil,e=>by cases e;rfl
 |_,_,bs,.cons (ds:=r) h t,e=>by
  cases h with
  |bl b=>
   have a:(wR r).map (b::·)=lD bs:=e;cases q:wR r with
   |none=>rw[q]at a;cases a
   |some f=>rw[q]at a;cases a;rw[BK t q];rfl
  |_=>cases e
def HH:bg D->br RV
 |[.list ds]=>(wR ds).map λbs=>.fz (.bool (bs.all id))
 |_=>Th
theorem HW:EL K (λxs H Q=>∃(p:Tt) (bs:bg Bool),xs=[.ref p]/\Ym K H p (bs.map V.bl)/\Q (.bl (bs.all id)) H) HH:=by
 intro O H xs ds rv Q n g e q;unfold HH at e;split at e
 .rename_i h
  cases qs:wR h with
  |none=>rw[qs]at e;cases e
  |some bs=>
   rw[qs]at e;cases e;cases g with
   |cons f b=>cases b;obtain⟨a,i,rfl,f,b⟩:=BV f;have:=BK b qs;subst this;exact⟨a,bs,rfl,f.sq,q.at (.bl _)⟩
 .cases e
def pI:bg D->br (bg Int)
 |[]=>lD []
 |.int b::r=>(pI r).map (b::·)
 |_=>Th
theorem rE:∀{xs:bg V} {ds:bg D} {bs:bg Int},Vl O K H xs ds->pI ds=lD bs->xs=bs.map V.int
 |_,_,_,.nil,e=>by cases e;rfl
 |_,_,bs,.cons (ds:=r) h t,e=>by
  cases h with
  |int b=>
   have a:(pI r).map (b::·)=lD bs:=e;cases q:pI r with
   |none=>rw[q]at a;cases a
   |some f=>rw[q]at a;cases a;rw[rE t q];rfl
  |_=>cases e
def z8(x:Int):bg Int->bg Int
 |[]=>[x]
 |y::r=>if x<=y then x::y::r else y::z8 x r
def lG:bg Int->bg Int
 |[]=>[]
 |x::r=>z8 x (lG r)
theorem pU(x:Int):∀l,(z8 x l).Perm (x::l)
 |[]=>ZL _
 |y::r=>by
  unfold z8;split
  .exact ZL _
  .exact((pU x r).cons y).trans (alQ x y r)
theorem fJ:∀l,(lG l).Perm l
 |[]=>ZL _
 |x::r=>(pU x _).trans ((fJ r).cons x)
theorem qA(x:Int):∀l:bg Int,l.Pairwise (·<=·)->(z8 x l).Pairwise (·<=·)
 |[],_=>by simp[z8]
 |y::r,h=>by
  unfold z8;obtain⟨f,g⟩:=U7.mp h;split
  .rename_i a
   refine U7.mpr ⟨λz b=>?_,h⟩;rcases T1.mp b with e|e
   .rw[e];exact a
   .have:=f z e;omega
  .rename_i a
   refine U7.mpr ⟨λz b=>?_,qA x r g⟩;rcases T1.mp ((pU x r).mem_iff.mp b) with e|e
   .rw[e];omega
   .exact f z e
theorem eR:∀l,(lG l).Pairwise (·<=·)
 |[]=>Yr
 |x::r=>qA x _ (eR r)
theorem l4{l m:bg Int}(e:l.Perm m)(f:l.Pairwise (·<=·))(hm:m.Pairwise (·<=·)):l=m:=e.eq_of_pairwise (λa b _ _ h g=>Int.le_antisymm h g) f hm
def vY:bg D->br RV
 |[.list ds]=>(match pI ds with
  |some a=>if a.length<64 then lD (.ow ((lG a).map .int)) else Th
  |none=>Th)
 |_=>Th
theorem ur(a:bg Int):Vl O K H (a.map V.int) (a.map .int):=by
 induction a with
 |nil=>exact .nil
 |cons n r b=>exact .cons (.int n) b
theorem uZ:EL K (λxs H Q=>∃(p:Tt) (b:bg Int),xs=[.ref p]/\Ym K H p (b.map V.int)/\b.length<64/\∀(l:Tt) (f:bg Int),H l=Th->f.Perm b->f.Pairwise (·<=·)->Q (.ref l) (bq H l (.lst (f.map V.int)))) vY:=by
 intro O H xs ds rv Q n g e q;unfold vY at e;split at e
 .rename_i o
  cases qs:pI o with
  |none=>rw[qs]at e;cases e
  |some b=>
   rw[qs]at e;dsimp only at e;split at e
   .rename_i h
    cases e;cases g with
    |cons j i=>cases i;obtain⟨a,t,rfl,j,i⟩:=BV j;have:=rE i qs;subst this;refine⟨a,b,rfl,j.sq,h,λl f h g m=>?_⟩;have r:=l4 (g.trans (fJ b).symm) m (eR b);subst r;exact Fin.new (ur _) q l h
   .cases e
 .cases e
end
def SH(K:Tg)(H:Hp)(x:V)(t:String):Prop:=match x with
 |.V8=>t= "NoneType"
 |.bl _=>t= "bool"
 |.int _=>t= "int"
 |.str _=>t= "str"
 |.ref a=>(t= "list"/\∃xs,Ym K H a xs)\/(t= "tuple"/\∃xs,XY K H a xs)
 |_=>False
def GR(K:Tg):bg V->Hp->VK->Prop:=λxs H Q=>∃x n t b,xs=[x,.ty n]/\SH K H x t/\ac1 K (.type t) (.type n)=lD b/\Q (.bl b) H
theorem uR{X:Cx}:Wj X (.builtin "isinstance") (GR X.K):=by
 intro j s v H xs C Q I r h;obtain⟨x,n,t,b,rfl,ty,e,q⟩:=h;obtain⟨u,w,rfl,g,A⟩:=Cj r;obtain rfl:w=Ti.type n:=A;have f:∀l,EP X j v Q (.bool b) {s with toks:=l}:=λl=>⟨.bl b,H,I.tok l,rfl,q⟩;cases x with
 |V8=>cases(show t= "NoneType" from ty);cases(show u=Ti.none from g);exact WA PySem.W.kitx_none I.Yu True.intro e (λz=>nomatch z) f
 |bl y=>cases(show t= "bool" from ty);cases(show u=Ti.bool y from g);exact WA PySem.W.kitx_bool I.Yu True.intro e (λz=>nomatch z) f
 |int i=>cases(show t= "int" from ty);obtain⟨t,q⟩:=(show∃t,u=Ti.int i t from g);cases q;exact WA PySem.W.kitx_int I.Yu True.intro e (λz=>nomatch z) f
 |str y=>cases(show t= "str" from ty);obtain⟨t,q⟩:=(show∃t,u=Ti.str y t from g);cases q;exact WA PySem.W.kitx_str I.Yu True.intro e (λz=>nomatch z) f
 |ref a=>
  cases(show u=Ti.ref a from g);rcases ty with⟨rfl,xs,h⟩|⟨rfl,xs,h⟩
  .obtain⟨B,r,⟨o,k,p,m,_⟩,_⟩:=I.list h;exact WA PySem.W.kitx_list I.Yu ⟨_,p,m⟩ e (λz=>nomatch z) f
  .obtain⟨B,r,⟨o,p,m,_⟩,_⟩:=I.tuple h;exact WA PySem.W.kitx_tuple I.Yu ⟨o,p,m⟩ e (λz=>nomatch z) f
 |_=>exact(show False from ty).elim
section
variable{K:Tg}{E:XK}{B O O':cg}{H0 H H':Hp}{σ:L2.St}{ρ ρ':bp}{v:V}
def zu:D->br String
 |.none=>lD "NoneType"
 |.bool _=>lD "bool"
 |.int _=>lD "int"
 |.str _=>lD "str"
 |.list _=>lD "list"
 |.tuple _=>lD "tuple"
 |.dict _=>Th
def BB(n t:String):Bool:=n==t||(n== "int"&&t== "bool")
theorem DN{n t:String}(hn:n= "int"\/n= "bool"\/n= "str"\/n= "list"\/n= "tuple"){d:D}(a:zu d=lD t):ac1 K (.type t) (.type n)=lD (BB n t):=by cases d<;>(cases a;try (rcases hn with rfl|rfl|rfl|rfl|rfl<;>rfl))
theorem ME{x:V}{d:D}{t:String}(h:DX O K H x d)(e:zu d=lD t):SH K H x t:=by
 cases d with
 |none=>cases e;cases h;rfl
 |bool b=>cases e;cases h;rfl
 |int b=>cases e;cases h;rfl
 |str b=>cases e;cases h;rfl
 |dict b=>cases e
 |list ds=>cases e;obtain⟨a,xs,rfl,f,_⟩:=BV h;exact .inl ⟨rfl,xs,f.sq⟩
 |tuple ds=>cases e;obtain⟨a,xs,rfl,f,_⟩:=EI h;exact .inr ⟨rfl,xs,f.1⟩
def Fg(n:String)(fa:FE):FE:=λρ=>(fa ρ).bind λa=>(Res.UB (zZ a.2 a.1)).bind λd=>(Res.UB (zu d)).bind λt=>.ok (.fz (.bool (BB n t)),a.2)
theorem EZ{n:String}{e:TE}{fa:FE}(hn:n= "int"\/n= "bool"\/n= "str"\/n= "list"\/n= "tuple")(ha:EO K E e fa):EO K E (yG (GR K) (fy e (fy (tC (.ty n)) jK))) (Fg n fa):=by intro B H0 O σ H ρ Q R w;refine ha B H0 O σ H ρ _ R (w.bind.imp λa b j x l i g h=>?_);obtain⟨d,q,b⟩:=b.UB;obtain⟨t,f,b⟩:=b.UB;exact⟨x,n,t,BB n t,rfl,ME (qj g h q) f,DN hn f,b j _ l i g (.bl _)⟩
end
theorem D3{P:T5}{w:Uu}{K:Tg}{mg m:Str->br Ti}{k:Nat}{fa a:Tt}{fd:UO}{x:Str}{F:FN}{b:Tv}{vs:bg Ti}{f:bg Int}
  (q:K.In b.heap) (g:b.heap.Ns TZ mg) (C:b.heap.Ns builtinsNs m) (i:∀x:Str,x≠ "__name__"->m x=UT x) (j:b.heap.NoLimit) (B:b.gens= #[])
  (ha:b.heap.get? a=lD {cls:=.type "list",data:=.seq vs.toArray}) (hi:IntsAre vs f) (p:f.length<=TL) (A:VU k callerA)
  (L:∀base:Heap,K.In base->base.Ns TZ mg->FnOk P w K mg base dD k fa fd [x] (qC K 1 F)) (l:∀(s:Tv) (u:Ti),YS s fd ⟨[u],[]⟩ [(x,u)])
  (I:F [.list (f.map .int)]=.ok (.fz (.bool To))):
  codeAny (model P w) callerA (.call (.ref fa) ⟨[.ref a],[]⟩) (λr s'=>r=.ok (.ret (.bool To))/\OldK b.heap s'.heap/\s'.os=b.os/\AllBare s'.gens) b:=by
 refine HY (sp:=λvs H Q E=>qC K 1 F vs H Q E\/(vs.length=1/\False)) q g C i j B ha hi p A (λbase y t=>(L base y t).imp λvs H Q E h=>?_) l (λH M G=>?_) λ_ _ _ h=>h
 .rcases h with h|h
  .exact h
  .exact h.2.elim
 .refine .inl ⟨rfl,noO,[.list (f.map .int)],λa z=>z.elim,.cons (.lst ⟨?_,λz=>z.elim⟩ (ur f)) .nil,?_⟩
  .rcases G with h|⟨o,Uz,n,h1,h2,h3,h4,h5,h6⟩
   .exact .inl h
   .have e:=q a o h1;rw[ha]at e;cases e;cases h4;exact .inr ⟨vs,0,h1,by rw[Tj];exact p,by simpa using h6⟩
  .rw[I];exact λv N s J=>by cases J;rfl
theorem Q9{l:acN}{n k:Nat}{q:T5}{i:bg Str}{O:(Str->br Ti)->Heap->Prop}{B:Uu->Heap->Prop}{d:DefRec}{K:Params->Tg}{F:FN}{x:Str}
  (hn:l.most=lD n) (m:n<=TL) (r:d.params.defaults=[]) (E:VU k callerA)
  (L:∀(w:Uu) (h:Heap),B w h->(K w.params).In h)
  (P:∀(w:Uu) (mg:Str->br Ti) (fa:Tt) (h:Heap),(K w.params).In h->h.Ns TZ mg->mg d.name=lD (.ref fa)->
   ∃fd:UO,(∀(s:Tv) (u:Ti),YS s fd ⟨[u],[]⟩ [(x,u)])/\∀base:Heap,(K w.params).In base->base.Ns TZ mg->FnOk l.prog w (K w.params) mg base dD k fa fd [x] (qC (K w.params) 1 F))
  (M:∀ns:bg Int,ns.length<=n->F [.list (ns.map .int)]=.ok (.fz (.bool To))):
  PySem.W.WalkO q i O B l.row.toRowW d [] (λf vs=>agf f vs):=by
 refine Att.attach_call hn r λw A y mg R fa o Q X N a vs ns G Y S U I p v j e H=>?_;have C:=L w _ Y;obtain⟨fd,J,t⟩:=P w mg fa _ C G.T.g p;exact D3 C G.T.g G.T.b G.T.builtins G.T.nolimit H v j (Uv e m) E t J (M ns e)
theorem S8{P:T5}{w:Uu}{K:Tg}{mg:Str->br Ti}{base:Heap}{x a:Str}{st:VH}{f:Tt}{fd:UO}{N ps:bg Str}{k n m:Nat}{g:FS}{e:FN}(F:WL K x a st f fd)(S:Wb N ps (aB st))(hn:ps.length=n)(hm:N.length=m)(h:e=gA m g)
  (i:∀(b:Ti) (A:Uk) (outer:bg Env) (s:Tv) (H:Hp) (E:XK),VU k (A.deeper (Ud a (aB st) s.heap.objs.size f b))->
   ∃t,Zl (gy dD P w K mg base N a (aB st) f b A outer s H E).nox (cr st) t/\SO K E t g):FnOk P w K mg base dD (k+1) f fd ps (qC K n e):=by
 subst h hm;exact S2 F S hn i
abbrev ii(P:T5)(w:Uu)(K:Tg)(mg:Str->br Ti)(base:Heap)(k:Nat)(x:Str)(ps:bg Str)(n:Nat)(F:FN):Prop:=yX P w K mg base k x ps (qC K n F)
end L3
namespace L3
open PySem L2
abbrev nd(n:Nat):D:=.int (n:Int)
def bA(a:bg Nat):bg D:=a.map nd
theorem ez(a:bg Nat):(bA a).length=a.length:=by unfold bA;rw[Tj]
theorem Ke(xs ys:bg Nat):bA (xs++ys)=bA xs++bA ys:=by unfold bA;rw[Uj]
theorem rC{i:Nat}(h:(bA ns)[i]?=lD d):∃n,ns[i]?=lD n/\d=nd n:=by
 unfold bA at h;rw[TH]at h;cases e:ns[i]? with
 |none=>rw[e]at h;cases h
 |some n=>rw[e]at h;exact⟨n,rfl,(TQ h).symm⟩
theorem aW(a:α):Res.UB (lD a)=.ok a:=rfl
theorem yn(a:α):ku (Res.ok a)=.ok a:=rfl
theorem Ai(i:Nat)(ρ:bp):ad i ρ=Dy ρ i ρ[i]? :=rfl
theorem HA(ρ:bp)(i:Nat)(d:D):Dy ρ i (lD (lD (.fz d)))=.ok (.fz d,ρ):=rfl
theorem FP(ρ:bp)(i:Nat)(ds:bg D):Dy ρ i (lD (lD (.ow ds)))=.ok (.pl i,ρ):=rfl
theorem pf(ds:bg D):HE (lD (lD (.ow ds)))=lD ds:=rfl
theorem II(i:Nat)(d:D)(ρ:bp):gN i (.fz d) ρ=.ok (ρ.set i (lD (.fz d))):=rfl
theorem CP(i:Int):RY (.int i)=lD i:=rfl
theorem yV(b:Bool):Su (.bool b)=lD b:=rfl
theorem kL(ds:bg D):fP [.tuple ds]=lD (.fz (nd ds.length)):=rfl
theorem jw(ds:bg D):fP [.list ds]=lD (.fz (nd ds.length)):=rfl
theorem pz(i j:Int):P3 (.int i) (.int j)=lD (.fz (.bool (decide (i<j)))):=rfl
theorem zN(i j:Int):F1 (.int i) (.int j)=lD (.fz (.bool (decide (j<i)))):=rfl
theorem DM(i j:Int):Sq (.int i) (.int j)=lD (.fz (.bool (decide (j<=i)))):=rfl
theorem fY(i j:Int):cB (.int i) (.int j)=lD (.fz (.int (i+j))):=rfl
theorem AU(i j:Int):xj (.int i) (.int j)=lD (.fz (.int (i - j))):=rfl
theorem w9(h:0<j):uB (.int i) (.int j)=lD (.fz (.int (i % j))):=by show(if OO i j=To then _ else _)=_;rw[av (show OO i j=To from aP h)]
theorem Ik(h:0<j/\j<2^128):En (.int i) (.int j)=lD (.fz (.int (i/j))):=by show(if Ph i j=To then _ else _)=_;rw[av (show Ph i j=To from aP h)]
theorem J6(h: -(2^64)<i/\i<2^64):Ew (.int i) (.int j)=lD (.fz (.int (i*j))):=by show(if(ic i||ic j)=To then _ else _)=_;rw[av (by rw[show ic i=To from aP h,WW])]
theorem Md(h: -(2^64)<j/\j<2^64):Ew (.int i) (.int j)=lD (.fz (.int (i*j))):=by show(if(ic i||ic j)=To then _ else _)=_;rw[av (by rw[show ic j=To from aP h,Yj])]
theorem KJ(h:lL j):mJ [.int j]=lD (gO 0 j.toNat):=by show(if lL j then _ else _)=_;rw[av h]
theorem Fj(n:Nat):gO 0 n=bA (TY n):=by unfold gO bA;apply WB;intro k _;rw[Int.zero_add]
theorem rX(h:n<=1000000):mJ [nd n]=lD (bA (TY n)):=by rw[KJ (by unfold lL;omega),Fj,UX]
theorem IV(h:f ρ=.ok (.nx ρ1)):cw f g ρ=g ρ1:=by unfold cw;rw[h];rfl
theorem HQ(h:f ρ=.ok (.rt rv)):cw f g ρ=.ok (.rt rv):=by unfold cw;rw[h];rfl
theorem Se(h:c ρ=.ok (To,ρ1)):pd c f g ρ=f ρ1:=by unfold pd;rw[h];rfl
theorem Sh(h:c ρ=.ok (Tw,ρ1)):pd c f g ρ=g ρ1:=by unfold pd;rw[h];rfl
theorem Ah(h:fi ρ=.ok (ds,ρ1)):xz fi gt b ρ=qS gt b ds ρ1:=by unfold xz;rw[h];rfl
def kN(gt:FG)(ft:FT)(fe:FE)(d:D)(ρ:bp):Res (br D×bp):=(gt (.fz d) ρ).bind λe=>(ft e).bind λb=>if b.1=To then(fe b.2).bind λa=>(Res.UB (zj a.2 a.1)).bind λx=>.ok (lD x.1,df x.2) else .ok (Th,df b.2)
theorem sD(h:kN gt ft fe d ρ=.ok (o,ρ'))(g:acc.length<1000000):dG gt ft fe (d::r) ρ acc=dG gt ft fe r ρ' (acc++o.toList):=by
 unfold kN at h;show(gt (.fz d) ρ).bind _=_;cases q1:gt (.fz d) ρ with
 |er x=>rw[q1]at h;cases h
 |bad=>rw[q1]at h;cases h
 |ok f=>
  rw[q1,dP]at h;rw[dP];cases q2:ft f with
  |er x=>rw[q2]at h;cases h
  |bad=>rw[q2]at h;cases h
  |ok b=>
   obtain⟨b,e⟩:=b;rw[q2,dP]at h;rw[dP];cases b with
   |false=>rw[ax TV]at h⊢;cases h;rw[acf,Uo]
   |true=>
    rw[av rfl]at h⊢;cases q3:fe e with
    |er x=>rw[q3]at h;cases h
    |bad=>rw[q3]at h;cases h
    |ok a=>
     rw[q3,dP]at h;rw[dP];cases q4:zj a.2 a.1 with
     |none=>rw[q4]at h;cases h
     |some x=>rw[q4]at h;cases h;show(if acc.length<1000000 then _ else _)=_;rw[av g];rfl
theorem GW(a b:Nat):decide ((a:Int)=(b:Int))=decide (a=b):=by
 by_cases h:a=b
 .rw[aP h,aP (by rw[h])]
 .rw[a4 h,a4 (by omega)]
theorem GH(a b:Nat):Tu.eqv (nd a) (nd b)=decide (a=b):=GW a b
theorem jJ(a b:Int):dh (.int a) (.int b)=lD (.fz (.bool (decide (a=b)))):=by rfl
theorem xS(a b:Int):tK (.int a) (.int b)=lD (.fz (.bool (!decide (a=b)))):=by rfl
theorem Bq(a b:Nat):dh (nd a) (nd b)=lD (.fz (.bool (decide (a=b)))):=by rw[jJ,GW]
theorem jS:∀ns:bg Nat,Tu.canLayAll0 (bA ns)=To
 |[]=>rfl
 |n::r=>by show(Tu.canLay0 (nd n)&&Tu.canLayAll0 (bA r))=To;rw[jS r];rfl
theorem oH:∀ns:bg Nat,Tu.depthAll (bA ns)=0
 |[]=>rfl
 |n::r=>by show max (Tu.depth (nd n)) (Tu.depthAll (bA r))=0;rw[oH r];rfl
theorem wO:∀xs ys:bg Nat,Tu.eqvAll (bA xs) (bA ys)=decide (xs=ys)
 |[],[]=>rfl
 |[],_::_=>rfl
 |_::_,[]=>rfl
 |n::r,m::t=>by show(Tu.eqv (nd n) (nd m)&&Tu.eqvAll (bA r) (bA t))=_;rw[wO r t,GH];rw[adU];simp
theorem N4(a:bg Nat):lY (.list (bA a))=To:=by show(Tu.canLayAll0 (bA a)&&decide (Tu.depthAll (bA a)+1<=64))=To;rw[jS,oH];rfl
theorem wb(xs ys:bg Nat):dh (.list (bA xs)) (.list (bA ys))=lD (.fz (.bool (decide (xs=ys)))):=by unfold dh;rw[N4,show Tu.canLay0 (.list (bA ys))=To from jS ys,VD,av rfl,show Tu.eqv (.list (bA xs)) (.list (bA ys))=_ from wO xs ys]
theorem L7(x:Nat)(xs:bg Nat):((bA xs).any λe=>Tu.eqv e (nd x))=decide (x∈xs):=by
 induction xs with
 |nil=>rfl
 |cons y r a=>
  show(Tu.eqv (nd y) (nd x)||(bA r).any λe=>Tu.eqv e (nd x))=_;rw[a,GH];by_cases h:y=x
  .rw[aP h,aP (show x∈y::r by rw[h];exact Ts),WW]
  .rw[a4 h,X4]
   by_cases g:x∈r
   .rw[aP g,aP (Tx _ g)]
   .rw[a4 g,a4 (λz=>(T1.mp z).elim (λe=>h e.symm) g)]
theorem v4(x:Nat)(xs:bg Nat):Kq (nd x) (.tuple (bA xs))=lD (.fz (.bool (decide (x∈xs)))):=by show(if(lY (nd x)&&Tu.canLayAll0 (bA xs))=To then _ else _)=_;rw[jS,show lY (nd x)=To from rfl,VD,av rfl,L7]
theorem EU{i:Nat}(h:xs[i]?=lD v):ng xs (i:Int)=lD v:=Ck h
theorem OX(h:ds[i]?=lD d):bJ (.tuple ds) (nd i)=lD (.fz d):=by show(ng ds (i:Int)).map RV.fz=_;rw[EU h];rfl
theorem S0(h:ds[i]?=lD d):bJ (.list ds) (nd i)=lD (.fz d):=by show(ng ds (i:Int)).map RV.fz=_;rw[EU h];rfl
section
variable{ρ ρ1 Z ρ3:bp}{fa fb fc fe:FE}{pa pb pv:PV}{dx dy d:D}{rv:RV}{ps:bg PV}{ds:bg D}
theorem af(h:ρ[i]?=lD (lD (.fz d))):ad i ρ=.ok (.fz d,ρ):=by rw[Ai,h,HA]
theorem nz(h:ρ[i]?=lD (lD (.ow ds))):ad i ρ=.ok (.pl i,ρ):=by rw[Ai,h,FP]
theorem aD:pC d ρ=.ok (.fz d,ρ):=rfl
theorem aN(ha:fa ρ=.ok (pa,ρ1))(g:fb ρ1=.ok (pb,Z))(b:zZ Z (cj pa)=lD dx)(a:zZ Z pb=lD dy)(e:f dx dy=lD rv):aM f fa fb ρ=.ok (rv.pv,Z):=by unfold aM;rw[ha,dP,g,dP,b,aW,dP,a,aW,dP,e,aW,dP]
theorem bN(ha:fa ρ=.ok (pa,ρ1))(a:zZ ρ1 pa=lD (.bool b)):aK fa ρ=.ok (b,ρ1):=by unfold aK;rw[ha,dP,a,aW,dP,yV,aW,dP]
theorem DR(ha:f ρ=.ok (a,ρ1))(e:a=To->g ρ1=.ok (b,ρ1)):wc f g ρ=.ok (a&&b,ρ1):=by
 unfold wc;rw[ha,dP];cases a with
 |true=>rw[av rfl,e rfl,aaZ]
 |false=>rw[ax TV,YJ]
theorem C5(ha:f ρ=.ok (a,ρ1)):FQ f ρ=.ok (!a,ρ1):=by unfold FQ;rw[ha,dP]
theorem aC:au ρ=.ok ([],ρ):=rfl
theorem ah(ha:fa ρ=.ok (pa,ρ1))(a:fr ρ1=.ok (ps,Z)):aa fa fr ρ=.ok (cj pa::ps,Z):=by unfold aa;rw[ha,dP,a,dP]
theorem gM(ha:fr ρ=.ok (ps,ρ1))(hd:uI ρ1 ps=lD ds)(a:f ds=lD rv):ji f fr ρ=.ok (rv.pv,ρ1):=by unfold ji;rw[ha,dP,hd,aW,dP,a,aW,dP]
theorem cL(ha:fr ρ=.ok (ps,ρ1))(hd:ro ρ1 ps=lD (ds,Z))(hn:ds.length=n)(a:F ds=.ok rv):cK F n fr ρ=.ok (rv.pv,Z):=by unfold cK;rw[ha,dP,hd,aW,dP];dsimp only;rw[av hn,a,yn,dP]
theorem bQ(ha:fr ρ=.ok (ps,ρ1))(hd:ro ρ1 ps=lD (ds,Z))(hn:ds.length<=1000):bw fr ρ=.ok (.fz (.tuple ds),Z):=by unfold bw;rw[ha,dP,hd,aW,dP];dsimp only;rw[av hn]
theorem nw(ha:fr ρ=.ok (ps,ρ1))(hd:ro ρ1 ps=lD (ds,Z))(hn:ds.length<=1000):eT fr ρ=.ok (.ow ds,Z):=by unfold eT;rw[ha,dP,hd,aW,dP];dsimp only;rw[av hn]
theorem Gd(ha:fa ρ=.ok (pa,ρ1))(a:zZ ρ1 pa=lD dx)(b:zu dx=lD t):Fg n fa ρ=.ok (.fz (.bool (BB n t)),ρ1):=by unfold Fg;rw[ha,dP,a,aW,dP,b,aW,dP]
theorem tJ:tt ρ=.ok (Th,ρ):=rfl
theorem iw(ha:fa ρ=.ok (pa,ρ1))(a:zZ ρ1 pa=lD (.int i)):iS fa ρ=.ok (lD i,ρ1):=by unfold iS;rw[ha,dP,a,aW,dP,CP,aW,dP]
theorem zD(ha:fa ρ=.ok (pa,ρ1))(b:fl ρ1=.ok (lo,Z))(e:fh Z=.ok (hi,ρ3))(a:zZ ρ3 (cj pa)=lD dx)(g:f dx lo hi=lD rv):GK f fa fl fh ρ=.ok (rv.pv,ρ3):=by unfold GK;rw[ha,dP,b,dP,e,dP,a,aW,dP,g,aW,dP]
theorem Hl(g:ρ[i]?=lD (lD (.ow es)))(ha:fe ρ=.ok (pa,ρ1))(b:zj ρ1 pa=lD (d,Z))(f:Z[i]?=lD (lD (.ow ds)))(e:ds.length<1000000)(a:Z.set i (lD (.ow (ds++[d])))=x):Ie i fe ρ=.ok (.fz .none,x):=by unfold Ie;rw[g,pf,aW,dP,ha,dP,b,aW,dP];dsimp only;rw[f,pf,aW,dP,av e,a]
theorem dL(hi:fi ρ=.ok (ds,ρ1))(b:vU ρ1 fv=lD (cs,Z))(a:ku (dG gt ft fe ds (TJ n Th++cs.map λd=>lD (.fz d)) [])=.ok xs):fA n fv fi gt ft fe ρ=.ok (.ow xs,Z):=by unfold fA;rw[hi,dP];dsimp only;rw[b,aW,dP];dsimp only;rw[a,dP]
theorem Pv(a:c ρ=.ok (To,ρ1))(h:fa ρ1=.ok (pv,Z)):Pp c fa fb ρ=.ok (pv,Z):=by unfold Pp;rw[a,dP,av rfl,h]
theorem OE(a:c ρ=.ok (Tw,ρ1))(h:fb ρ1=.ok (pv,Z)):Pp c fa fb ρ=.ok (pv,Z):=by unfold Pp;rw[a,dP,ax TV,h]
theorem jq:bJ (.tuple (a::r)) (.int 0)=lD (.fz a):=OX rfl
theorem lf:bJ (.tuple (a::b::r)) (.int 1)=lD (.fz b):=OX rfl
theorem qh:bJ (.tuple (a::b::c::r)) (.int 2)=lD (.fz c):=OX rfl
theorem Ow(b:k<=1000)(a:xs.length<=1000):Ew (.list xs) (nd k)=lD (.ow (TJ k xs).flatten):=by show(if xs.length*((k:Nat):Int).toNat<=1000000/\ -(2^63)<=(k:Int)/\(k:Int)<2^63 then lD (RV.ow (TJ ((k:Nat):Int).toNat xs).flatten) else Th)=_;rw[UX,av ⟨Uv (aaI a b) (by decide),by omega,by omega⟩]
theorem hW(ha:fe ρ=.ok (pa,ρ1))(a:zj ρ1 pa=lD (d,Z))(b:fT d=lD es):jV fe ρ=.ok (es,Z):=by unfold jV;rw[ha,dP,a,aW,dP];dsimp only;rw[b,aW,dP]
theorem Ll(ha:fr ρ=.ok (ps,ρ1))(hd:uI ρ1 ps=lD ds)(a:f ds=lD es):tV f fr ρ=.ok (es,ρ1):=by unfold tV;rw[ha,dP,hd,aW,dP,a,aW,dP]
theorem A6(b:fe ρ=.ok (pv,ρ1))(a:g pv ρ1=.ok Z)(hn:Z=ρ3):fQ fe g ρ=.ok (.nx ρ3):=by unfold fQ;rw[b,dP];dsimp only;rw[a,dP,hn]
theorem Da(a:fe ρ=.ok (pv,ρ1)):ve fe ρ=.ok (.nx ρ1):=by unfold ve;rw[a,dP]
theorem wv(b:fe ρ=.ok (pv,ρ1))(a:D5 ρ1 pv=lD rv):eS fe ρ=.ok (.rt rv):=by unfold eS;rw[b,dP];dsimp only;rw[a,aW,dP]
theorem zY(e:gt (.fz d) ρ=.ok ρ1)(b:ft ρ1=.ok (To,Z))(g:fe Z=.ok (pv,ρ3))(a:zj ρ3 pv=lD (x,ρ4))(f:df ρ4=ρ5):kN gt ft fe d ρ=.ok (lD x,ρ5):=by unfold kN;rw[e,dP,b,dP,av rfl,g,dP,a,aW,dP,f]
theorem Pf(b:gt (.fz d) ρ=.ok ρ1)(a:ft ρ1=.ok (Tw,Z))(e:df Z=ρ5):kN gt ft fe d ρ=.ok (Th,ρ5):=by unfold kN;rw[b,dP,a,dP,ax TV,e]
end
end L3
namespace PySem
open Sem (wp)
open Builtin
open AutoSeq1 (wpAny_loadPart')
theorem pK:fillsNumberSlot (.type "tuple") "mul"=pure Tw:=
 fillsNumberSlot_seq F.slot_tuple_mul.lookup (by left) F.slot_tuple_rmul.lookup (by left)
theorem wG:seqRepeat? (.type "tuple")=pure (lD (.builtin "tuple.__mul__")):=by unfold seqRepeat?;rw[seqSlot_of (name:= "__mul__") F.slot_tuple_mul.lookup (by left),seqSlot_of (name:= "__rmul__") F.slot_tuple_rmul.lookup (by left)];rfl
theorem sg(a:Int)(t:Tok)(l:Tt)(b:Array Ti)(n:Nat)(Y4:br Tt)(f:Array (br Ti)):
  Meets (Ul.«int.__rmul__» ⟨[.int a t,.ref l],[]⟩) (λ_ R s=>s.heap.get? l=lD {cls:=.type "tuple",dict:=Y4,data:=.seq b n,slots:=f}/\R (.ok (.ret Ti.notImplemented)) s):=
 .of_wp λe w A R s h=>by obtain⟨m,g,d,i,j⟩:=s;obtain⟨o,h⟩:=h;wp_walk;exact⟨_,rfl,h⟩
theorem zL(l:Tt)(a:Array Ti)(n:Nat)(Y4:br Tt)(e:Array (br Ti))(u:Tok):
  Meets (Ul.«tuple.__mul__» ⟨[.ref l,.int 1 u],[]⟩) (λ_ R s=>s.heap.get? l=lD {cls:=.type "tuple",dict:=Y4,data:=.seq a n,slots:=e}/\R (.ok (.ret (Ti.ref l))) s):=
 .of_wp λb w A R s h=>by
  obtain⟨j,g,d,f,i⟩:=s;obtain⟨m,h⟩:=h
  wp_walk
  exact⟨_,rfl,h⟩
theorem yc(l:Tt)(a:Array Ti)(n:Nat)(Y4:br Tt)(j:Array (br Ti))(x:Int)(u:Tok)(J:2<=x)(r:x<=1000)(i:a.isEmpty=Tw)(hz:a.size<=1000):
  Meets (Ul.«tuple.__mul__» ⟨[.ref l,.int x u],[]⟩) (λ_ R s=>s.heap.get? l=lD {cls:=.type "tuple",dict:=Y4,data:=.seq a n,slots:=j}/\R (.ok (.ret (Ti.ref s.heap.objs.size))) {s with heap:=s.heap.push {cls:=Ti.type "tuple",data:=Data.seq (Yi (λx1 x2=>x1++x2) #[] (TJ x.toNat a))},toks:=s.toks}):=
 .of_wp λe w A R s h=>by
  obtain⟨H,g,d,F,G⟩:=s;obtain⟨q,h⟩:=h;have E:¬(decide (x< -(2^63))||decide (x≥2^63))=To:=by simp;omega
  have C:(x==1)=Tw:=by simp;omega
  have B:decide (x<=0)=Tw:=by simp;omega
  have L:(a.isEmpty||x==1)=Tw:=by rw[i,C];rfl
  have K:(decide (x<=0)||a.isEmpty)=Tw:=by rw[i,B];rfl
  have f:(a.size:Int)*x<=1000000:=by have:(a.size:Int)*x<=1000*1000:=Int.mul_le_mul (by omega) r (by omega) (by omega);omega
  have y:¬(a.size:Int)*x>(2^63 - 1)/8:=by omega
  have v:¬Tuple.tupleTooMany ((a.size:Int)*x)=To:=by
   unfold Tuple.tupleTooMany;simp;have:(TL:Nat)=16777216:=by decide
   omega
  wp_walk
  rw[ax E]
  wp_walk using wpAny_loadPart' q
  rw[ax y];dsimp only;rw[ax v];have p:(Yi (λx1 x2=>x1++x2) #[] (TJ x.toNat a)).size<=TL:=by
   have t:∀(m:Nat) (b:Array Ti),(Yi (λx1 x2=>x1++x2) b (TJ m a)).size=b.size+m*a.size:=by
    intro m
    induction m with
    |zero=>intro b;simp
    |succ m o=>intro b;rw[UN,Yq,o,Array.size_append,age];omega
   rw[t];have I:x.toNat*a.size<=1000*1000:=aaI (by omega) hz;have:(TL:Nat)=16777216:=by decide
   simp;omega
  wp_walk
  exact⟨_,rfl,h⟩
end PySem
namespace L3
open PySem PySem.Spec PyProof.Rows L2
def MG(K:Tg):R2:=λx y H Q=>∃(a:Tt) (k:Nat) (xs:bg V),x=.ref a/\y=.int (k:Int)/\XY K H a xs/\xs≠[]/\1<=k/\k<=1000/\xs.length<=1000/\
 (k=1->Q (.ref a) H)/\(2<=k->∀p,H p=Th->Q (.ref p) (bq H p (.tup (TJ k xs).flatten)))
theorem KU:OpR X (Wl .Mult) (MG X.K):=by
 intro i s S H x y v u Q I C B h;obtain⟨a,k,xs,rfl,rfl,J,R,Z,O,M,G,E⟩:=h;cases C;obtain⟨t,rfl⟩:=B;obtain⟨f,r,L,Y⟩:=I.tuple J;obtain⟨⟨cls,dd,o,g⟩,e,m,n,l⟩:=id L;simp only at m l;subst m l;have j:=r.length;refine ace (by decide) ⟨_,e,rfl⟩ (λA=>aac A k t) pK F.fills_int_mul F.slot_int_rmul wG F.slot_int_index.lookup
  (X8 F.slot_int_rmul (aac s k t) F.entry_int_rmul (F.args_int_rmul_2 _ _) (sg k t a f.toArray n dd g) ⟨e,rfl,⟨_,e,rfl⟩,?_⟩)
 by_cases N:k=1
 .subst N;exact X8 F.slot_tuple_mul ⟨_,e,rfl⟩ F.entry_tuple_mul (F.args_tuple_mul_2 _ _) (zL a f.toArray n dd g t) ⟨e,⟨.ref a,H,I,rfl,G rfl⟩⟩
 .refine X8 F.slot_tuple_mul ⟨_,e,rfl⟩ F.entry_tuple_mul (F.args_tuple_mul_2 _ _) (yc a f.toArray n dd g k t (by omega) (by omega) ?_ (by rw[TU];omega)) ⟨e,?_⟩
  .cases f with
   |nil=>cases r;exact a6 rfl R
   |cons y T=>rfl
  .have P:Yi (λw p=>w++p) #[] (TJ ((k:Nat):Int).toNat f.toArray)=(TJ k f).flatten.toArray:=by
    have:=pR f k [];rw[aaq]at this;rw[UX];exact this
   rw[P];refine⟨.ref s.heap.objs.size,_,I.laid (λb U q=>bt _ q) (TB _) ?_,rfl,E (by omega) _ (I.UW.fresh (TB _))⟩;refine⟨?_,_,r.rep k,ZQ.new _ _⟩;rw[Cp];exact Uv (aaI O M) (by decide)
def MA(K:Tg):R2:=λx y H Q=>FV K x y H Q\/MG K x y H Q
theorem BN:OpR X (Wl .Mult) (MA X.K):=OpR.or LU KU
def jx:D->D->br RV
 |.tuple xs,.int k=>if xs≠[]/\1<=k/\k<=1000/\xs.length<=1000 then lD (.fz (.tuple (TJ k.toNat xs).flatten)) else Th
 |d,e=>Ew d e
theorem zt{K:Tg}:ri K (MA K) jx:=by
 intro O H x y dx l rv Q n g f e q;unfold jx at e;split at e
 .rename_i ds k
  split at e
  .rename_i h
   cases e;cases f;obtain⟨a,xs,rfl,i,b⟩:=EI g;obtain⟨m,rfl⟩:∃m:Nat,k=(m:Int):=⟨k.toNat,by omega⟩;rw[UX]at q;refine .inr ⟨a,m,xs,rfl,rfl,i.1,λz=>h.1 (b.ne.mp z),by omega,by omega,by rw[b.length];exact h.2.2.2,λe=>?_,λ_=>Fin.adi (b.flat m) n q⟩;subst e;have j:(TJ 1 ds).flatten=ds:=by simp
   rw[j]at q;exact q.at (.tup i b)
  .cases e
 .exact .inl (Lg O H x y dx l rv Q n g f e q)
end L3
namespace PySem
open Sem (wp)
open Builtin Builtin.Str
def itAt:Bool->Heap->Tt->Tt->Nat->Prop
 |true,h,it,a,i=>h.IsTupleIter it a i
 |false,h,it,a,i=>h.IsListIter it a i
def sqAt:Bool->Heap->Tt->Array Ti->Prop
 |true,h,a,xs=>h.IsTuple a xs
 |false,h,a,xs=>h.IsList a xs
def yH:Bool->String
 |true=> "tuple_iterator"
 |false=> "list_iterator"
theorem itAt.ext(x:itAt b h it a i)(e:Heap.ExtBut c h h')(n:it≠c):itAt b h' it a i:=by
 cases b with
 |true=>exact Heap.IsTupleIter.extBut x e n
 |false=>exact Heap.IsListIter.extBut x e n
theorem itAt.to(x:itAt b h it a i)(e:∀o,h.get? it=lD o->h'.get? it=lD o):itAt b h' it a i:=by
 cases b with
 |true=>exact Heap.IsTupleIter.at x e
 |false=>exact Heap.IsListIter.at x e
theorem itAt.live(x:itAt b h it a i):∃o,h.get? it=lD o/\∀v,o.data≠.cell v:=by
 cases b with
 |true=>obtain⟨o,e,_,d⟩:=(show h.IsTupleIter it a i from x);exact⟨o,e,λv z=>by rw[d]at z;cases z⟩
 |false=>obtain⟨o,e,_,d⟩:=(show h.IsListIter it a i from x);exact⟨o,e,λv z=>by rw[d]at z;cases z⟩
theorem sqAt.ext(x:sqAt b h a xs)(e:Heap.ExtBut c h h')(n:a≠c):sqAt b h' a xs:=by
 cases b with
 |true=>exact Heap.IsTuple.extBut x e n
 |false=>exact Heap.IsList.extBut x e n
theorem sqAt.psh(x:sqAt b h a xs)(o:Obj):sqAt b (h.push o) a xs:=by
 cases b with
 |true=>exact Heap.IsTuple.push x o
 |false=>exact Heap.IsList.push x o
theorem sqAt.lt(x:sqAt b h a xs):a<h.objs.size:=by
 cases b with
 |true=>obtain⟨o,e,_⟩:=(show h.IsTuple a xs from x);exact bP e
 |false=>obtain⟨o,e,_⟩:=(show h.IsList a xs from x);exact bP e
section
variable{prog:T5}{w:Uu}{A:Uk}{E:Ti->Tv->Prop}{s:Tv}
theorem wT(hi:itAt b s.heap it l i)(e:sqAt b s.heap l xs)(a:xs[i]?=lD x)
  (q:∀h',itAt b h' it l (i+1)->Heap.SameBut it s.heap h'->Q x {s with heap:=h'}):wpAny (model prog w) A (SmallTypes.nextOf (.ref it)) Q E s:=by
 cases b with
 |true=>exact oy hi e a q
 |false=>exact wpAny_nextOf_list_item hi e a q
theorem C0(g:A.handled=Th)(hi:itAt b s.heap it l i)(f:sqAt b s.heap l xs)(a:xs[i]?=Th)
  (q:∀h' e,Heap.ExtBut it s.heap h'->(∃o,h'.get? e=lD o/\o.cls=.type "StopIteration")->E (.ref e) {s with heap:=h'}):wpAny (model prog w) A (SmallTypes.nextOf (.ref it)) Q E s:=by
 cases b with
 |true=>exact pi g hi f a q
 |false=>exact wpAny_nextOf_list_end g hi f a q
theorem DB(a:sqAt b s.heap l xs)
  (q:Q (.ref s.heap.objs.size) {s with heap:=s.heap.push {cls:=.type (yH b),data:=.fields #[.ref l,.int 0 0]}}):wpAny (model prog w) A (pyIter (.ref l)) Q E s:=by
 cases b with
 |true=>exact Y7 a q
 |false=>exact WT a q
theorem Ea{Q:Ti->Tv->Prop}(D:aau z TI TO i1 i2 l1 l2)(hz:abH s.heap z TI TO .none)
  (hTI:IsPair s.heap TI (.ref i1) (.ref i2)) (hTO:IsPair s.heap TO a b) (h1:itAt b1 s.heap i1 l1 n) (h2:itAt b2 s.heap i2 l2 n) (hl1:sqAt b1 s.heap l1 xs) (hl2:sqAt b2 s.heap l2 ys) (hx:xs[n]?=lD x) (hy:ys[n]?=lD y)
  (q:∀h',abH h' z TI TO (rawInt s.heap.objs.size)->IsPair h' TO x y->itAt b1 h' i1 l1 (n+1)->itAt b2 h' i2 l2 (n+1)->IsPair h' s.heap.objs.size x y->h'.objs.size=s.heap.objs.size+1->
   (∀c o,c≠z->c≠TO->c≠i1->c≠i2->s.heap.get? c=lD o->h'.get? c=lD o)->Q (.ref s.heap.objs.size) {s with heap:=h'}):
  wpAny (model prog w) A (Ul.«zip.__next__» ⟨[.ref z],[]⟩) (λfin s'=>∃v,fin=.done (.ret v)/\Q v s') E s:=by
 show wpAny _ _ (field (.ref z) 2>>=_) _ _ _;refine Ld (UC hz rfl rfl ?_);show wpAny _ _ (field (.ref z) 3>>=_) _ _ _;refine Ld (UC hz rfl rfl ?_);refine Ld (Vf hTI rfl ?_);show wpAny _ _ (SmallTypes.ownedTupleIsFree (.ref z)>>=_) _ _ _;refine Ld ?_;unfold SmallTypes.ownedTupleIsFree;refine Ld (UC hz rfl rfl (Tr ?_));simp only[if_true];refine Ld (YT ?_);refine Ld (UC hz rfl rfl ?_);refine Ld (Wg hz (by simp) λk₁ t g=>?_);have aei:=t;clear t;refine Ld ?_;simp only[adH,adV,Xo,YK];refine Ld (Ld (ZX ?_));show wpAny _ _ (SmallTypes.nextOf (.ref i1)>>=_) _ _ _;refine Ld (wT (h1.ext g.extBut D.i1z) (hl1.ext g.extBut D.l1z) hx λk₂ Y i=>Tr ?_);have J:=i.extBut _ _ D.TOi1 (g.extBut _ _ D.TOz hTO);refine Ld (Vf J rfl ?_);refine Ld (Zo J λk₃ I h=>?_);have M:=I;clear I;refine Ld (WH (Tr ?_));refine Ld (Ld (ZX ?_));show wpAny _ _ (SmallTypes.nextOf (.ref i2)>>=_) _ _ _;refine Ld (wT (((h2.ext g.extBut D.i2z).ext i.extBut D.i12.symm).ext h.extBut D.TOi2.symm) (((hl2.ext g.extBut D.l2z).ext i.extBut D.l2i1).ext h.extBut D.l2TO) hy λk₄ X l=>Tr ?_);have H:=l.extBut _ _ D.TOi2 M;refine Ld (Vf H rfl ?_);refine Ld (Zo H λf G j=>?_);have p:IsPair f TO x y:=G;clear G;refine Ld (WH (Tr (Tr ?_)));refine Ld (Vf p rfl ?_);refine Ld (wpAny_newTuple ?_);have U:f.objs.size=s.heap.objs.size:=by rw[j.1,l.1,h.1,i.1,g.1]
 have C:=j.extBut _ _ D.TOz.symm (l.extBut _ _ D.i2z.symm (h.extBut _ _ D.TOz.symm (i.extBut _ _ D.i1z.symm aei)));have kp:∀c o,c≠z->c≠TO->c≠i1->c≠i2->s.heap.get? c=lD o->f.get? c=lD o:=λc o N Z c3 c4 e=>
  j.extBut _ _ Z (l.extBut _ _ c4 (h.extBut _ _ Z (i.extBut _ _ c3 (g.extBut _ _ N e))))
 have T:=((Y.ext h.extBut D.TOi1.symm).ext l.extBut D.i12).ext j.extBut D.TOi1.symm;have S:=X.ext j.extBut D.TOi2.symm;have Xp:=bP C;show wpAny _ _ (SmallTypes.ownedTupleHandOut (.ref z) (.ref f.objs.size)>>=_) _ _ _;refine Ld ?_;unfold SmallTypes.ownedTupleHandOut;have R:abH (f.push {cls:=.type "tuple",data:=.seq #[x,y]}) z TI TO .ellipsis:=bt _ C;refine Ld (Wg R (by simp) λk₇ P B=>?_);have L:=P;refine Wg L (by simp) λr O u=>?_;have m:=O;have up:∀c o,c≠z->f.get? c=lD o->r.get? c=lD o:=λc o N e=>u.extBut _ _ N (B.extBut _ _ N (bt _ e));have F:=u.extBut _ _ (U4 Xp) (B.extBut _ _ (U4 Xp) (b5 _ rfl));have K:r.objs.size=f.objs.size+1:=by rw[u.1,B.1,cn]
 rw[U]at m F K;refine Tr ⟨_,rfl,?_⟩;rw[U];exact q r m (up _ _ D.TOz p) (T.to λo e=>up _ o D.i1z e) (S.to λo e=>up _ o D.i2z e) F K λc o N Z c3 c4 e=>up c o N (kp c o N Z c3 c4 e)
theorem E3(T:A.handled=Th)(D:aau z TI TO i1 i2 l1 l2)(hz:abH s.heap z TI TO .none)
  (M:IsPair s.heap TI (.ref i1) (.ref i2)) (L:IsPair s.heap TO a b) (U:itAt b1 s.heap i1 l1 n) (Z:itAt b2 s.heap i2 l2 n) (F:sqAt b1 s.heap l1 xs) (J:sqAt b2 s.heap l2 ys) (O:xs[n]?=Th\/ys[n]?=Th)
  (q:∀h' e,(∀c o,c≠z->c≠TO->c≠i1->c≠i2->s.heap.get? c=lD o->h'.get? c=lD o)->(∃o,h'.get? e=lD o/\o.cls=.type "StopIteration")->E (.ref e) {s with heap:=h'}):
  wpAny (model prog w) A (Ul.«zip.__next__» ⟨[.ref z],[]⟩) Q E s:=by
 show wpAny _ _ (field (.ref z) 2>>=_) _ _ _;refine Ld (UC hz rfl rfl ?_);show wpAny _ _ (field (.ref z) 3>>=_) _ _ _;refine Ld (UC hz rfl rfl ?_);refine Ld (Vf M rfl ?_);show wpAny _ _ (SmallTypes.ownedTupleIsFree (.ref z)>>=_) _ _ _;refine Ld ?_;unfold SmallTypes.ownedTupleIsFree;refine Ld (UC hz rfl rfl (Tr ?_));simp only[if_true];refine Ld (YT ?_);refine Ld (UC hz rfl rfl ?_);refine Ld (Wg hz (by simp) λS y f=>?_);have H:=y;refine Ld ?_;simp only[adH,adV,Xo,YK];refine Ld (Ld (ZX ?_));show wpAny _ _ (SmallTypes.nextOf (.ref i1)>>=_) _ _ _;cases hx:xs[n]? with
 |none=>
  refine Ld (C0 T (U.ext f.extBut D.i1z) (F.ext f.extBut D.l1z) hx λC e g K=>?_);obtain⟨I,i,j⟩:=K;have m:=g _ _ D.i1z.symm H;have ne:e≠z:=λt=>by subst t;rw[m]at i;cases i;simp at j
  exact Wg m (by simp) λr _ h=>q r e (λc o G _ N _ t=>h.extBut _ _ G (g _ _ N (f.extBut _ _ G t))) ⟨I,h.extBut _ _ ne i,j⟩
 |some x=>
  have Y:ys[n]?=Th:=by
   rcases O with t|t
   .rw[hx]at t;cases t
   .exact t
  refine Ld (wT (U.ext f.extBut D.i1z) (F.ext f.extBut D.l1z) hx λC X g=>Tr ?_);have p:=g.extBut _ _ D.TOi1 (f.extBut _ _ D.TOz L);refine Ld (Vf p rfl ?_);refine Ld (Zo p λr P h=>?_);refine Ld (WH (Tr ?_));refine Ld (Ld (ZX ?_));show wpAny _ _ (SmallTypes.nextOf (.ref i2)>>=_) _ _ _;refine Ld (C0 T (((Z.ext f.extBut D.i2z).ext g.extBut D.i12.symm).ext h.extBut D.TOi2.symm) (((J.ext f.extBut D.l2z).ext g.extBut D.l2i1).ext h.extBut D.l2TO) Y λR e v K=>?_);obtain⟨I,i,j⟩:=K;have l:=v _ _ D.i2z.symm (h.extBut _ _ D.TOz.symm (g.extBut _ _ D.i1z.symm H));have ne:e≠z:=λt=>by subst t;rw[l]at i;cases i;simp at j
  exact Wg l (by simp) λB _ u=>q B e (λc o G c2 N c4 t=>u.extBut _ _ G (v _ _ c4 (h.extBut _ _ c2 (g.extBut _ _ N (f.extBut _ _ G t))))) ⟨I,u.extBut _ _ ne i,j⟩
end
section
variable{prog:T5}{w:Uu}{A:Uk}{E:Ti->Tv->Prop}{s:Tv}
theorem yY(D:aau z TI TO i1 i2 l1 l2)(hz:abH s.heap z TI TO .none)
  (h:IsPair s.heap TI (.ref i1) (.ref i2)) (g:IsPair s.heap TO a b) (p:itAt b1 s.heap i1 l1 n) (m:itAt b2 s.heap i2 l2 n) (f:sqAt b1 s.heap l1 xs) (e:sqAt b2 s.heap l2 ys) (l:xs[n]?=lD x) (j:ys[n]?=lD y)
  (q:∀h',abH h' z TI TO (rawInt s.heap.objs.size)->IsPair h' TO x y->itAt b1 h' i1 l1 (n+1)->itAt b2 h' i2 l2 (n+1)->IsPair h' s.heap.objs.size x y->h'.objs.size=s.heap.objs.size+1->
   (∀c o,c≠z->c≠TO->c≠i1->c≠i2->s.heap.get? c=lD o->h'.get? c=lD o)->Q (lD (.ref s.heap.objs.size)) {s with heap:=h'}):
  wpAny (model prog w) A (pyNext (.ref z)) Q E s:=by
 have i:s.TypeIs (.ref z) "zip":=⟨_,hz,rfl⟩;unfold pyNext;refine Ld (ZY (UR i F.slot_zip_next ?_));exact UZ F.slot_zip_next i F.entry_zip_next (Ea D hz h g p m f e l j λh' G C B v u t r=>Tr (q h' G C B v u t r)) (F.args_zip_next_1 _)
theorem zT(r:A.handled=Th)(D:aau z TI TO i1 i2 l1 l2)(hz:abH s.heap z TI TO .none)
  (i:IsPair s.heap TI (.ref i1) (.ref i2)) (h:IsPair s.heap TO a b) (y:itAt b1 s.heap i1 l1 n) (v:itAt b2 s.heap i2 l2 n) (g:sqAt b1 s.heap l1 xs) (f:sqAt b2 s.heap l2 ys) (j:xs[n]?=Th\/ys[n]?=Th)
  (q:∀h',(∀c o,c≠z->c≠TO->c≠i1->c≠i2->s.heap.get? c=lD o->h'.get? c=lD o)->Q Th {s with heap:=h'}):wpAny (model prog w) A (pyNext (.ref z)) Q E s:=by
 have l:s.TypeIs (.ref z) "zip":=⟨_,hz,rfl⟩;unfold pyNext;refine Ld (ZY (UR l F.slot_zip_next ?_));refine UZ F.slot_zip_next l F.entry_zip_next (E3 r D hz i h y v g f j λh' e p t=>?_) (F.args_zip_next_1 _);obtain⟨o,m,u⟩:=t;exact Ld (Xt ⟨o,m,u⟩ aiy (Tr (q _ p)))
end
abbrev QJ(h:Heap)(b:Bool)(a:Tt):Heap:=h.push {cls:=.type (yH b),data:=.fields #[.ref a,.int 0 0]}
abbrev Qg(h:Heap)(f e:Bool)(b a:Tt):Heap:=(QJ h f b).push {cls:=.type (yH e),data:=.fields #[.ref a,.int 0 0]}
abbrev QA(h:Heap)(b f:Bool)(a e:Tt):Heap:=(Qg h b f a e).push {cls:=.type "tuple",data:=.seq #[.ref h.objs.size,.ref (QJ h b a).objs.size]}
abbrev P9(h:Heap)(f e:Bool)(b a:Tt):Heap:=(QA h f e b a).push {cls:=.type "tuple",data:=.seq #[.none,.none]}
abbrev Sv(h:Heap)(f e:Bool)(b a:Tt):Heap:=(P9 h f e b a).push {cls:=.type "zip",data:=.fields #[.none,.bool Tw,.bool Tw,.ref (Qg h f e b a).objs.size,.ref (QA h f e b a).objs.size]}
theorem tF(e f:Bool)(a b:Tt)(xs ys:Array Ti):
  Meets (Ul.«zip.__new__» ⟨[.type "zip",.ref a,.ref b],[]⟩) (λ_ R s=>sqAt e s.heap a xs/\sqAt f s.heap b ys/\R (.ok (.ret (.ref (P9 s.heap e f a b).objs.size))) {s with heap:=Sv s.heap e f a b}):=
 .of_wp λo w A R s h=>by
  obtain⟨q,g,d,n,p⟩:=s;obtain⟨j,i,h⟩:=h;have r:=sub_zip;have m:sqAt e (Tv.heap ⟨q,g,d,n,p⟩) a xs:=j;have l:sqAt f (Tv.heap ⟨q.push {cls:=.type (yH e),data:=.fields #[.ref a,.int 0 0]},g,d,n,p⟩) b ys:=sqAt.psh i _
  wp_walk using DB m,DB l
  exact⟨_,rfl,h⟩
section
variable{prog:T5}{w:Uu}{A:Uk}{E:Ti->Tv->Prop}{s:Tv}
theorem Iw(e:h.get? it=lD {cls:=.type (yH b),data:=.fields #[.ref l,.int 0 0]}):itAt b h it l 0:=by
 cases b with
 |true=>exact⟨_,e,rfl,rfl⟩
 |false=>exact⟨_,e,rfl,rfl⟩
theorem Er(l:sqAt b1 s.heap l1 xs)(j:sqAt b2 s.heap l2 ys)
  (q:∀h',abH h' (s.heap.objs.size+4) (s.heap.objs.size+2) (s.heap.objs.size+3) .none->IsPair h' (s.heap.objs.size+2) (.ref s.heap.objs.size) (.ref (s.heap.objs.size+1))->
   IsPair h' (s.heap.objs.size+3) .none .none->itAt b1 h' s.heap.objs.size l1 0->itAt b2 h' (s.heap.objs.size+1) l2 0->(∀c o,s.heap.get? c=lD o->h'.get? c=lD o)->Q (.ref (s.heap.objs.size+4)) {s with heap:=h'}):
  wpAny (model prog w) A (call (.type "zip") [.ref l1,.ref l2]) Q E s:=by
 refine callType_new F.called_zip (by decide) (F.typeCall_zip_2 _ _) (F.newCall_zip_2 _ _) (λobj=>F.args_object_init_3 obj _ _) F.entry_zip_new (tF b1 b2 l1 l2 xs ys) ⟨l,j,?_⟩;have i:(QJ s.heap b1 l1).objs.size=s.heap.objs.size+1:=cn ..;have h:(Qg s.heap b1 b2 l1 l2).objs.size=s.heap.objs.size+2:=by rw[cn,i]
 have g:(QA s.heap b1 b2 l1 l2).objs.size=s.heap.objs.size+3:=by rw[cn,h]
 have p:(P9 s.heap b1 b2 l1 l2).objs.size=s.heap.objs.size+4:=by rw[cn,g]
 have v:∀c o,s.heap.get? c=lD o->(QJ s.heap b1 l1).get? c=lD o:=λc o e=>bt _ e;have n:∀c o,(QJ s.heap b1 l1).get? c=lD o->(Qg s.heap b1 b2 l1 l2).get? c=lD o:=λc o e=>bt _ e;have f:∀c o,(Qg s.heap b1 b2 l1 l2).get? c=lD o->(QA s.heap b1 b2 l1 l2).get? c=lD o:=λc o e=>bt _ e;have b:∀c o,(QA s.heap b1 b2 l1 l2).get? c=lD o->(P9 s.heap b1 b2 l1 l2).get? c=lD o:=λc o e=>bt _ e;have a:∀c o,(P9 s.heap b1 b2 l1 l2).get? c=lD o->(Sv s.heap b1 b2 l1 l2).get? c=lD o:=λc o e=>bt _ e;have m:(Sv s.heap b1 b2 l1 l2).get? (P9 s.heap b1 b2 l1 l2).objs.size=lD _:=b5 _ rfl;have r:=a _ _ (b5 _ rfl);have t:=a _ _ (b _ _ (b5 _ rfl));have u:=a _ _ (b _ _ (f _ _ (b5 _ rfl)));have y:=a _ _ (b _ _ (f _ _ (n _ _ (b5 _ rfl))));rw[h,g,p]at m;rw[i,h]at t;rw[g]at r;rw[i]at u;rw[p];exact⟨⟨_,m,rfl⟩,q _ m t r (Iw y) (Iw u) λc o e=>a _ _ (b _ _ (f _ _ (n _ _ (v _ _ e))))⟩
end
end PySem
namespace L3
open PySem PySem.Spec PyProof.Rows L2
def EJ(b:Bool)(K:Tg)(H:Hp)(a:Tt)(xs:bg V):Prop:=match b with
 |true=>XY K H a xs
 |false=>Ym K H a xs
def Sg(K:Tg)(e b:Bool)(a c:Tt):It:=
 ⟨λi H=>∃xs ys x y,EJ e K H a xs/\EJ b K H c ys/\xs[i]?=lD x/\ys[i]?=lD y,
  λi H v f=>∃p x y,H p=Th/\v=.ref p/\(∀xs,EJ e K H a xs->xs[i]?=lD x)/\(∀ys,EJ b K H c ys->ys[i]?=lD y)/\f=bq H p (.tup [x,y]),
  λi H=>∃xs ys,EJ e K H a xs/\EJ b K H c ys/\(xs.length<=i\/ys.length<=i)⟩
theorem Lw(I:Inv X pins σ H s)(j:Ym X.K H a xs)(i:Ym X.K H a ys):xs=ys:=by
 obtain⟨f,h,⟨o,k,l,_,n,p⟩,_⟩:=I.list j;obtain⟨b,g,⟨r,u,e,_,t,m⟩,_⟩:=I.list i;rw[l]at e;cases e;have:f=b:=by
  have q:f.toArray=b.toArray:=by injection p.symm.trans m
  simpa using q
 subst this;exact h.inj g
theorem pL(I:Inv X pins σ H s)(h:EJ b X.K H a xs):∃Uz,Vals xs Uz/\sqAt b s.heap a Uz.toArray:=by
 cases b with
 |true=>obtain⟨Uz,rv,p,e⟩:=I.tuple h;exact⟨Uz,rv,p⟩
 |false=>obtain⟨Uz,rv,p,e⟩:=I.list h;exact⟨Uz,rv,p.isList⟩
theorem BE(I:Inv X pins σ H s)(f:EJ b X.K H a xs)(e:EJ b X.K H a ys):xs=ys:=by
 cases b with
 |true=>exact K8 I f e
 |false=>exact Lw I f e
theorem EB{ch:bg Tt}(I:Inv X pins σ H s)(g:∀b∈ch,pV X pins H b)
  (k:∀b u,b∉ch->s.heap.get? b=lD u->h'.get? b=lD u):Inv X pins σ H {s with heap:=h',toks:=t'}:=by
 have f:∀b u,H b=lD u->b∉ch:=λb u e z=>by rw[(g b z).1]at e;cases e
 refine I.step (λb j=>?_) (λb u _ _ a e _=>k b u a e) (λb u _ _ a e _=>⟨u.slots,k b u a e⟩) (λ_ _ _ _ n=>n)
  (λb u a e=>⟨u,k b u a e⟩) (λ_ _ e=>e) (λ_ _ _ e=>e) (λb ps e=>⟨#[],by rw[e];simp⟩) (λm hm=>?_) (λb u e=>?_) I.bare
 .obtain⟨_,t,_,p,o,l⟩:=g b j;exact⟨p,t,o,l⟩
 .obtain⟨h,w,y,i,r⟩:=hm;exact⟨h,w,y,k _ h (λz=>(g _ z).2.1 rfl) i,r⟩
 .refine(I.UW b u e).Yg (λc v a q=>k c v ?_ q) (λ_ q=>q) λ_ _ q=>q
  rcases a with z|z
  .rw[z];exact f b u e
  .exact f c _ z
theorem IA{K:Tg}{kk}(b1 b2:Bool)(z TI TO C B U T:Tt)(D:aau z TI TO C B U T):
  Turn P w K (.Tuple elts kk tp) (Sg K b1 b2 U T) [z,TI,TO,C,B] z (λi h=>abH h z TI TO .none/\IsPair h TI (.ref C) (.ref B)/\(∃a b,IsPair h TO a b)/\itAt b1 h C U i/\itAt b2 h B T i) where
 mem:=by simp
 obj:=λi h f b e=>by
  obtain⟨m,j,⟨a,c,p⟩,A,r⟩:=f;simp only[T1,Vj,or_false]at e;rcases e with rfl|rfl|rfl|rfl|rfl
  .exact⟨_,m,λv q=>by cases(show Data.fields _=Data.cell v from q)⟩
  .exact⟨_,j,λv q=>by cases(show Data.seq _ _=Data.cell v from q)⟩
  .exact⟨_,p,λv q=>by cases(show Data.seq _ _=Data.cell v from q)⟩
  .exact A.live
  .exact r.live
 keep:=λi h h' f k=>by obtain⟨m,j,⟨a,c,p⟩,A,r⟩:=f;exact⟨k z (by simp) _ m,k TI (by simp) _ j,⟨a,c,k TO (by simp) _ p⟩,A.to λo q=>k C (by simp) o q,r.to λo q=>k B (by simp) o q⟩
 item:=by
  intro X hP hw hK hc i l s σ H E I N f hg;subst hP hw hK;obtain⟨m,j,⟨a,c,p⟩,A,r⟩:=f;obtain⟨xs,ys,x,y,L,J,hx,hy⟩:=hg;obtain⟨Uz,Q,S⟩:=pL I L;obtain⟨G,O,R⟩:=pL I J;obtain⟨u,hu,ru⟩:=Q.get hx;obtain⟨t,ht,rt⟩:=O.get hy;refine yY D m j p A r S R (by simpa using hu) (by simpa using ht) λk z1 o1 g1 g2 pr sz M=>⟨_,rfl,?_⟩;refine wpAny_letOwnedTupleGo_zip z1 λF z2 e2=>?_;have Y:=bP m;have hIl:=bP j;have hOl:=bP p;have h1l:C<s.heap.objs.size:=by obtain⟨_,q,_⟩:=A.live;exact bP q
  have h2l:B<s.heap.objs.size:=by obtain⟨_,q,_⟩:=r.live;exact bP q
  have hn:=I.UW.fresh (TB _);have kk:∀b o,b∉[z,TI,TO,C,B]->s.heap.get? b=lD o->F.get? b=lD o:=λb o e q=>by simp only[T1,Vj,or_false,not_or]at e;exact(e2.2 b e.1).trans (M b o e.1 e.2.2.1 e.2.2.2.1 e.2.2.2.2 q)
  have hT2:=(e2.2 _ (U4 Y)).trans pr
  have I2:Inv X l σ (bq H s.heap.objs.size (.tup [x,y])) {s with heap:=F}:=
   I.abX N kk (TB _) ⟨by show 2<=TL;decide,[u,t],.cons ru (.cons rt .nil),⟨_,hT2,⟨rfl,_,rfl⟩,rfl⟩⟩
  have g:∀b o,b≠z->k.get? b=lD o->F.get? b=lD o:=λb o n q=>(e2.2 b n).trans q;refine⟨.ref s.heap.objs.size,_,I2,rfl,⟨_,x,y,hn,rfl,λzs hs=>by rw[BE I hs L];exact hx,λzs hs=>by rw[BE I hs J];exact hy,rfl⟩,
   ⟨z2,g _ _ D.TIz (M _ _ D.TIz D.TITO D.TIi1 D.TIi2 j),⟨_,_,g _ _ D.TOz o1⟩,g1.to λo q=>g _ _ D.i1z q,g2.to λo q=>g _ _ D.i2z q⟩,λb e=>?_⟩
  have hb2:b<s.heap.objs.size:=by simp only[T1,Vj,or_false]at e;rcases e with rfl|rfl|rfl|rfl|rfl<;>assumption
  rw[az (T8 hb2)];exact(N b e).1
 done:=by
  intro X hP hw hK hc i l s σ H E I N f hg;subst hP hw hK;obtain⟨m,j,⟨a,c,p⟩,A,r⟩:=f;obtain⟨xs,ys,L,J,Z⟩:=hg;obtain⟨Uz,Q,S⟩:=pL I L;obtain⟨G,O,R⟩:=pL I J;have hl1:=Q.length;have hl2:=O.length;have hd:Uz.toArray[i]?=Th\/G.toArray[i]?=Th:=by
   rcases Z with q|q
   .exact .inl (by simp;omega)
   .exact .inr (by simp;omega)
  refine zT (I.ok.hd hc) D m j p A r S R hd λk M=>⟨rfl,?_⟩;exact EB I N λb o e q=>by simp only[T1,Vj,or_false,not_or]at e;exact M b o e.1 e.2.2.1 e.2.2.2.1 e.2.2.2.2 q
 self:=λ_ _ _ _ _ f h=>agg f.1 h
theorem Ed(n b a:Nat)(f:b<n)(e:a<n):aau (n+4) (n+2) (n+3) n (n+1) b a:=by constructor<;>(show(_:Nat)≠_;omega)
def Nb(K:Tg)(f:TA):TI:=λe H R=>f e H λvs b=>∃a c b1 b2,vs=[.ref a,.ref c]/\(∃xs,EJ b1 K b a xs)/\(∃ys,EJ b2 K b c ys)/\R (Sg K b1 b2 a c) b
theorem F6:UT "zip"=lD (.type "zip"):=by left
theorem PB{kk}(S:Gl X "zip")(hm:X.mg "zip"=Th)(ha:PA X [l,m] ta)(O:Uc [l,m] X.env=(Tw,eval l X.env)::Uc [m] X.env:=by rfl)(P:(backTo pos (Uc [m] X.env)).any (·.1)=Tw:=by rfl):
  PI X (.Tuple elts kk tp) (.Call (.Name "zip" p) [l,m] [] pos) (Nb X.K ta):=by
 intro f s y H R I h;refine Call_ (pW I S hm F6 (W5 (cz (ha pos f s y H _ I h) λus g ⟨vs,w,j,G,J⟩=>?_) O P));obtain⟨a,c,Z,Y,e,⟨xs,E⟩,⟨ys,C⟩,q⟩:=J;subst e;obtain⟨u,t,rfl,F,rt⟩:=Cj G;cases F;cases rt;obtain⟨Uz,rx,r⟩:=pL j E;obtain⟨N,ry,o⟩:=pL j C;have U:∀b∈[g.heap.objs.size+4,g.heap.objs.size+2,g.heap.objs.size+3,g.heap.objs.size,g.heap.objs.size+1],pV X f w b:=λb v=>by
  have i:g.heap.objs.size<=b:=by simp only[T1,Vj,or_false]at v;have T:=v;omega
  exact j.abN i (j.UW.fresh i)
 refine Er r o λh1 n M L B A Q=>?_;refine agg n ?_;exact⟨g.heap.objs.size+4,_,_,_,w,rfl,j.kept Q,IA Z Y _ _ _ _ _ a c (Ed _ _ _ r.lt o.lt),⟨n,M,⟨_,_,L⟩,B,A⟩,U,q⟩
def QR:UD->Bool
 |.Starred _ _=>To
 |_=>Tw
theorem vk(e:UD)(es:bg UD)(env:Env)(h:QR e=Tw):Uc (e::es) env=(Tw,eval e env)::Uc es env:=by cases e<;>first|rfl|cases h
def mH:bg D->bg D->bg D
 |x::r,y::q=>.tuple [x,y]::mH r q
 |_,_=>[]
theorem yE:∀(xs ys:bg D),(mH xs ys).length=min xs.length ys.length
 |[],_=>by simp[mH]
 |_::_,[]=>by simp[mH]
 |_::r,_::q=>by simp only[mH,TR,yE r q];omega
theorem yP:∀(xs ys:bg D) (i:Nat),(mH xs ys)[i]?=(xs[i]?).bind λx=>(ys[i]?).map λy=>.tuple [x,y]
 |[],_,_=>by simp[mH]
 |x::r,[],i=>by cases i<;>simp[mH]
 |x::r,y::q,0=>by simp[mH]
 |x::r,y::q,i+1=>by simp only[mH,aa8];exact yP r q i
section
variable{K:Tg}{E:XK}{B O Z:cg}{H0 H H':Hp}{σ:L2.St}{ρ ρ':bp}{v:V}
def abi(b:Bool)(O:cg)(K:Tg)(H:Hp)(a:Tt)(xs:bg V):Prop:=match b with
 |true=>Yh O K H a xs
 |false=>ZT O K H a xs
theorem abi.ev(h:abi b O K H a xs)(e:Ev O H Z H'):abi b Z K H' a xs:=by
 cases b with
 |true=>exact Yh.ev h e
 |false=>exact ZT.ev h e
theorem abi.at(h:abi b O K H a xs):EJ b K H a xs:=by
 cases b with
 |true=>exact(show Yh O K H a xs from h).1
 |false=>exact(show ZT O K H a xs from h).1.sq
theorem Nz(h:abi b1 O K H a xs)(hd:Vl O K H xs ds)(g:abi b2 O K H c ys)(F:Vl O K H ys es):wo K (Sg K b1 b2 a c) O H (mH ds es):=by
 intro Z H' e n;have j:=h.ev e;have f:=hd.ev e;have m:=g.ev e;have l:=F.ev e;rw[yE];refine⟨λi hi=>?_,⟨xs,ys,j.at,m.at,?_⟩⟩
 .have w:i<ds.length:=by omega
  have u:i<es.length:=by omega
  obtain⟨x,C,dx⟩:=f.get (TK w);obtain⟨y,A,G⟩:=l.get (TK u);refine⟨⟨xs,ys,x,y,j.at,m.at,C,A⟩,?_⟩;rintro t I ⟨p,L,J,b,rfl,hx',hy',rfl⟩;have r:=hx' xs j.at;have o:=hy' ys m.at;rw[C]at r;rw[A]at o;cases r;cases o;refine⟨bO b _,.tuple [ds[i],es[i]],?_,.tup ⟨XY.of aF,λq=>a6 q (n p b)⟩ (.cons (dx.ev (Ev.grow (bO b _))) (.cons (G.ev (Ev.grow (bO b _))) .nil))⟩;rw[yP,TK w,TK u];rfl
 .rw[hd.length,F.length];omega
theorem M9(h:DV O K H v d)(q:fT d=lD ds):∃b a xs,v=.ref a/\abi b O K H a xs/\Vl O K H xs ds:=by
 cases h with
 |tup h e=>cases q;exact⟨To,_,_,rfl,h,e⟩
 |lst h e=>cases q;exact⟨Tw,_,_,rfl,h,e⟩
 |_=>cases q
def Jb(fa:FA):FI:=λρ=>(fa ρ).bind λa=>(Res.UB (ro a.2 a.1)).bind λb=>match b.1 with
 |[d,e]=>(Res.UB (fT d)).bind λds=>(Res.UB (fT e)).bind λf=>.ok (mH ds f,b.2)
 |_=>.bad
theorem OV(h:AO K E ta fa):IO K E (Nb K ta) (Jb fa):=by
 intro B H0 O σ H ρ P R w;refine h B H0 O σ H ρ _ R (w.bind.imp λa b Q vs L r I m=>?_);obtain⟨⟨ds,i⟩,q,b⟩:=b.UB;obtain⟨J,p,R2,t⟩:=sO I m q;dsimp only at b;cases t with
 |nil=>exact b.elim
 |cons o e=>
  cases e with
  |nil=>exact b.elim
  |cons e n=>
   cases n with
   |cons _ _=>exact b.elim
   |nil=>obtain⟨N,l,b⟩:=WR.UB b;obtain⟨fs,j,b⟩:=WR.UB b;obtain⟨C,G,xs,rfl,g,y⟩:=M9 o l;obtain⟨A,F,M,rfl,f,u⟩:=M9 e j;exact⟨G,F,C,A,rfl,⟨_,g.at⟩,⟨_,f.at⟩,b J _ L (r.trans p) R2 (Nz g y f u)⟩
def ke(d e:D):br RV:=match d,e with
 |.str z,.int i=>if z.length<=1000000 then(ng z.cps.toList i).map λc=>.fz (.str ⟨#[c]⟩) else Th
 |_,_=>Th
theorem rU:ri K (RD K) ke:=by
 intro O H x y dx g rv Q n b a e q;unfold ke at e;split at e
 .split at e
  .rename_i z i f
   cases qa:ng z.cps.toList i with
   |none=>rw[qa]at e;cases e
   |some c=>rw[qa]at e;cases e;cases b;cases a;exact .inr (.inr ⟨z,i,c,rfl,rfl,vL f,qa,q.at (.str _)⟩)
  .cases e
 .cases e
def Jx:bg D->br RV
 |[.str z]=>if z.length<=1000000 then lD (.fz (.int z.length)) else Th
 |_=>Th
theorem KW:EL K (λxs H Q=>∃x n,xs=[x]/\Ku K x H n/\Q (.int n) H) Jx:=by
 intro O H xs ds rv Q n a e q;unfold Jx at e;split at e
 .split at e
  .rename_i z b
   cases e;cases a with
   |cons g f=>cases f;cases g;exact⟨_,z.length,rfl,⟨vL b,rfl⟩,q.at (.int _)⟩
  .cases e
 .cases e
end
end L3
namespace L3
open PySem L2
def SQ(N C:bp->Prop)(T:RV->Prop):Res Fl->Prop
 |.ok (.nx ρ)=>N ρ
 |.ok (.ct ρ)=>C ρ
 |.ok (.rt v)=>T v
 |_=>False
structure Go(r:Res Fl)(N C:bp->Prop)(T:RV->Prop):Prop where
 out:SQ N C T r
section
variable{ρ ρ1 Z ρ3:bp}{f g:FS}{fe:FE}{pv:PV}{d:D}{rv:RV}{ds:bg D}{N C:bp->Prop}{T:RV->Prop}
theorem Go.eq(e:r=r')(h:Go r' N C T):Go r N C T:=by rw[e];exact h
theorem Go.imp(h:Go r N C T)(b:∀ρ,N ρ->N' ρ)(e:∀ρ,C ρ->C' ρ)(a:∀v,T v->T' v):Go r N' C' T':=by
 refine⟨?_⟩;have h:=h.out;cases r with
 |bad=>exact h
 |er x=>exact h
 |ok i=>
  cases i with
  |nx r=>exact b _ h
  |ct r=>exact e _ h
  |rt v=>exact a _ h
  |bk r=>exact h
theorem Ax(h:Go (f ρ) (λr=>Go (g r) N C T) C T):Go (cw f g ρ) N C T:=by
 refine⟨?_⟩;have h:=h.out;unfold cw;cases q:f ρ with
 |bad=>rw[q]at h;exact h.elim
 |er x=>rw[q]at h;exact h.elim
 |ok a=>
  rw[q]at h;cases a with
  |nx r=>exact(show Go (g r) N C T from h).out
  |ct r=>exact h
  |rt v=>exact h
  |bk r=>exact h.elim
theorem Mv(h:c ρ=.ok (b,ρ1))(a:b=To->Go (f ρ1) N C T)(e:b=Tw->Go (g ρ1) N C T):Go (pd c f g ρ) N C T:=by
 unfold pd;rw[h,dP];cases b with
 |true=>exact a rfl
 |false=>exact e rfl
theorem Bh(b:fe ρ=.ok (pv,ρ1))(a:gt pv ρ1=.ok Z)(h:N Z):Go (fQ fe gt ρ) N C T:=.eq (A6 b a rfl) ⟨h⟩
theorem Dc(a:fe ρ=.ok (pv,ρ1))(h:N ρ1):Go (ve fe ρ) N C T:=.eq (Da a) ⟨h⟩
theorem eW(b:fe ρ=.ok (pv,ρ1))(a:D5 ρ1 pv=lD rv)(h:T rv):Go (eS fe ρ) N C T:=.eq (wv b a) ⟨h⟩
theorem Cr(h:N ρ):Go (gu ρ) N C T:=⟨h⟩
theorem BG(I:Nat->bp->Prop):∀(ds:bg D) (k:Nat) (ρ:bp),I k ρ->(∀i d ρ,ds[i]?=lD d->I (k+i) ρ->∃ρ1,gt (.fz d) ρ=.ok ρ1/\Go (b ρ1) (I (k+i+1)) (I (k+i+1)) T)->Go (qS gt b ds ρ) (I (k+ds.length)) C T
 |[],k,ρ,h0,_=>⟨h0⟩
 |d::r,k,ρ,h0,hs=>by
  obtain⟨ρ1,o,a⟩:=hs 0 d ρ rfl h0;have a:=a.out;have l:∀j,I (k+1) j->Go (qS gt b r j) (I (k+(r.length+1))) C T:=λj h=>by
   have e:k+(r.length+1)=k+1+r.length:=by omega
   rw[e];refine BG I r (k+1) j h λi t m hi n=>?_;have e:k+1+i=k+(i+1):=by omega
   rw[e]at n⊢;exact hs (i+1) t m (by simpa using hi) n
  refine⟨?_⟩;show SQ _ _ _ ((gt (.fz d) ρ).bind _);rw[o,dP];cases q:b ρ1 with
  |bad=>rw[q]at a;exact a.elim
  |er x=>rw[q]at a;exact a.elim
  |ok p=>
   rw[q]at a;cases p with
   |nx r=>exact(l _ a).out
   |ct r=>exact(l _ a).out
   |rt v=>exact a
   |bk r=>exact a.elim
theorem NM(I:Nat->bp->Prop)(hi:fi ρ=.ok (ds,ρ1))(j:I 0 ρ1)(a:∀i d ρ,ds[i]?=lD d->I i ρ->∃ρ1,gt (.fz d) ρ=.ok ρ1/\Go (b ρ1) (I (i+1)) (I (i+1)) T)(e:∀ρ',I ds.length ρ'->N ρ'):Go (xz fi gt b ρ) N C T:=by have:=BG (C:=C) I ds 0 ρ1 j (by simpa using a);rw[Wx]at this;exact .eq (Ah hi) (this.imp e (λ_ h=>h) λ_ h=>h)
theorem mI(a:ds.map (λd=>lD (.fz d))++TJ (n - ds.length) Th=ρ)(h:Go (g ρ) (λ_=>T (.fz .none)) (λ_=>False) T):∃rv,gA n g ds=.ok rv/\T rv:=by
 have h:=h.out;unfold gA;rw[a];cases q:g ρ with
 |bad=>rw[q]at h;exact h.elim
 |er x=>rw[q]at h;exact h.elim
 |ok b=>
  rw[q]at h;cases b with
  |nx r=>exact⟨_,rfl,h⟩
  |ct r=>exact h.elim
  |rt v=>exact⟨_,rfl,h⟩
  |bk r=>exact h.elim
theorem jL(a:ds.map (λd=>lD (.fz d))++TJ (n - ds.length) Th=ρ)(h:Go (g ρ) (λ_=>RV.fz .none=v) (λ_=>False) (λr=>r=v)):gA n g ds=.ok v:=by obtain⟨rv,e,b⟩:=mI (T:=λr=>r=v) a h;rw[e,b]
theorem cR(b:fe ρ=.ok (pv,ρ1))(a:gt pv ρ1=.ok Z)(hn:Z=ρ3)(h:Go (g ρ3) N C T):Go (cw (fQ fe gt) g ρ) N C T:=.eq (IV (A6 b a hn)) h
theorem j7(b:fe ρ=.ok (pv,ρ1))(a:D5 ρ1 pv=lD rv)(h:T rv):Go (cw (eS fe) g ρ) N C T:=.eq (HQ (wv b a)) ⟨h⟩
theorem gG(h:Go (g ρ) N C T):Go (cw gu g ρ) N C T:=.eq rfl h
theorem qH(i:c ρ=.ok (b,ρ1))(a:b=To->Go (cw f1 g ρ1) N C T)(h:b=Tw->Go (cw f2 g ρ1) N C T):Go (cw (pd c f1 f2) g ρ) N C T:=by
 have e:cw (pd c f1 f2) g ρ=if b=To then cw f1 g ρ1 else cw f2 g ρ1:=by unfold cw pd;rw[i,dP];cases b<;>rfl
 refine .eq e ?_;cases b with
 |true=>exact a rfl
 |false=>exact h rfl
theorem HR(I:Nat->bp->Prop)(hi:fi ρ=.ok (ds,ρ1))(h:I 0 ρ1)(a:∀i d ρ,ds[i]?=lD d->I i ρ->∃ρ1,gt (.fz d) ρ=.ok ρ1/\Go (b ρ1) (I (i+1)) (I (i+1)) T)(e:∀ρ',I ds.length ρ'->Go (g ρ') N C T):Go (cw (xz fi gt b) g ρ) N C T:=
 Ax (NM I hi h a e)
theorem vj(I:bp->Prop)(P:Nat->D->Prop):∀(ds:bg D) (k:Nat) (ρ:bp) (a:bg D),I ρ->a.length+ds.length<=1000000->(∀i d,ds[i]?=lD d->∀ρ,I ρ->∃x ρ',kN gt ft fe d ρ=.ok (lD x,ρ')/\I ρ'/\P (k+i) x)->
  ∃xs,dG gt ft fe ds ρ a=.ok (a++xs)/\xs.length=ds.length/\∀i x,xs[i]?=lD x->P (k+i) x
 |[],k,ρ,a,_,_,_=>⟨[],by show Res.ok a=_;simp,rfl,λi x h=>by simp at h⟩
 |d::r,k,ρ,a,h0,hl,hs=>by
  obtain⟨x,ρ',o,n,m⟩:=hs 0 d rfl ρ h0;rw[TR]at hl;obtain⟨xs,t,q,p⟩:=vj I P r (k+1) ρ' (a++[x]) n (by rw[Tz];simp;omega) λi u hi b l=>by
   have e:k+1+i=k+(i+1):=by omega
   rw[e];exact hs (i+1) u (by simpa using hi) b l
  refine⟨x::xs,?_,by rw[TR,q,TR],λi y j=>?_⟩
  .rw[sD o (by omega)];show dG gt ft fe r ρ' (a++[x])=_;rw[t,Ux];rfl
  .cases i with
   |zero=>cases(show lD x=lD y from j);exact m
   |succ i=>
    have e:k+(i+1)=k+1+i:=by omega
    rw[e];exact p i y (by simpa using j)
theorem k8(I:bp->Prop)(P:Nat->D->Prop)(e:I ρ)(b:ds.length<=1000000)(a:∀i d,ds[i]?=lD d->∀ρ,I ρ->∃x ρ',kN gt ft fe d ρ=.ok (lD x,ρ')/\I ρ'/\P i x):
  ∃xs,ku (dG gt ft fe ds ρ [])=.ok xs/\xs.length=ds.length/\∀i x,xs[i]?=lD x->P i x:=by
 obtain⟨xs,l,j,h⟩:=vj I P ds 0 ρ [] e (by simpa using b) (by simpa using a);exact⟨xs,by rw[l];rfl,j,by simpa using h⟩
theorem lJ{α:Type}{f:α->D}{Q:Nat->α->Prop}:∀(xs:bg D) (k:Nat),(∀i x,xs[i]?=lD x->∃a,x=f a/\Q (k+i) a)->∃as:bg α,xs=as.map f/\∀i a,as[i]?=lD a->Q (k+i) a
 |[],_,_=>⟨[],rfl,λi a h=>by simp at h⟩
 |x::r,k,h=>by
  obtain⟨a,e,q⟩:=h 0 x rfl;obtain⟨as,n,l⟩:=lJ (f:=f) (Q:=Q) r (k+1) λi y m=>by
   have e:k+1+i=k+(i+1):=by omega
   rw[e];exact h (i+1) y (by simpa using m)
  refine⟨a::as,by rw[e,n];rfl,λi b j=>?_⟩;cases i with
  |zero=>cases(show lD a=lD b from j);exact q
  |succ i=>
   have e:k+(i+1)=k+1+i:=by omega
   rw[e];exact l i b (by simpa using j)
theorem Od(ha:Tu.strOk a=To)(e:Tu.strOk b=To):dh (.str a) (.str b)=lD (.fz (.bool (a==b))):=by unfold dh;rw[show lY (.str a)=To by unfold lY;rw[show Tu.canLay0 (.str a)=To from ha];rfl,show Tu.canLay0 (.str b)=To from e,VD,av rfl];rfl
theorem Mq(ha:Tu.strOk a=To):dh (.str a) (.str a)=lD (.fz (.bool To)):=by rw[Od ha ha,dN]
theorem BR(ha:Tu.strOk a=To)(e:Tu.strOk b=To)(h:(a==b)=Tw):dh (.str a) (.str b)=lD (.fz (.bool Tw)):=by rw[Od ha e,h]
theorem xF{α:Type}{xs:bg α}{i:Int}{v:α}(a:0<=i)(h:xs[i.toNat]?=lD v):ng xs i=lD v:=N0 a h
theorem Kn(a:0<=i)(h:ds[i.toNat]?=lD d):bJ (.list ds) (.int i)=lD (.fz d):=by show(ng ds i).map RV.fz=_;rw[xF a h];rfl
theorem Jy{s:bg Nat}(e:s.Pairwise (·<·))(h:∀k∈s,k<n):s.length<=n:=by
 have:∀(s:bg Nat) (a:Nat),s.Pairwise (·<·)->(∀k∈s,a<=k/\k<n)->s.length<=n - a:=by
  intro s
  induction s with
  |nil=>intro a _ _;exact Ur _
  |cons x r i=>intro a e h;obtain⟨l,j⟩:=U7.mp e;have m:=h x Ts;have:=i (x+1) j λk b=>⟨l k b,(h k (Tx _ b)).2⟩;rw[TR];omega
 exact this s 0 e λk b=>⟨Ur _,h k b⟩
theorem BZ(ha:fr ρ=.ok (ps,ρ1))(hd:ro ρ1 ps=lD ([d,e],Z))(b:fT d=lD es)(a:fT e=lD fs):Jb fr ρ=.ok (mH es fs,Z):=by unfold Jb;rw[ha,dP,hd,aW,dP];dsimp only;rw[b,aW,dP,a,aW,dP]
end
end L3
namespace L3
open PySem PySem.Spec PyProof.Rows L2 PySem.Builtin PySem.Builtin.Str
section
variable{X:Cx}
theorem IL{z:Str}{u:Ti}(h:RelV (.str z) u):∃t,u=.str z t:=h
theorem uW:∀{a:bg Str} {b:bg Ti},Vals (a.map V.str) b->∃l,b=strValues l/\l.map (·.1)=a
 |[],_,.nil=>⟨[],rfl,rfl⟩
 |z::r,_,.cons h t=>by obtain⟨k,rfl⟩:=IL h;obtain⟨l,rfl,e⟩:=uW t;exact⟨(z,k)::l,rfl,by rw[TX,e]⟩
def MW(K:Tg):V->bg V->Hp->VK->Prop:=λx xs H Q=>∃a l ts,x=.str a/\xs=[.ref l]/\Ym K H l (ts.map V.str)/\ac2 a ts=To/\Q (.str (Txt.join a ts)) H
theorem CQ:RB X "str.join" (MW X.K):=by
 rintro f s j H x xs v m Q I h b ⟨a,l,n,rfl,rfl,hq,UW,q⟩;obtain⟨t,rfl⟩:=IL h;obtain⟨u,rfl,i⟩:=b.one;cases i;obtain⟨r,rv,pl,p⟩:=I.list hq;obtain⟨e,rfl,rfl⟩:=uW rv;have g:tooLong ((e.map (·.1)).toArray.foldl (·+·.length+a.length) 0)=Tw:=by unfold ac2 at UW;rwa [ac3]at UW
 exact X8 F.slot_str_join (abE _ _ _) F.entry_str_join (F.args_str_join_2 _ _) (meets_str_join_list a t l e g) ⟨pl.isList,post_join e ⟨joinFit_length g,λo k=>⟨.str _,H,I.tok k,⟨_,rfl⟩,q⟩⟩⟩
def Q7:V->br Int->br Int->Hp->VK->Prop:=λx lo hi H Q=>∃z,x=.str z/\z.length<=TL/\Q (.str (Txt.slice z lo hi)) H
theorem O0:NW X Q7:=by
 rintro b s h H x v p o lo hi r Q I n e pl g ⟨z,rfl,hz,q⟩;obtain⟨t,rfl⟩:=IL n;refine⟨"str",_,F.slot_str_getitem.lookup,abE _ _ _,?_⟩;have a:(Txt.slice z lo hi).length<=TL/\∀f k,EP X b h Q (.str (Txt.slice z lo hi) f) {s with toks:=k}:=⟨Uv (Txt.slice_le z _ _) hz,λf k=>⟨.str _,H,I.tok k,⟨_,rfl⟩,q⟩⟩;cases pl with
 |none=>cases g with
  |none=>exact W6 (l:=Th) (u:=Th) (st:=Th) e rfl (Y3 a)
  |int j u=>exact W6 (l:=Th) (u:=lD (j,u)) (st:=Th) e rfl (Y3 a)
 |int i u=>cases g with
  |none=>exact W6 (l:=lD (i,u)) (u:=Th) (st:=Th) e rfl (Y3 a)
  |int j m=>exact W6 (l:=lD (i,u)) (u:=lD (j,m)) (st:=Th) e rfl (Y3 a)
end
section
variable{K:Tg}{E:XK}{B O O':cg}{Y H H':Hp}{Z:L2.St}{ρ ρ':bp}{v:V}
def Db:PV->br Str
 |.fz (.str z)=>lD z
 |_=>Th
theorem He{pv:PV}{z:Str}(p:Yf K Y O Z H ρ v pv)(e:Db pv=lD z):v=.str z:=by
 unfold Db at e;split at e
 .cases e;cases(show DV O K H v (.str z) from p);rfl
 .cases e
def ST(K:Tg)(r:V->bg V->Hp->VK->Prop)(f:Str->bg D->br RV):Prop:=∀(O:cg) (H:Hp) (z:Str) (xs:bg V) (ds:bg D) (rv:RV) (Q:VK),oZ O H->Paired (DX O K H) xs ds->f z ds=lD rv->Fin O K H Q rv->r (.str z) xs H Q
def Ql(f:Str->bg D->br RV)(fo:FE)(fa:FA):FE:=λρ=>(fo ρ).bind λa=>(Res.UB (Db a.1)).bind λz=>(fa a.2).bind λb=>(Res.UB (uI b.2 b.1)).bind λds=>(Res.UB (f z ds)).bind λrv=>.ok (rv.pv,b.2)
theorem MK{r:V->bg V->Hp->VK->Prop}{f:Str->bg D->br RV}{to:TE}{h:TA}{fo:FE}{fa:FA}(p:ST K r f)(q:EO K E to fo)(ha:AO K E h fa):EO K E (RF K "str" r to h) (Ql f fo fa):=by intro B Y O Z H ρ Q R w;refine q B Y O Z H ρ _ R (w.bind.imp λa g I x M y C o=>?_);obtain⟨z,i,g⟩:=g.UB;obtain rfl:=He o i;refine⟨rfl,?_⟩;refine ha B Y I Z M a.2 _ C (g.bind.imp λb e G xs L u R2 n=>?_);obtain⟨ds,l,e⟩:=e.UB;obtain⟨rv,j,e⟩:=e.UB;exact p G L z xs ds rv Q R2.od (xA R2 n l) j (mW R2 λF v J t A m=>e F v J (y.trans (u.trans t)) A m)
def wA:bg D->br (bg Str)
 |[]=>lD []
 |.str b::r=>(wA r).map (b::·)
 |_=>Th
theorem C9{O:cg}{H:Hp}:∀{xs:bg V} {ds:bg D} {bs:bg Str},Vl O K H xs ds->wA ds=lD bs->xs=bs.map V.str
 |_,_,_,.nil,e=>by cases e;rfl
 |_,_,bs,.cons (vs:=vs) (ds:=r) h t,e=>by
  cases h with
  |str b=>
   have a:(wA r).map (b::·)=lD bs:=e;cases q:wA r with
   |none=>rw[q]at a;cases a
   |some f=>rw[q]at a;cases a;rw[C9 t q];rfl
  |_=>cases e
theorem IX(a:bg Str):wA (a.map .str)=lD a:=by
 induction a with
 |nil=>rfl
 |cons n r b=>show(wA (r.map .str)).map (n::·)=_;rw[b];rfl
def yA(z:Str):bg D->br RV
 |[.list ds]=>(match wA ds with
  |some a=>if ac2 z a=To then lD (.fz (.str (Txt.join z a))) else Th
  |none=>Th)
 |_=>Th
theorem xo:ST K (MW K) yA:=by
 intro O H z xs ds rv Q n h e q;unfold yA at e;split at e
 .rename_i j
  cases qs:wA j with
  |none=>rw[qs]at e;cases e
  |some g=>
   rw[qs]at e;dsimp only at e;split at e
   .rename_i i
    cases e;cases h with
    |cons f b=>cases b;obtain⟨a,l,rfl,f,b⟩:=BV f;have:=C9 b qs;subst this;exact⟨z,a,g,rfl,rfl,f.sq,i,q.at (.str _)⟩
   .cases e
 .cases e
def mX:D->br Int->br Int->br RV
 |.str z,lo,hi=>if z.length<=1000000 then lD (.fz (.str (Txt.slice z lo hi))) else Th
 |_,_,_=>Th
theorem Mf:Ru K Q7 mX:=by
 intro O H x lo hi dx rv Q n a e q;unfold mX at e;split at e
 .split at e
  .rename_i b;cases e;cases a;exact⟨_,rfl,vL b,q.at (.str _)⟩
  .cases e
 .cases e
end
end L3
namespace L2
open PySem PySem.Spec PyProof.Rows
section
variable{κ:Type}[DecidableEq κ]
def kz(Ub:bg (κ×V))(k:κ):br V:=(Ub.find? λkv=>decide (kv.1=k)).map (·.2)
def ju(Ub:bg (κ×V))(k:κ)(v:V):bg (κ×V):=
 if(Ub.any λkv=>decide (kv.1=k))=To then Ub.map (λkv=>if kv.1=k then(kv.1,v) else kv) else Ub++[(k,v)]
def oX(Ub:bg (κ×V))(k:κ):bg (κ×V):=Ub.filter λkv=>decide (kv.1≠k)
theorem t8{k:κ}(e:p.1=k):kz (p::r) k=lD p.2:=by simp[kz,Uw,e]
theorem tR{k:κ}(e:¬p.1=k):kz (p::r) k=kz r k:=by simp[kz,Uw,e]
theorem zR(k:κ):∀Ub:bg (κ×V),(Ub.any λkv=>decide (kv.1=k))=(kz Ub k).isSome
 |[]=>rfl
 |p::r=>by
  rw[Xj];by_cases e:p.1=k
  .simp only[t8 e,aP e,WW,acd]
  .rw[tR e,a4 e,X4];exact zR k r
theorem lx(Ub:bg (κ×V))(k:κ)(v:V):(ju Ub k v).length<=Ub.length+1:=by
 unfold ju;split
 .rw[Tj];omega
 .rw[Tz,TR,Vq];omega
theorem Xn.XX(r:Xn o u):o.isSome=u.isSome:=by
 cases o with
 |none=>cases u with
  |none=>rfl
  |some _=>exact(show False from r).elim
 |some _=>cases u with
  |none=>exact(show False from r).elim
  |some _=>rfl
theorem Xn.getD(r:Xn o u)(a:RelV d d'):RelV (o.getD d) (u.getD d'):=by
 cases o with
 |none=>cases u with
  |none=>exact a
  |some _=>exact(show False from r).elim
 |some _=>cases u with
  |none=>exact(show False from r).elim
  |some _=>exact r
theorem KV.val{Ub:bg (κ×V)}{vs:bg (κ×Ti)}(r:KV Ub vs)(k:κ):Xn (kz Ub k) (valueAt vs k):=by
 unfold KV at r
 induction r with
 |nil=>exact True.intro
 | @cons p q ps qs h t ih=>
  obtain⟨f,g⟩:=h;by_cases e:p.1=k
  .have a:q.1=k:=f.symm.trans e
   have b:valueAt (q::qs) k=lD q.2:=by simp[valueAt,Uw,a]
   rw[t8 e,b];exact g
  .have a:¬q.1=k:=λz=>e (f.trans z)
   have b:valueAt (q::qs) k=valueAt qs k:=by simp[valueAt,Uw,a]
   rw[tR e,b];exact ih
theorem KV.any(r:KV Ub vs)(k:κ):(Ub.any λkv=>decide (kv.1=k))=vs.any λkv=>decide (kv.1=k):=by
 unfold KV at r
 induction r with
 |nil=>rfl
 |cons h t a=>rw[Xj,Xj,a,h.1]
theorem KV.afx(r:KV Ub vs)(k:κ)(b:RelV y u):
  KV (Ub.map λkv=>if kv.1=k then(kv.1,y) else kv) (vs.map λkv=>if kv.1=k then(kv.1,u) else kv):=by
 unfold KV at r⊢
 induction r with
 |nil=>exact .nil
 | @cons p q ps qs h t ih=>
  rw[TX,TX];refine .cons ?_ ih;obtain⟨a,f⟩:=h;by_cases e:p.1=k
  .rw[av e,av (a.symm.trans e)];exact⟨a,b⟩
  .rw[ax e,ax (λz=>e (a.trans z))];exact⟨a,f⟩
theorem KV.put(r:KV Ub vs)(k:κ)(a:RelV y u):KV (ju Ub k y) (stored vs k u):=by
 unfold ju stored;rw[r.any k];by_cases e:(vs.any λkv=>decide (kv.1=k))=To
 .rw[av e,av e];exact r.afx k a
 .rw[ax e,ax e];exact Paired.snoc r ⟨rfl,a⟩
theorem KV.drop(r:KV Ub vs)(k:κ):KV (oX Ub k) (without vs k):=by
 unfold KV at r⊢;unfold oX without
 induction r with
 |nil=>exact .nil
 | @cons p q ps qs h t ih=>
  obtain⟨f,g⟩:=h;rw[Wv,Wv];by_cases e:p.1=k
  .have a:¬decide (p.1≠k)=To:=by simp[e]
   have b:¬decide (q.1≠k)=To:=by simp[f.symm.trans e]
   rw[ax a,ax b];exact ih
  .have i:¬q.1=k:=λz=>e (f.trans z)
   have a:decide (p.1≠k)=To:=by simp[e]
   have b:decide (q.1≠k)=To:=by simp[i]
   rw[av a,av b];exact .cons ⟨f,g⟩ ih
theorem KV.keys{vs:bg (κ×Ti)}(r:KV Ub vs):Ub.map (·.1)=vs.map (·.1):=by
 unfold KV at r
 induction r with
 |nil=>rfl
 |cons h t a=>rw[TX,TX,a,h.1]
theorem KV.length(r:KV Ub vs):Ub.length=vs.length:=Paired.length r
theorem Ia(Ub:bg (κ×V))(k:κ):(oX Ub k).length<=Ub.length:=Xd _ _
end
theorem u8(r:RelV (kV k) u):(cY P w).is k u=To:=by
 cases k with
 |inl i=>obtain⟨t,e⟩:=(show∃t,u=Ti.int i t from r);subst e;exact zE P w i t
 |inr x=>obtain⟨t,e⟩:=(show∃t,u=Ti.str x t from r);subst e;exact yd P w x t
theorem vM:∀{ks:bg cN} {us:bg Ti},Vals (ks.map kV) us->ItemsAre (cY P w) ks us
 |[],_,r=>by rw[Xx]at r;cases r;exact .nil
 |k::ks,_,r=>by
  rw[TX]at r;cases r with
  |cons h t=>exact .cons (u8 h) (vM t)
abbrev KT(H:Hp):bg (bg cN×V)->bg (bg cN×Tt×Ti)->Prop:=Paired λp q=>p.1=q.1/\H q.2.1=lD (.tup (p.1.map kV))/\RelV p.2 q.2.2
theorem KT.val(r:KT H Ub xs)(k:bg cN):Xn (kz Ub k) ((atKey xs k).map (·.2)):=by
 induction r with
 |nil=>exact True.intro
 | @cons p q ps qs h t ih=>
  obtain⟨f,_,g⟩:=h;by_cases e:p.1=k
  .have a:=f.symm.trans e
   have b:atKey (q::qs) k=lD q.2:=by simp[atKey,Uw,a]
   rw[t8 e,b];exact g
  .have a:¬q.1=k:=λz=>e (f.trans z)
   have b:atKey (q::qs) k=atKey qs k:=by simp[atKey,Uw,a]
   rw[tR e,b];exact ih
theorem KT.afx(r:KT H Ub xs)(k:bg cN)(f:RelV y u):
  KT H (Ub.map λkv=>if kv.1=k then(kv.1,y) else kv) (xs.map (putAt k u)):=by
 induction r with
 |nil=>exact .nil
 | @cons p q ps qs h t ih=>
  rw[TX,TX];refine .cons ?_ ih;obtain⟨a,b,g⟩:=h;unfold putAt;by_cases e:p.1=k
  .rw[av e,av (a.symm.trans e)];exact⟨a,b,f⟩
  .rw[ax e,ax (λz=>e (a.trans z))];exact⟨a,b,g⟩
theorem KT.put(r:KT H Ub xs)(k:bg cN)(f:H b=lD (.tup (k.map kV)))(a:RelV y u):
  KT H (ju Ub k y) (storedH xs k b u):=by
 have e:(Ub.any λkv=>decide (kv.1=k))=(atKey xs k).isSome:=by rw[zR,(r.val k).XX,XH]
 unfold ju storedH;rw[e];by_cases q:(atKey xs k).isSome=To
 .rw[av q,av q];exact r.afx k a
 .rw[ax q,ax q];exact Paired.snoc r ⟨rfl,f,a⟩
theorem KT.keeps(r:KT H Ub xs)(a:∀b ys,H b=lD (.tup ys)->H' b=lD (.tup ys)):KT H' Ub xs:=
 Paired.Xg r λ_ _ z=>⟨z.1,a _ _ z.2.1,z.2.2⟩
section
variable{P:T5}{w:Uu}{H:Hp}{h:Heap}{a:Tt}
theorem Mo(ok:YE P w H h)(e:Rd H a u):ObjOk P w H h a u:=e.ok ok
theorem x9(ok:YE P w H h)(e:Rd H a (.dK Ub)):Ub.length<=TL/\(a==U3)=Tw/\∃vs,KV Ub vs/\h.DictOf (cY P w) a vs:=
 show ObjOk P w H h a (.dK Ub) from Mo ok e
theorem yj(ok:YE P w H h)(e:H a=lD (.dK Ub)):Ub.length<=TL/\(a==U3)=Tw/\∃vs,KV Ub vs/\h.DictOf (cY P w) a vs:=x9 ok (.inl e)
theorem w6{ks:bg cN}(ok:YE P w H h)(e:H a=lD (.tup (ks.map kV))):(tupleKind (cY P w)).is h ks a:=by obtain⟨_,i,r,o,g,⟨f,n,b⟩,_⟩:=(show ObjOk P w H h a (.tup (ks.map kV)) from ok a _ e);exact⟨o,i.toArray,n,g,f,b,by simpa using vM r⟩
theorem yl(ok:YE P w H h)(e:Rd H a (.dT Ub)):Ub.length<=TL/\(a==U3)=Tw/\
  ∃xs,KT H Ub xs/\h.DictOfH (tupleKind (cY P w)) a xs:=by
 obtain⟨z,y,xs,r,o,u,v,n,j,i,g,f⟩:=(show ObjOk P w H h a (.dT Ub) from Mo ok e);refine⟨z,y,xs,r,o,u,v,n,j,i,g,λx b=>?_,f⟩;have all:∀{l:bg (bg cN×V)} {m:bg (bg cN×Tt×Ti)},KT H l m->∀x∈m,(tupleKind (cY P w)).is h x.1 x.2.1:=by
  intro l m q
  induction q with
  |nil=>intro x b;exact nomatch b
  | @cons p q ps qs hq t ih=>
   intro x b;rcases T1.mp b with e|b
   .subst e;exact w6 ok (by rw[<-hq.1];exact hq.2.1)
   .exact ih x b
 exact all r x b
theorem QV(ok:YE P w H h)(e:H a=lD (.dT Ub)):Ub.length<=TL/\(a==U3)=Tw/\
  ∃xs,KT H Ub xs/\h.DictOfH (tupleKind (cY P w)) a xs:=yl ok (.inl e)
end
def aaN(H:Hp)(a:Tt)(y:V)(r:br V):Prop:=
 (∃Ub k,Rd H a (.dK Ub)/\y=kV k/\r=kz Ub k)\/∃Ub k b,Rd H a (.dT Ub)/\y=.ref b/\H b=lD (.tup (k.map kV))/\r=kz Ub k
def ada(H:Hp)(a:Tt)(y v:V)(H':Hp):Prop:=
 (∃Ub k,H a=lD (.dK Ub)/\y=kV k/\Ub.length<TL/\H'=bq H a (.dK (ju Ub k v)))\/
 ∃Ub k b,H a=lD (.dT Ub)/\y=.ref b/\H b=lD (.tup (k.map kV))/\Ub.length<TL/\H'=bq H a (.dT (ju Ub k v))
theorem aaN.k{k:cN}(e:H a=lD (.dK Ub)):aaN H a (kV k) (kz Ub k):=.inl ⟨Ub,k,.inl e,rfl,rfl⟩
theorem ada.k{k:cN}(e:H a=lD (.dK Ub))(b:Ub.length<TL):ada H a (kV k) v (bq H a (.dK (ju Ub k v))):=.inl ⟨Ub,k,e,rfl,b,rfl⟩
section
variable{X:Cx}{Z:bg (Tt×Obj)}{Y:St}{H:Hp}{s:Tv}{a:Tt}{y v:V}{u r:Ti}{o:br V}{A:Uk}{E:Ti->Tv->Prop}
theorem Inv.big(I:Inv X Z Y H s):U3<s.heap.objs.size:=by have h:=(I.mod.glob.keeps I.bk).lt;exact W0 (by decide) h
theorem Ec{Q:Ti->Tv->Prop}(t:A.units+1<cLine)(I:Inv X Z Y H s)(g:aaN H a y (lD v))(q:RelV y u)(h:∀w' s',Inv X Z Y H s'->RelV v w'->Q w' s'):
  wpAny (model X.prog X.w) A (getItem (.ref a) u) Q E s:=by
 rcases g with⟨Ub,k,e,n,l⟩|⟨Ub,k,b,e,n,F,l⟩
 .subst n;obtain⟨z,C,vs,i,dd⟩:=x9 I.UW e;obtain⟨w',j,f⟩:=Xn.some_of (v:=v) (o:=valueAt vs k) (by rw[l];exact i.val k);exact wpAny_getItem_of (u8 q) dd.mapOf j (h w' _ (I.tok _) f)
 .subst n;cases(show u=Ti.ref b from q);obtain⟨z,C,xs,i,dd⟩:=yl I.UW e;obtain⟨w',j,f⟩:=Xn.some_of (v:=v) (o:=(atKey xs k).map (·.2)) (by rw[l];exact i.val k);obtain⟨p,B,m⟩:=Yc.mp j;refine aeT (aad t) (w6 I.UW F) dd B ?_;rw[m];exact h w' _ (I.tok _) f
theorem Sb{Q:Ti->Tv->Prop}(n:A.units+1<cLine)(I:Inv X Z Y H s)(g:aaN H a y o)(m:RelV y u)(h:∀s',Inv X Z Y H s'->Q (.bool o.isSome) s'):
  wpAny (model X.prog X.w) A (Vw .In u (.ref a)) Q E s:=by
 rcases g with⟨Ub,k,e,j,l⟩|⟨Ub,k,b,e,j,p,l⟩
 .subst j;obtain⟨z,i,vs,f,dd⟩:=x9 I.UW e;refine wpAny_in_of (u8 m) i dd.mapOf ?_;rw[<-(f.val k).XX,<-l];exact h _ (I.tok _)
 .subst j;cases(show u=Ti.ref b from m);obtain⟨z,i,xs,f,dd⟩:=yl I.UW e;refine aks (aad n) (w6 I.UW p) i dd ?_;have q:=(f.val k).XX;rw[XH]at q;rw[<-q,<-l];exact h _ (I.tok _)
theorem oE{h':Heap}{t':Nat}{f:HO}(I:Inv X Z Y H s)(g:Q3 (H a))(h:Heap.SameBut a s.heap h')(i:∃q,h'.get? a=lD q)(new:ObjOk X.prog X.w (bq H a f) h' a f):
  Inv X Z Y (bq H a f) {s with heap:=h',toks:=t'}:=
 I.write (x:=a) (e:=a) g (.inl rfl) (λb q j z=>(h.2 b j).trans z) i new
theorem AF(z:Ub.length<=TL)(hd:(a==U3)=Tw)(b:KV Ub vs)(dd:h'.DictOf (cY P w) a vs):
  ObjOk P w H' h' a (.dK Ub):=⟨z,hd,vs,b,dd⟩
theorem Ep{H':Hp}{Q:Unit->Tv->Prop}(L:A.units+1<cLine)(I:Inv X Z Y H s)(g:ada H a y v H')(F:RelV y u)(rv:RelV v r)(h:∀s',Inv X Z Y H' s'->Q () s'):
  wpAny (model X.prog X.w) A (setItem (.ref a) u r) Q E s:=by
 rcases g with⟨Ub,k,e,B,l,C⟩|⟨Ub,k,b,e,B,K,l,C⟩
 .subst B C
  obtain⟨z,t,vs,f,dd⟩:=yj I.UW e;have m:vs.length<=TL:=by rw[<-f.length];exact z
  have p:(ju Ub k v).length<=TL:=by have:=lx Ub k v;omega
  refine wpAny_setItem_pairs (hsz:=m) (u8 F) dd λG i n=>h _ ?_;have M:∃q,G.get? a=lD q:=let⟨q,_,_,j,_⟩:=i;⟨q,j⟩
  exact oE I (by rw[e];exact True.intro) n M (AF p t (f.put k rv) i)
 .subst B C
  cases(show u=Ti.ref b from F);obtain⟨z,t,xs,f,dd⟩:=QV I.UW e;have m:xs.length<=TL:=by rw[<-Paired.length f];exact z
  have p:(ju Ub k v).length<=TL:=by have:=lx Ub k v;omega
  refine aeU (hsz:=m) (aad L) (w6 I.UW K) dd λG i n=>h _ ?_;obtain⟨q,S,T,j,R,P,O,_,N⟩:=i;refine oE I (by rw[e];exact True.intro) n ⟨q,j⟩ ⟨p,t,_,(f.put k K rv).keeps λc U J=>?_,q,S,T,j,R,P,O,N⟩;rw[az (QE J e (λz=>nomatch z))];exact J
end
section
variable{X:Cx}{Z:bg (Tt×Obj)}{σ:St}{H:Hp}{s:Tv}{a:Tt}{Y:bg (cN×V)}{k:cN}{u:Ti}{A:Uk}{E:Ti->Tv->Prop}
theorem QU{v:V}{b:bg Ti}{Q:Ti->Tv->Prop}(I:Inv X Z σ H s)(e:H a=lD (.dK Y))(j:RelV (kV k) u)(l:kz Y k=lD v)(hm:b=[]\/∃x,b=[x])
  (h:∀w' s',Inv X Z σ (bq H a (.dK (oX Y k))) s'->RelV v w'->Q w' s'):wpAny (model X.prog X.w) A (call (.builtin "dict.pop") (.ref a::u::b)) Q E s:=by
 obtain⟨z,B,vs,f,dd⟩:=yj I.UW e;obtain⟨w',n,m⟩:=Xn.some_of (v:=v) (o:=valueAt vs k) (by rw[<-l];exact f.val k);have r:(keyPart u).isSome=To:=by
  cases k with
  |inl i=>obtain⟨t,q⟩:=(show∃t,u=Ti.int i t from j);subst q;rfl
  |inr x=>obtain⟨t,q⟩:=(show∃t,u=Ti.str x t from j);subst q;rfl
 have ha:argsOk "dict.pop" ⟨.ref a::u::b,[]⟩:=by
  rcases hm with q|⟨x,q⟩
  .subst q;exact PySem.F.args_dict_pop_2 _ _
  .subst q;exact PySem.F.args_dict_pop_3 _ _ _
 refine aav aa0 dd.typeIs PySem.F.entry_dict_pop ha (meets_dict_pop_there (cY X.prog X.w) a (u8 j) b hm r)
  ⟨vs,w',dd,by rw[<-f.length];exact z,n,λC g p=>h w' _ ?_ m⟩
 have y:∃q,C.get? a=lD q:=let⟨q,_,_,hq,_⟩:=g;⟨q,hq⟩
 exact oE I (by rw[e];exact True.intro) p y (AF (Uv (Ia Y k) z) B (f.drop k) g)
end
def PZ(i:UD):Prop:=∀ov iv,subscripted i Tw ov iv=operate [ov,iv] (getItem ov iv)
theorem Dr{T l:String}
  (n:typeLookup (.type T) "__getitem__"=pure (lD (.builtin l))) (m:PZ slice)
  (h:wpAny (model prog w) A (eval value env) (λo s₁=>wpAny (model prog w) A (eval slice env) (λi s₂=>s₂.TypeIs o T/\wpAny (model prog w) A (getItem o i) Q E s₂) E s₁) E s):
  wpAny (model prog w) A (eval (.Subscript value slice pos) env) Q E s:=by
 refine Subscript_ (wpAny_mono h (λo s₁ g=>wpAny_mono g (λi s₂ a=>?_) λ_ _ x=>x) λ_ _ x=>x);obtain⟨j,a⟩:=a;unfold subscriptTail;refine Ld ?_;rw[getitemInPython_of_ne j.not_modules];refine Ld (ahq j n ?_);have e:wpAny (model prog w) A (subscripted slice Tw o i) (λr b=>wpAny (model prog w) A (letTemporaryGo value o r>>=λ_=>pure r) Q E b) E s₂:=by rw[m o i];exact wpAny_operating (wpAny_mono a (λr b f=>Ld (wpAny_letTemporaryGo (Tr f))) λ_ _ x=>x)
 first
  |exact Tr (Ld e)
  |exact Ld (Tr (Ld e))
  |exact Ld e
theorem yq(I:Inv X pins σ H s)(g:aaN H a y o):s.TypeIs (.ref a) "dict":=by
 rcases g with⟨Ub,k,e,_,_⟩|⟨Ub,k,b,e,_,_,_⟩
 .obtain⟨_,_,vs,_,dd⟩:=x9 I.UW e;exact dd.typeIs
 .obtain⟨_,_,xs,_,dd⟩:=yl I.UW e;exact dd.typeIs
def MV(f ty:TE):TE:=λb H Q=>f b H λx g=>ty b g λy e=>∃a v,x=.ref a/\aaN e a y (lD v)/\Q v e
def Rf(ty f:TE):TE:=λb H Q=>ty b H λy g=>f b g λx e=>∃a o,x=.ref a/\aaN e a y o/\Q (.bl o.isSome) e
def Mg(f ty e:TE):TS:=λD b H=>e b H λv i=>f b i λx h=>ty b h λy g=>∃a H4,x=.ref a/\ada g a y v H4/\D.nx b H4
section
variable{X:Cx}{o i e Z:UD}{pos Y ajr:Pos}{T U tv:TE}
theorem CL(t:X.A.units+1<cLine)(B:PE X o T)(hi:PE X i U)(w:PZ i):PE X (.Subscript o i pos) (MV T U):=by intro b s j H Q I h;refine Dr aar.lookup w (cz (B b s j H _ I h) λu m ⟨x,G,E,p,r⟩=>cz (hi b m j G _ E r) λM L ⟨y,F,l,n,a,v,C,g,q⟩=>?_);subst C;obtain rfl:=p;exact⟨yq l g,Ec t l g n λJ K I3 f=>⟨v,F,I3,f,q⟩⟩
theorem NA(r:X.A.units+1<cLine)(hi:PE X i U)(t:PE X o T):PC X .In i o (Rf U T):=by intro b s f H Q I h;refine cz (hi b s f H _ I h) λJ j ⟨y,E,B,l,p⟩=>cz (t b j f E _ B p) λu G ⟨x,C,w,m,a,q,v,g,n⟩=>?_;subst v;obtain rfl:=m;exact Sb r w g l λF I3=>⟨.bl q.isSome,C,I3,rfl,n⟩
theorem Lm(B:X.A.units+1<cLine)(E:PE X o T)(hi:PE X i U)(w:PE X Z tv)(C:Vg Z (lD (.Subscript o i Y)) pos.line X.env=pure Tw):
  PS X (.Assign [.Subscript o i Y] Z pos) (Mg T U tv):=by
 intro b s f H D I h;refine ac4 (cz (w b s f H _ I h) λr l ⟨v,N,K,rv,t⟩=>cz (E b l f N _ K t) λu j ⟨x,M,J,n,q⟩=>cz (hi b j f M _ J q) λQ P ⟨y,R,I3,m,a,L,F,g,p⟩=>?_) C;subst F;obtain rfl:=n;exact Ep B I3 g m rv λO G=>⟨f,L,G,p⟩
end
def pM(Ub a:bg (cN×V)):bg (cN×V):=a.foldl (λb kv=>ju b kv.1 kv.2) Ub
theorem KV.merge:∀{a:bg (cN×V)} {b:bg (cN×Ti)} {Ub:bg (cN×V)} {vs:bg (cN×Ti)},KV a b->KV Ub vs->KV (pM Ub a) (merged vs b):=by
 intro a b Ub vs r;unfold KV at r
 induction r generalizing Ub vs with
 |nil=>intro q;exact q
 | @cons p q ps qs h t ih=>
  intro r0;have e:KV (ju Ub p.1 p.2) (stored vs q.1 q.2):=by have:=r0.put p.1 h.2;rw[<-h.1];exact this
  exact ih e
theorem mv:∀(a Ub:bg (cN×V)),(pM Ub a).length<=Ub.length+a.length
 |[],Ub=>by show Ub.length<=Ub.length+0;omega
 |p::r,Ub=>by have e:=mv r (ju Ub p.1 p.2);have b:=lx Ub p.1 p.2;show(pM (ju Ub p.1 p.2) r).length<=_;rw[TR];omega
structure M1(X:Cx)(o:UD)(m:Str)(apos:Pos)(e:UD)(WJ:Pos):Prop where
 base:attributeBase o m X.env (eval o X.env)=eval o X.env
 few:((backTo WJ (Uc [e] X.env)).all (λx=> !x.1)&&(backToKw WJ (keywordEach [] X.env)).all (λx=>x.1.isSome)
  &&decide (([e]:bg UD).length+([]:bg aas).length+(if([]:bg aas).isEmpty then 0 else 1)<30))=To
 line:(apos.endLine==WJ.line)=To
 trees:backTo WJ (Uc [e] X.env)=[(Tw,eval e X.env)]
structure M2(X:Cx)(o:UD)(m:Str)(apos:Pos)(e f:UD)(WJ:Pos):Prop where
 base:attributeBase o m X.env (eval o X.env)=eval o X.env
 few:((backTo WJ (Uc [e,f] X.env)).all (λx=> !x.1)&&(backToKw WJ (keywordEach [] X.env)).all (λx=>x.1.isSome)
  &&decide (([e,f]:bg UD).length+([]:bg aas).length+(if([]:bg aas).isEmpty then 0 else 1)<30))=To
 line:(apos.endLine==WJ.line)=To
 trees:backTo WJ (Uc [e,f] X.env)=[(Tw,eval e X.env),(Tw,eval f X.env)]
def SN(H:Hp)(a:Tt):Prop:=(∃Ub,Rd H a (.dK Ub))\/∃Ub,Rd H a (.dT Ub)
theorem NC(I:Inv X pins σ H s)(d:SN H a):
  s.TypeIs (.ref a) "dict"/\(∀b,Ti.ref a=.ref b->∃ob,s.heap.get? b=lD ob/\ob.dict=Th)/\(a==U3)=Tw:=by
 rcases d with⟨Ub,e⟩|⟨Ub,e⟩
 .obtain⟨_,f,vs,_,dd⟩:=x9 I.UW e;refine⟨dd.typeIs,λb q=>?_,f⟩;cases q;obtain⟨ob,_,_,h,g,_⟩:=dd;exact⟨ob,h,g.2.1⟩
 .obtain⟨_,f,xs,_,dd⟩:=yl I.UW e;refine⟨dd.typeIs,λb q=>?_,f⟩;cases q;obtain⟨ob,_,_,h,g,_⟩:=dd;exact⟨ob,h,g.2.1⟩
def Fd(g ty:TE):TE:=λb H Q=>g b H λx f=>∃a,x=.ref a/\SN f a/\ty b f λy e=>∃Ub k v,e a=lD (.dK Ub)/\y=kV k/\kz Ub k=lD v/\Q v (bq e a (.dK (oX Ub k)))
section
variable{X:Cx}{o e f:UD}{Z WJ:Pos}{td ty tx:TE}
theorem FW(B:PE X o td)(C:PE X e ty)(m:M1 X o "pop" Z e WJ):PE X (.Call (.Attribute o "pop" Z) [e] [] WJ) (Fd td ty):=by intro b s i H Q I h;refine afE m.base m.few m.line WK aa0 PySem.F.type_dict_pop (cz (B b s i H _ I h) λu q ⟨x,L,j,t,a,G,d,A⟩=>?_);subst G;obtain rfl:=t;obtain⟨p,n,_⟩:=NC j d;refine⟨p,n,?_⟩;rw[m.trees];refine Calls.callWith_builtin rfl (Calls.evalArgs_plain (Calls.spliced_cons (cz (C b q i L _ j A) λP O ⟨y,R,K,r,Ub,k,v,J,E,l,w⟩=>Calls.spliced_nil ?_)));subst E;exact QU K J r l (.inl rfl) λM N I3 g=>⟨v,_,I3,g,w⟩
end
end L2
namespace L4
open PySem PySem.Spec PyProof.Rows L2 L3
def Jh(h:Heap)(e:Tt)(c:Ti)(dx:br Tt)(a:Ti)(hd:br Tt):Prop:=
 ∃ob fs,h.get? e=lD ob/\ob.cls=c/\ob.dict=dx/\ob.data=.fields fs/\fs[0]?=lD a/\
  match hd with
  |none=>fs[1]?=lD .none
  |some T=>fs[1]?=lD (.ref T)/\T≠e/\∃oT ts,h.get? T=lD oT/\oT.data=.fields ts/\ts[3]?=lD .none
structure Lft(l:bg Env)(e:Tt)(hd:br Tt)(h h':Heap):Prop where
 keep:∀b o,h.get? b=lD o->b≠e->hd≠lD b->b∉zw l->h'.get? b=lD o
 slot:∀b o,h.get? b=lD o->b≠e->hd≠lD b->∃sl,h'.get? b=lD {o with slots:=sl}
 here:∀b o,h.get? b=lD o->∃o',h'.get? b=lD o'
section
variable{M:abC}{A:Uk}{E:Ti->Tv->Prop}{s:Tv}
theorem jU
  (I:A.frames=lD (env::outer)) (B:s.heap.FunFrames base (env::outer)) (H:env.frame=lD L) (C:s.heap.get? e=lD ob) (p:ob.data=.fields fs) (m:1<fs.size) (J:fs[0]?=lD a0)
  (k:∀h' T,s.heap.objs.size<=T->Jh h' e ob.cls ob.dict a0 (lD T)->Lft (env::outer) e Th s.heap h'->Q () {s with heap:=h'}):
  wpAny M A (frameOf env>>=λfr=>entryPlaceOf L nx>>=λpl=>EntryCells.newEntry hv fr .none (rawInt L) .none pl>>=λb=>setField (.ref e) 1 b) (λ_ s'=>wpAny M A (setFlight (.ref e) Th) Q E s') E s:=by
 have j:e∉(env::outer).filterMap (·.frame):=λz=>by obtain⟨_,o,q,n⟩:=B.mem z;rw[C]at q;cases q;exact n fs p
 refine Ld (wpAny_frameOf_fun I B H λa S=>?_);refine Ld (wpAny_entryPlaceOf λpl P=>?_);unfold EntryCells.newEntry newFields;refine Ld (UG ?_ (P.sizeOk5 _ _ _ _ _));have y:=(S.2.1 e j).trans C;generalize hN:({cls:=.type "traceback",dict:=Th,data:=.fields ([hv,.ref L,.none,rawInt L,.none]++(if pl.isEmpty then TJ 6 Ti.none else pl)).toArray}:Obj)=N;have g:N.data=.fields ([hv,.ref L,.none,rawInt L,.none]++(if pl.isEmpty then TJ 6 Ti.none else pl)).toArray:=by rw[<-hN]
 have K:=da g;have w:=bt N y;refine Vt w p m ?_;have l:=U4 (bP y);have r:=c9 p (·.setIfInBounds 1 (Ti.ref a.objs.size));have i:=b9 (Obj.mapFields (·.setIfInBounds 1 (Ti.ref a.objs.size))) w (da r)
 have u:=
  (b7 (a.push N) (Obj.mapFields (·.setIfInBounds 1 (Ti.ref a.objs.size))) l.symm).trans (b5 a K)
 unfold setFlight;refine Ld (UC i r (x:=.ref a.objs.size) (by simp[m]) ?_);rw[av (show(Ti.ref a.objs.size !=Ti.none)=To from by simp)];have t:3<([hv,.ref L,.none,rawInt L,.none]++(if pl.isEmpty then TJ 6 Ti.none else pl)).toArray.size:=by simp only[TU,Tz,TR,Vq];omega
 refine Vt u g t ?_;have v:=b7 ((a.push N).update e (Obj.mapFields (·.setIfInBounds 1 (Ti.ref a.objs.size)))) (Obj.mapFields (·.setIfInBounds 3 ((Th:br Tt).elim Ti.none λf=>rawInt f))) l;have F:=b9 (Obj.mapFields (·.setIfInBounds 3 ((Th:br Tt).elim Ti.none λf=>rawInt f))) u (da (c9 g _));have Yg:∀b o,b≠e->a.get? b=lD o->(((a.push N).update e (Obj.mapFields (·.setIfInBounds 1 (Ti.ref a.objs.size)))).update a.objs.size (Obj.mapFields (·.setIfInBounds 3 ((Th:br Tt).elim Ti.none λf=>rawInt f)))).get? b=lD o:=λb o ne q=>by rw[b7 _ _ (U4 (bP q)),b7 _ _ ne.symm];exact bt N q
 refine k _ a.objs.size (by rw[S.1];exact TB _) ⟨_,_,v.trans i,Obj.cls_mapFields _ _,?_,r,?_,?_,l,_,_,F,c9 g _,?_⟩ ⟨λb o q ne _ G=>Yg b o ne ((S.2.1 b G).trans q),λb o q ne _=>?_,λb o q=>?_⟩
 .cases ob with
  |mk c d O h=>cases O<;>rfl
 .rw[Zw (by decide)];exact J
 .simp[m]
 .rw[YB t];rfl
 .obtain⟨h,z⟩:=S.2.2 b o q;exact⟨h,Yg b _ ne z⟩
 .by_cases ne:b=e
  .subst ne;exact⟨_,v.trans i⟩
  .obtain⟨h,z⟩:=S.2.2 b o q;exact⟨_,Yg b _ ne z⟩
theorem D6
  (v:A.frames=lD (env::outer)) (u:s.heap.FunFrames base (env::outer)) (h:env.frame=lD L) (F:Jh s.heap e c dx a0 hd)
  (k:∀h' T,s.heap.objs.size<=T->Jh h' e c dx a0 (lD T)->Lft (env::outer) e hd s.heap h'->Q () {s with heap:=h'}):wpAny M A (leaving env (.ref e)) Q E s:=by
 obtain⟨N,fs,q,I,H,d,w,r⟩:=F;subst I H;cases hd with
 |none=>have r:=r;unfold leaving noteFrame;simp only[h];refine Ld (Ld (UC q d r ?_));rw[ax (by decide)];exact jU v u h q d (UP.mp r).1 w k
 |some T=>
  obtain⟨r,C,O,B,g,dT,p⟩:=r;unfold leaving noteFrame;simp only[h];refine Ld (Ld (UC q d r ?_));rw[av (show(Ti.ref T !=Ti.none)=To from by simp)];refine Ld (UC g dT p ?_);rw[ax (show¬((Ti.none==rawInt L)=To) from by simp[rawInt])];refine Ld (Vt g dT (UP.mp p).1 ?_);have a:∀b,b≠T->(s.heap.update T (Obj.mapFields (·.setIfInBounds 3 Ti.none))).get? b=s.heap.get? b:=λb ne=>b7 _ _ ne.symm;have f:=b9 (Obj.mapFields (·.setIfInBounds 3 Ti.none)) g (da (c9 dT _));have m:∀b o,s.heap.get? b=lD o->(∀vs,o.data≠.fields vs)->b≠T:=λb o z n y=>by rw[y,g]at z;cases z;exact n B dT
  refine jU v (u.of_keeps λb o z n=>⟨o,(a b (m b o z n)).trans z,rfl⟩) h ((a e C.symm).trans q) d (UP.mp r).1 w λh' J t K i=>k h' J (by rw[Heap.size_after_update]at t;exact t) K ⟨λb o z l j G=>?_,λb o z l j=>?_,λb o z=>?_⟩
  .exact i.keep b o ((a b λy=>j (by rw[y])).trans z) l (by simp) G
  .exact i.slot b o ((a b λy=>j (by rw[y])).trans z) l (by simp)
  .by_cases y:b=T
   .subst y;exact i.here b _ f
   .exact i.here b o ((a b y).trans z)
end
theorem Lft.UW{P:T5}{w:Uu}{l:bg Env}{e:Tt}{hd:br Tt}{H:Hp}{h h':Heap}(L:Lft l e hd h h')(m:YE P w H h)(ne:H e=Th)(i:∀T,hd=lD T->H T=Th)(j:∀b∈zw l,H b=Th):YE P w H h':=λb u q=>by
 have free:∀c v,H c=lD v->c≠e/\hd≠lD c/\c∉zw l:=λc v z=>⟨(λy=>by rw[y,ne]at z;cases z),(λy=>by rw[i c y]at z;cases z),(λy=>by rw[j c y]at z;cases z)⟩;refine(m b u q).Yg (λc v n z=>?_) (λ_ z=>z) λ_ _ z=>z;rcases n with y|y
 .rw[y]at z⊢;obtain⟨g,f,a⟩:=free b u q;exact L.keep b v z g f a
 .obtain⟨g,f,a⟩:=free c _ y;exact L.keep c v z g f a
def lB(P:T5)(w:Uu):xC:=λa H s E x b=>
 ∃e c dx a0 T H',x=.ref e/\s.heap.get? e=Th/\s.heap.get? T=Th/\Jh b.heap e c dx a0 (lD T)/\H' e=Th/\H' T=Th/\
  b.os=s.os/\AllBare b.gens/\Un (zw a) [] H H' s.heap b.heap/\YE P w H' b.heap/\E c dx H'
theorem MU{P:T5}{w:Uu}{K:Tg}{mg:Str->br Ti}{base:Heap}{N:bg Str}{i:Str}{a:Xi}{f:Tt}{v:Ti}{A:Uk}{outer:bg Env}{g:Tv}{G:Hp}{E:XK}
  {l:bg (Tt×Obj)} {J:L2.St} {H:Hp} {s:Tv} {e:Tt} {c C:Ti} {dx hd:br Tt} (I:L2.Inv (gy (lB P w) P w K mg base N i a f v A outer g G E) l J H s)
  (F:Jh s.heap e c dx C hd) (u:g.heap.get? e=Th) (S:∀T,hd=lD T->g.heap.get? T=Th) (ne:H e=Th) (Q:∀T,hd=lD T->H T=Th) (q:E c dx H):
  (gy (lB P w) P w K mg base N i a f v A outer g G E).xe (.ref e) s:=by
 have Z:=I.ok.frames;have Y:=I.stack;refine D6 (L:=g.heap.objs.size) Z Y rfl F λh' T t F' L=>?_;have R:=L.UW I.UW ne Q I.Z9;have X:H T=Th:=I.UW.fresh t;have p:∀b o,g.heap.get? b=lD o->b<g.heap.objs.size:=λb o z=>bP z;have h:∀b o,g.heap.get? b=lD o->b≠e/\hd≠lD b:=λb o z=>⟨(λy=>by rw[y,u]at z;cases z),(λy=>by rw[S b y]at z;cases z)⟩;have sz:=I.sz;refine⟨e,c,dx,C,T,H,rfl,u,cv (Uv sz t),F',ne,X,I.os,I.bare,?_,R,q⟩;have B:=I.base;refine⟨λb o z n r _=>?_,λb o z n U _=>?_,λb o z n _=>?_,λb o z _=>?_,B.ZR,B.Zv,B.ZS⟩
 .have j:=B.keep b o z n r (λy=>nomatch y)
  refine L.keep b o j (h b o z).1 (h b o z).2 λy=>?_;rcases T1.mp (I.Zs b y) with y|y
  .have y:b=g.heap.objs.size:=y;exact a6 (p b o z) (by rw[y];exact Vo _)
  .exact r y
 .obtain⟨sl,j⟩:=B.slot b o z n U (λy=>nomatch y);obtain⟨m,M⟩:=L.slot b _ j (h b o z).1 (h b o z).2;exact⟨m,M⟩
 .exact B.free b o z n (λy=>nomatch y)
 .obtain⟨O,j⟩:=B.there b o z (λy=>nomatch y);exact L.here b O j
theorem nM{P:T5}{w:Uu}{K:Tg}{mg:Str->br Ti}{base:Heap}{N:bg Str}{g:Str}{a:Xi}{f:Tt}{l:Ti}{A:Uk}{outer:bg Env}{h:Tv}{p:Hp}{E:XK}:
  gz (lB P w) (gy (lB P w) P w K mg base N g a f l A outer h p E) E:=by
 rintro j r H s x t I ⟨e,c,dx,v,T,B,rfl,le,lT,F,ne,nT,os,bare,un,UW,q⟩;have n:=I.adp (ch:=[]) os un UW bare (λb z=>nomatch z);have old:∀b,s.heap.get? b=Th->h.heap.get? b=Th:=λb z=>by
  cases y:h.heap.get? b with
  |none=>rfl
  |some o=>obtain⟨u,i⟩:=I.base.there b o y (λy=>nomatch y);rw[z]at i;cases i
 exact MU n F (old e le) (λm z=>by cases z;exact old T lT) ne (λm z=>by cases z;exact nT) q
theorem ON(x:ObjOk P w H h a o):∃ob,h.get? a=lD ob:=by
 cases o with
 |lst xs=>obtain⟨_,_,_,_,e⟩:=x;exact⟨_,e⟩
 |tup xs=>obtain⟨_,_,_,ob,e,_⟩:=x;exact⟨ob,e⟩
 |dK Ub=>obtain⟨_,_,_,_,o,_,_,e,_⟩:=x;exact⟨o,e⟩
 |dT Ub=>obtain⟨_,_,_,_,o,_,_,e,_⟩:=x;exact⟨o,e⟩
 |set S n=>obtain⟨o,_,_,_,e,_⟩:=x;exact⟨o,e⟩
 |ins C dx fs=>obtain⟨_,_,_,e,_⟩:=x;exact⟨_,e⟩
 |own y=>exact x
 |xd fs=>obtain⟨_,⟨o,_,_,e,_⟩,_⟩:=x;exact⟨o,e⟩
 |rng lo hi=>obtain⟨_,_,_,e⟩:=x;exact⟨_,e⟩
 |frz ob u=>exact⟨ob,x.1⟩
 |tbl ps=>exact⟨_,x⟩
 |met f y=>exact⟨_,x⟩
 |ext φ=>exact x.2.1
 |exw φ=>exact x.2.1
theorem yw(k:YE P w H h)(n:h.get? a=Th):H a=Th:=by
 cases q:H a with
 |none=>rfl
 |some o=>obtain⟨b,z⟩:=ON (k a o q);rw[n]at z;cases z
section
variable{M:abC}{A:Uk}{E:Ti->Tv->Prop}{s:Tv}
theorem JG{base:Heap}{env:Env}{outer:bg Env}{L e:Tt}{c B:Ti}{dx hd:br Tt}{Q:Unit->Tv->Prop}
  (v:A.frames=lD (env::outer)) (u:s.heap.FunFrames base (env::outer)) (h:env.frame=lD L) (F:Jh s.heap e c dx B hd)
  (k:∀h' T,s.heap.objs.size<=T->Jh h' e c dx B (lD T)->Lft (env::outer) e hd s.heap h'->Q () {s with heap:=h'}):
  wpAny M A (noteFrame (.ref e) env) (λ_ s2=>wpAny M A (setFlight (.ref e) Th) Q E s2) E s:=by
 obtain⟨O,fs,q,J,I,d,w,r⟩:=F;subst J I;cases hd with
 |none=>have r:fs[1]?=lD .none:=r;unfold noteFrame;simp only[h];refine Ld (UC q d r ?_);rw[ax (by decide)];exact jU v u h q d (UP.mp r).1 w k
 |some T=>
  obtain⟨r,G,P,C,g,dT,p⟩:=r;unfold noteFrame;simp only[h];refine Ld (UC q d r ?_);rw[av (show(Ti.ref T !=Ti.none)=To from by simp)];refine Ld (UC g dT p ?_);rw[ax (show¬((Ti.none==rawInt L)=To) from by simp[rawInt])];refine Ld (Vt g dT (UP.mp p).1 ?_);have a:∀b,b≠T->(s.heap.update T (Obj.mapFields (·.setIfInBounds 3 Ti.none))).get? b=s.heap.get? b:=λb ne=>b7 _ _ ne.symm;have f:=b9 (Obj.mapFields (·.setIfInBounds 3 Ti.none)) g (da (c9 dT _));have m:∀b o,s.heap.get? b=lD o->(∀vs,o.data≠.fields vs)->b≠T:=λb o z n y=>by rw[y,g]at z;cases z;exact n C dT
  refine jU v (u.of_keeps λb o z n=>⟨o,(a b (m b o z n)).trans z,rfl⟩) h ((a e G.symm).trans q) d (UP.mp r).1 w λh' K t N i=>k h' K (by rw[Heap.size_after_update]at t;exact t) N ⟨λb o z l j H=>?_,λb o z l j=>?_,λb o z=>?_⟩
  .exact i.keep b o ((a b λy=>j (by rw[y])).trans z) l (by simp) H
  .exact i.slot b o ((a b λy=>j (by rw[y])).trans z) l (by simp)
  .by_cases y:b=T
   .subst y;exact i.here b _ f
   .exact i.here b o ((a b y).trans z)
theorem Pn{e T:Tt}{c l:Ti}{dx:br Tt}{Q:Unit->Tv->Prop}(F:Jh s.heap e c dx l (lD T))
  (k:∀h',Jh h' e c dx l (lD T)->(∀b,b≠T->h'.get? b=s.heap.get? b)->(∃o,h'.get? T=lD o)->Q () {s with heap:=h'}):wpAny M A (setFlight (.ref e) Th) Q E s:=by
 obtain⟨n,fs,q,t,p,d,u,r,j,w,v,i,dT,m⟩:=F;unfold setFlight;refine Ld (UC q d r ?_);rw[av (show(Ti.ref T !=Ti.none)=To from by simp)];have h:=(UP.mp m).1;refine Vt i dT h ?_;have g:∀b,b≠T->(s.heap.update T (Obj.mapFields (·.setIfInBounds 3 ((Th:br Tt).elim Ti.none λf=>rawInt f)))).get? b=s.heap.get? b:=λb ne=>b7 _ _ ne.symm;have a:=b9 (Obj.mapFields (·.setIfInBounds 3 ((Th:br Tt).elim Ti.none λf=>rawInt f))) i (da (c9 dT _));refine k _ ⟨n,fs,(g e j.symm).trans q,t,p,d,u,r,j,_,_,a,c9 dT _,?_⟩ g ⟨_,a⟩;rw[YB h];rfl
end
section
variable{P:T5}{w:Uu}{K:Tg}{mg:Str->br Ti}{base:Heap}{N:bg Str}{qual:Str}{scope:Xi}{f:Tt}{cd:Ti}{A:Uk}{outer:bg Env}{s0:Tv}{H0:Hp}{E:XK}{CX:xC}
  {σ:L2.St} {H:Hp} {s:Tv} {h':Heap} {X:Cx}
theorem zb(I:L2.Inv X [] σ H s)(S:Tt->Prop)(L:X.ex=[])(F:∀p∈X.pn,¬S p.1)(keep:∀b o,s.heap.get? b=lD o->¬S b->b∉zw X.stack->h'.get? b=lD o)
  (a:∀b o,s.heap.get? b=lD o->¬S b->∃sl,h'.get? b=lD {o with slots:=sl}) (t:∀b o,s.heap.get? b=lD o->∃o',h'.get? b=lD o')
  (Y:∀b,S b->X.s₀.heap.get? b=Th) (R:¬S X.env.locals) (U:∀x c,X.env.cells.lookup x=lD c->¬S c) (T:∀b,S b->H b=Th):L2.Inv X [] σ H {s with heap:=h'}:=by
 have O:∀b o,X.s₀.heap.get? b=lD o->¬S b:=λb o z y=>by rw[Y b y]at z;cases z
 have j:∀b,b∉X.ex:=λb z=>by rw[L]at z;cases z
 have B:=I.base;have e:∀x c,X.env.cells.lookup x=lD c->∀v,s.heap.IsCell c v->h'.IsCell c v:=λx c z v ⟨o,J,M⟩=>by obtain⟨sl,q⟩:=a c o J (U x c z);exact⟨_,q,M⟩
 refine⟨I.ok,I.os,I.bare,⟨λb o z n h _=>?_,λb o z n hf _=>?_,λb o z n x=>B.free b o z n x,λb o z x=>?_,B.ZR,B.Zv,B.ZS⟩,?_,λx c z=>?_,I.free,I.Xe,λp G=>?_,λb u q=>?_,I.len⟩
 .have g:=B.keep b o z n h (j b)
  refine keep b o g (O b o z) λy=>?_;rcases T1.mp (I.Zs b y) with y|y
  .rw[y]at z;exact a6 (bP z) (Nat.not_lt_of_le I.ok.above)
  .exact h y
 .obtain⟨sl,g⟩:=B.slot b o z n hf (j b);obtain⟨C,Q⟩:=a b _ g (O b o z);exact⟨C,Q⟩
 .obtain⟨o',g⟩:=B.there b o z x;exact t b o' g
 .obtain⟨m,hn,Z⟩:=I.loc
  obtain⟨o,es,ep,J,M,r⟩:=hn;obtain⟨sl,q⟩:=a _ o J R;refine⟨m,⟨_,es,ep,q,M,r⟩,λi x v a1 a2 a3=>?_⟩;obtain⟨u,rv,l⟩:=Z i x v a1 a2 a3;refine⟨u,rv,?_⟩;rcases l with l|⟨kd,c,z,y⟩
  .exact .inl l
  .exact .inr ⟨kd,c,z,e x c z _ y⟩
 .obtain⟨v,y⟩:=I.cell x c z;exact⟨v,e x c z v y⟩
 .obtain⟨z,n,ne,h,dd⟩:=I.pin p G
  rw[Uo]at G;refine⟨keep p.1 p.2 z (F p G) (λy=>?_),n,ne,h,dd⟩;rcases T1.mp (I.Zs _ y) with y|y
  .exact ne y
  .exact h y
 .have free:∀c v,H c=lD v->¬S c/\c∉zw X.stack:=λc v z=>⟨(λy=>by rw[T c y]at z;cases z),(λy=>by rw[I.Z9 c y]at z;cases z)⟩
  refine(I.UW b u q).Yg (λc v hc z=>?_) (λ_ z=>z) λ_ _ z=>z;rcases hc with y|y
  .rw[y]at z⊢;exact keep b v z (free b u q).1 (free b u q).2
  .exact keep c v z (free c _ y).1 (free c _ y).2
end
section
variable{M:abC}{A:Uk}{E:Ti->Tv->Prop}{h:Heap}{g:Array YF}{d:acK}{t:Nat}{os:abt}
theorem Gy{C U e:Tt}{j:Obj}{B w y v:Str}{N1 N2:Tt}{b1 l b2 a:bg Ti}{d1 Z:Bool}{u r:bg Str}{q p:bg Ti}{a1 a2:Bool}{c1 c2:br Bool}{o n:br Tt}{P O N L K J I H G F:br Ti}{f b:String}{Q:Bool->Tv->Prop}
  (Y:h.get? C=lD (excClassObj B w C N1 b1 l d1 u q a1 c1 o P O N L K f)) (m:h.get? U=lD (excClassObj y v U N2 b2 a Z r p a2 c2 n J I H G F b)) (S:h.get? e=lD j) (T:j.cls=.ref C)
  (X:a.contains (.type "BaseException")=To) (hm:(Ti.ref C::l).contains (.ref U)=To) (R:Q To ⟨h,g,d,t,os⟩):wpAny M A (excMatches (.ref e) (.ref U)) Q E ⟨h,g,d,t,os⟩:=by
 have i:(Ti.ref U::a).contains (.type "BaseException")=To:=by rw[XB,X,Yj]
 have ft:=tc_notTuple;unfold excMatches
 repeat (first|(specialize Vx S ?_;rw[T])|specialize Vx m ?_|(specialize WO m ?_;rw[i])|(specialize WO Y ?_;rw[hm])|wp_step)
 exact R
end
abbrev Cx.marked(X:Cx)(e:Tt):Cx:={X with A:=X.A.mark (lD (.ref e)),calm:=Tw,xe:=λ_ _=>False}
section
variable{X:Cx}{Z:L2.St}{H:Hp}{s:Tv}{h':Heap}{e:Tt}
theorem t6(I:L2.Inv X [] Z H s)(e:Tt):L2.Inv (Cx.marked X e) [] Z H s:=
 ⟨⟨I.ok.mod,I.ok.kind,I.ok.glob,I.ok.blt,I.ok.above,I.ok.inj,I.ok.has,I.ok.cab,(λz=>nomatch z),I.ok.frames,I.ok.stk,I.ok.exf,I.ok.bs,I.ok.bsz,I.ok.abm,I.ok.abg,I.ok.Y0,I.ok.frf⟩,I.os,I.bare,I.base,I.loc,I.cell,I.free,I.Xe,I.pin,I.UW,I.len⟩
theorem sY(ok:X.Ok)(I:L2.Inv (Cx.marked X e) [] Z H s):L2.Inv X [] Z H s:=
 ⟨ok,I.os,I.bare,I.base,I.loc,I.cell,I.free,I.Xe,I.pin,I.UW,I.len⟩
theorem ED(I:L2.Inv X [] Z H s){g:Obj}(h:∀p∈X.pn,p.1≠e)(q:s.heap.get? e=lD g)(ne:H e=Th)(t:X.s₀.heap.get? e=Th)(l:e≠X.env.locals)(m:∀x c,X.env.cells.lookup x=lD c->c≠e):L2.Inv X [] Z (bq H e (.frz g (.own e))) s:=by
 have j:∀b o,X.s₀.heap.get? b=lD o->b≠e:=λb o z y=>by rw[y,t]at z;cases z
 have a:∀b o,H b=lD o->b≠e:=λb o z y=>by rw[y,ne]at z;cases z
 have B:=I.base;refine⟨I.ok,I.os,I.bare,⟨B.keep,B.slot,λb o z n x=>?_,B.there,λb xs z=>?_,λb o u z=>?_,λb ps z=>?_⟩,I.loc,I.cell,?_,λx c z=>?_,λp i=>?_,λb u z=>?_,I.len⟩
 .rw[az (j b o z)];exact B.free b o z n x
 .have:=B.ZR b xs z;rw[az (a b _ this)];exact this
 .have:=B.Zv b o u z;rw[az (a b _ this)];exact this
 .obtain⟨f,y⟩:=B.ZS b ps z;exact⟨f,by rw[az (a b _ y)];exact y⟩
 .rw[az l.symm];exact I.free
 .rw[az (m x c z)];exact I.Xe x c z
 .obtain⟨z,n,r⟩:=I.pin p i;rw[Uo]at i;exact⟨z,by rw[az (h p i)];exact n,r⟩
 .by_cases y:b=e
  .subst y;rw[aF]at z;cases z;exact⟨q,g,q⟩
  .rw[az y]at z;exact(I.UW b u z).Yg (λ_ _ _ y=>y) (λc y=>by rw[az (a c _ y)];exact y) λc xs y=>by rw[az (a c _ y)];exact y
theorem vg{M:abC}{A:Uk}{E:Ti->Tv->Prop}(I:L2.Inv X [] Z H s){n:Str}{i:Nat}{pos:Pos}{Q:Unit->Tv->Prop}(hN:X.N.Nodup)(hi:X.N[i]?=lD n)(hlo:X.env.kindOf n=lD .local)
  (k:∀s',L2.Inv X [] (Z.set i Th) H s'->Q () s'):wpAny M A (do bindName X.env n .none;unbindBehindTheSuite X.env n pos) Q E s:=by
 obtain⟨m,hn,hl⟩:=id I.loc;have ae2:(X.env.scope.kind==.class||(X.env.scope.kind==.module&&X.env.locals !=X.env.globals))=Tw:=by rw[I.ok.kind];rfl
 refine wpAny_nameGoes_keeps hlo hn ae2 λh2 v hm S=>k _ ?_;have B:=I.base;have cne:=I.cne;have old:∀b o,X.s₀.heap.get? b=lD o->h2.get? b=s.heap.get? b:=λb o z=>S.2 b (T8 (T9 (bP z) I.ok.above));have iσ:i<Z.length:=by rw[I.len];exact(Tn.mp hi).1
 refine⟨I.ok,I.os,I.bare,⟨λb o z n nf x=>(old b o z).trans (B.keep b o z n nf x),λb o z n hf x=>?_,B.free,λb o z x=>?_,B.ZR,B.Zv,B.ZS⟩,⟨_,hm,λj y v' a1 a2 a3=>?_⟩,λy c z=>?_,I.free,I.Xe,λp hp=>?_,λb u z=>?_,by rw[UJ];exact I.len⟩
 .obtain⟨sl,y⟩:=B.slot b o z n hf x;exact⟨sl,(old b o z).trans y⟩
 .obtain⟨o',y⟩:=B.there b o z x;exact⟨o',(old b o z).trans y⟩
 .by_cases hj:j=i
  .subst hj;rw[UL iσ]at a2;cases a2
  .rw[Ue (db hj)]at a2
   obtain⟨u',r',q⟩:=hl j y v' a1 a2 a3;refine⟨u',r',?_⟩;rcases q with⟨kd,z⟩|⟨kd,c,z,w⟩
   .refine .inl ⟨kd,?_⟩;have:y≠n:=λz=>hj (sj hN a1 (z▸hi));simp[this,z]
   .exact .inr ⟨kd,c,z,w.sameBut S (cne y c z)⟩
 .obtain⟨w,y'⟩:=I.cell y c z;exact⟨w,y'.sameBut S (cne y c z)⟩
 .obtain⟨z,n,ne,r⟩:=I.pin p hp;exact⟨(S.2 p.1 ne).trans z,n,ne,r⟩
 .have free:∀c u,H c=lD u->c≠X.env.locals:=λc u z y=>by rw[y,I.free]at z;cases z
  refine(I.UW b u z).Yg (λc w hc y=>(S.2 c ?_).trans y) (λ_ y=>y) λ_ _ y=>y;rcases hc with y'|y'
  .rw[y'];exact free b u z
  .exact free c _ y'
end
def BI(K:Tg)(C:Tt)(m:bg Ti):Prop:=∃nm q N bs hd sn sub ab col dd k0 k1 k2 k3 k5 id,K.lookup C=lD (excClassObj nm q C N bs m hd sn sub ab col dd k0 k1 k2 k3 k5 id)
structure Apart(X:Cx)(a:Tt):Prop where
 n0:X.s₀.heap.get? a=Th
 nL:a≠X.env.locals
 nC:∀y c,X.env.cells.lookup y=lD c->c≠a
 nP:∀p∈X.pn,p.1≠a
theorem tE(I:L2.Inv X pins σ H s)(e:X.ex=[])(n:s.heap.get? a=Th):Apart X a:=by
 have ne:∀b o,s.heap.get? b=lD o->b≠a:=λb o z y=>by rw[y,n]at z;cases z
 refine⟨?_,?_,λy c z=>?_,λp h=>?_⟩
 .cases z:X.s₀.heap.get? a with
  |none=>rfl
  |some o=>obtain⟨g,y⟩:=I.base.there a o z (by rw[e];simp);exact a6 rfl (ne a g y)
 .obtain⟨m,⟨o,_,_,z,_⟩,_⟩:=I.loc;exact(ne _ o z).symm
 .obtain⟨v,o,f,_⟩:=I.cell y c z;exact ne c o f
 .exact ne _ _ (I.pin p (UK _ h)).1
abbrev Cx.pinned(X:Cx)(l:bg (Tt×Obj)):Cx:={X with pn:=l}
theorem Kr(I:L2.Inv X pins σ H s):L2.Inv (Cx.pinned X (X.pn++pins)) [] σ H s:=
 ⟨⟨I.ok.mod,I.ok.kind,I.ok.glob,I.ok.blt,I.ok.above,I.ok.inj,I.ok.has,I.ok.cab,I.ok.hd,I.ok.frames,I.ok.stk,I.ok.exf,I.ok.bs,I.ok.bsz,I.ok.abm,I.ok.abg,I.ok.Y0,I.ok.frf⟩,I.os,I.bare,I.base,I.loc,I.cell,I.free,I.Xe,(λp a=>I.pin p (by rw[Uo]at a;exact a)),I.UW,I.len⟩
theorem ip(ok:X.Ok)(I:L2.Inv (Cx.pinned X (X.pn++pins)) [] σ H s):L2.Inv X pins σ H s:=
 ⟨ok,I.os,I.bare,I.base,I.loc,I.cell,I.free,I.Xe,(λp a=>I.pin p (by rw[Uo];exact a)),I.UW,I.len⟩
end L4
namespace L4
open PySem PySem.Spec PySem.W PyProof.Rows L2 L3
section
variable{prog:T5}{w:Uu}{A:Uk}{E:Ti->Tv->Prop}{h:Heap}{g:Array YF}{d:acK}{t:Nat}{os:abt}{a C:Tt}{o:Obj}{K:Tg}
  {n1 q1:Str} {N1:Tt} {b1 Z:bg Ti} {d1:Bool} {s1:bg Str} {u1:bg Ti} {a1:Bool} {c1:br Bool} {x1:br Tt} {i0 i1 i2 i3 i5:br Ti} {Y:String}
theorem Bz{M:abC}{b:Ti}{Q:Unit->Tv->Prop}(j:h.get? C=lD (excClassObj n1 q1 C N1 b1 Z d1 s1 u1 a1 c1 x1 i0 i1 i2 i3 i5 Y))(i:Z.contains (.type "BaseException")=To)
  (e:h.get? a=lD o) (f:o.cls=.ref C) (k:Q () ⟨h,g,d,t,os⟩):wpAny M A (checkBuiltinCall "BaseException.__getattribute__" ⟨[.ref a,b],[]⟩) Q E ⟨h,g,d,t,os⟩:=by
 have n:builtinKind "BaseException.__getattribute__"=lD .slot:=by left
 have m:splitId "BaseException.__getattribute__"=lD ("BaseException","__getattribute__"):=by left
 have l:(Ti.ref C::Z).contains (.type "BaseException")=To:=by rw[XB,i,Yj]
 have p:=F.args_bexc_ga (.ref a) b;simp only[checkBuiltinCall,n,m];refine Ld ?_;unfold isInstance
 repeat (first|(specialize Vx e ?_;rw[f])|(specialize WO j ?_;rw[l])|wp_step)
 exact k
structure abY(K:Tg)(C:Tt)(m:bg Ti):Prop where
 cl:BI K C m
 be:m.contains (.type "BaseException")=To
 ga:findIn K (.ref C) "__getattribute__"=lD (lD (.builtin "BaseException.__getattribute__"))
 gt:findIn K (.ref C) "__getattr__"=lD Th
 cs:findIn K (.ref C) "__class__"=lD (lD (.builtin "object.__class__"))
 ob:mroIn K C (.type "object")=lD To
end
end L4
namespace HT
open PySem PySem.Spec PyProof.Rows
section
variable{prog:T5}{w:Uu}{A:Uk}{E:Ti->Tv->Prop}{s:Tv}
theorem getItem_tuple_all{t e:Tt}{a:Array Ti}{n l:Ti}{lo hi:br Int}{Q:Ti->Tv->Prop}(b:IsTup s.heap t a)(p:s.heap.IsSliceOf e n l .none)(pl:Zm n lo)(q:Zm l hi)
  (o:sIx a.size 0 lo=0/\sIx a.size a.size hi=a.size) (h:Q (.ref t) s):wpAny (model prog w) A (getItem (.ref t) (.ref e)) Q E s:=by
 obtain⟨r,f,g,u⟩:=id p;have i:s.TypeIs (.ref e) "slice":=⟨r,f,g⟩;unfold getItem
 try specialize UY ?_
 first|refine Ld (Tr ?_)|skip
 refine Ld (afC b.typeIs (by decide) ?_);refine Ld (UR (name:=Str.ofString "__getitem__") b.typeIs UU
  (UZ UU b.typeIs entry_tuple_getitem ?_ (args_tuple_getitem _ _)))
 show wpAny _ _ (Ul.Tuple.tupleItemsOf (.ref t)>>=_) _ _ s;refine Ld (tupleItemsOf_ b ?_);refine Ld (XU i ?_);rw[av (by decide)];refine Ld (jy p pl q ?_);have j:((((sIx a.size 0 lo:Nat):Int)==0&&(1:Int)==1&&(sIx a.size a.size hi - sIx a.size 0 lo)==a.size)=To):=by rw[o.1,o.2];simp
 show wpAny _ _ (if(((sIx a.size 0 lo:Nat):Int)==0&&(1:Int)==1&&(sIx a.size a.size hi - sIx a.size 0 lo)==a.size)=To then _ else _) _ _ s;rw[av j];refine Ld (m:=Ul.Tuple.tupleIsExact _) ?_;unfold Ul.Tuple.tupleIsExact;refine Ld (XU b.typeIs (Tr ?_));rw[av (by decide)];refine Ld (YT ?_);exact Tr ⟨_,rfl,Tr h⟩
end
end HT
namespace L3
open PySem PySem.Spec PyProof.Rows L2
def Ri(K:Tg):V->br Int->br Int->Hp->VK->Prop:=λx lo hi H Q=>∃(a:Tt) (xs:bg V),x=.ref a/\XY K H a xs/\(HT.sIx xs.length 0 lo=0/\HT.sIx xs.length xs.length hi=xs.length)/\Q (.ref a) H
theorem Im{X:Cx}:NW X (Ri X.K):=by
 intro e s o H x v t p lo hi u Q I g m pl i h;obtain⟨a,xs,rfl,j,l,q⟩:=h;cases g;obtain⟨n,r,f,w⟩:=I.tuple j;have b:n.toArray.size=xs.length:=by rw[TU];exact r.length.symm
 refine⟨"tuple",_,UU.lookup,f.typeIs,?_⟩;exact HT.getItem_tuple_all f m pl i (by rw[b];exact l) ⟨.ref a,H,I,rfl,q⟩
def Qv(K:Tg):V->br Int->br Int->Hp->VK->Prop:=λx lo hi H Q=>OD K x lo hi H Q\/Ri K x lo hi H Q
theorem Jo{X:Cx}:NW X (Qv X.K):=by
 intro a s b H x v f e lo hi g Q I h j pl i q;rcases q with q|q
 .exact xH a s b H x v f e lo hi g Q I h j pl i q
 .exact Im a s b H x v f e lo hi g Q I h j pl i q
def SB:D->br Int->br Int->br RV
 |.list ds,lo,hi=>lD (.ow (p8 ds lo hi))
 |.tuple ds,lo,hi=>lD (.fz (.tuple (p8 ds lo hi)))
 |_,_,_=>Th
theorem JB{ds:bg D}{lo hi:br Int}(h:HT.sIx ds.length 0 lo=0/\HT.sIx ds.length ds.length hi=ds.length):p8 ds lo hi=ds:=by unfold p8;rw[h.1,h.2,aaD,abI,Xh]
theorem Qh{K:Tg}:Ru K (Qv K) SB:=by
 intro O H x lo hi dx rv Q n b e q;cases dx with
 |list ds=>exact .inl (oU O H x lo hi _ rv Q n b e q)
 |tuple ds=>
  cases e;by_cases f:HT.sIx ds.length 0 lo=0/\HT.sIx ds.length ds.length hi=ds.length
  .obtain⟨a,xs,rfl,h,g⟩:=EI b;rw[JB f]at q;refine .inr ⟨a,xs,rfl,h.1,by rw[g.length];exact f,q.at (.tup h g)⟩
  .refine .inl (oU O H x lo hi (.tuple ds) _ Q n b ?_ q)
   show(if kR ds.length lo hi=To then Th else lD (RV.fz (.tuple (p8 ds lo hi))))=_;have z:kR ds.length lo hi=Tw:=by unfold kR;exact a4 f
   rw[z,ax TV]
 |_=>cases e
section
variable{K:Tg}{E:XK}
end
end L3
namespace L9
open PySem PySem.Spec PyProof.Rows
section
variable{M:abC}{A:Uk}{E:Ti->Tv->Prop}{env:Env}
variable{nm q:Str}{C N:Tt}{bs Z:bg Ti}{hdct:Bool}{sn:bg Str}{sub:bg Ti}{ab:Bool}{col:br Bool}{dd:br Tt}{k0 k1 k2 k3 k5:br Ti}{newId:String}
theorem i8(r:Z.contains (.type "BaseException")=To)(n:A.handled=Th)
  (h:wpAny M A x (λv s₁=>∃e ob,v=.ref e/\s₁.heap.get? C=lD (excClassObj nm q C N bs Z hdct sn sub ab col dd k0 k1 k2 k3 k5 newId)/\s₁.heap.get? e=lD ob/\ob.cls=.ref C/\(∃fs,ob.data=.fields fs/\fs[1]?=lD Ti.none)/\E (.ref e) s₁) E s):
  wpAny M A (raiseStmt env (lD x) Th) Q E s:=by
 have f:(Ti.ref C::Z).contains (.type "BaseException")=To:=by rw[XB,r,Yj]
 unfold raiseStmt;refine Ld (wpAny_mono h (λv s₁ a=>?_) λ_ _ x=>x);obtain⟨e,ob,rfl,l,o,j,⟨fs,i,b⟩,p⟩:=a;obtain⟨y,w,m⟩:=ob;dsimp only at j i;subst j i;obtain⟨B,g,d,t,u⟩:=s₁
 repeat (first|specialize Vx o ?_|specialize Vx l ?_|(specialize WO l ?_;rw[f])|wp_step)
 rw[b]
 repeat wp_step
 exact aer n p
end
section
variable{prog:T5}{w:Uu}{A:Uk}{E:Ti->Tv->Prop}{h:Heap}{g:Array YF}{d:acK}{t:Nat}{os:abt}
variable{nm q:Str}{C N:Tt}{bs S Z:bg Ti}{hdct:Bool}{sn:bg Str}{sub:bg Ti}{ab:Bool}{col:br Bool}{dd:br Tt}{k0 k1 k2 k3 k5:br Ti}{B R newId Y Y1 X:String}{U:bg Ti}
theorem qZ(y:Xk R newId X U)(j:Z.contains (.type R)=To)(F:Xk B Y Y1 Z)(T:afF h Z S)
  (i:h.get? C=lD (excClassObj nm q C N bs S hdct sn sub ab col dd k0 k1 k2 k3 k5 newId)) (hn:h.Ns N mN) (hi:mN "__init__"=lD (.ref fI)) (p:h.get? fI=lD oI) (n:oI.cls=.type "function")
  (H:∀h' e,Heap.MadeExcOf h h' e (.ref C) rest->wpAny (model prog w) A (call (.ref fI) (.ref e::rest)) (λr s'=>r=.none/\Q (.done (.ret (.ref e))) s') E ⟨h',g,d,t,os⟩) (hrest:rest.length<=TL):
  wpAny (model prog w) A (Ul.«type.__call__» ⟨.ref C::rest,[]⟩) Q E ⟨h,g,d,t,os⟩:=by
 repeat (first|specialize Vx i ?_|specialize wpAny_madeBy_exc i ?_|wp_step)
 refine codeAny_call_builtin_code (abD.quiet_builtin _ y.quiet) (wpAny_check_new_subU y j T i ?_);refine codeAny_exc_new_subU y j F T i ?_ hrest
 have a:=bt {cls:=.ref C,data:=.fields #[.ref h.objs.size,.none,.none,.none,.bool Tw,.none]}
  (bt {cls:=.type "tuple",data:=.seq rest.toArray} i)
 have v:=bt {cls:=.ref C,data:=.fields #[.ref h.objs.size,.none,.none,.none,.bool Tw,.none]}
  (bt {cls:=.type "tuple",data:=.seq rest.toArray} p)
 have f:((h.push {cls:=.type "tuple",data:=.seq rest.toArray}).push {cls:=.ref C,data:=.fields #[.ref h.objs.size,.none,.none,.none,.bool Tw,.none]}).Ns N mN:=
  let⟨o,es,ep,e,r⟩:=hn;⟨o,es,ep,bt _ (bt _ e),r⟩
 have l:((h.push {cls:=.type "tuple",data:=.seq rest.toArray}).push
   {cls:=.ref C,data:=.fields #[.ref h.objs.size,.none,.none,.none,.bool Tw,.none]}).get? (h.objs.size+1)=lD
   {cls:=.ref C,data:=.fields #[.ref h.objs.size,.none,.none,.none,.bool Tw,.none]}:=by heap_get
 have u:(Ti.ref C::S).contains (.ref C)=To:=by simp
 have m:=T.keeps (h':=(h.push {cls:=.type "tuple",data:=.seq rest.toArray}).push {cls:=.ref C,data:=.fields #[.ref h.objs.size,.none,.none,.none,.bool Tw,.none]})
  λb o e=>bt _ (bt _ e)
 unfold isInstance
 repeat (first|specialize Vx l ?_|(specialize WO a ?_;rw[u])|wp_step)
 refine wpAny_typeLookup_tail a f m F.mroIs F.init.lookup ?_;rw[hi];refine UY (Ld ?_);unfold bindSpecial;refine Ld (XU ⟨_,v,n⟩ ?_);rw[av (by decide)];refine Tr (Ld (wpAny_mono (H _ (h.objs.size+1) ⟨λb o I=>bt _ (bt _ I),cv (Xm _),h.objs.size,l,cv (TB _),?_⟩) (λr s' G=>?_) λ_ _ x=>x))
 .exact bt _ (Heap.get?_push_at rfl rfl)
 .obtain⟨rfl,J⟩:=G
  wp_walk
  exact J
theorem Aq(l:Xk R newId X U)(i:Z.contains (.type R)=To)(F:Xk B Y Y1 Z)(T:afF h Z S)
  (a:h.get? C=lD (excClassObj nm q C N bs S hdct sn sub ab col dd k0 k1 k2 k3 k5 newId)) (hn:h.Ns N mN) (hi:mN "__init__"=lD (.ref fI)) (f:h.get? fI=lD oI) (b:oI.cls=.type "function")
  (j:∀h' e,Heap.MadeExcOf h h' e (.ref C) rest->wpAny (model prog w) (A.under (.builtin "type.__call__" ⟨.ref C::rest,[]⟩)) (call (.ref fI) (.ref e::rest)) (λr s'=>r=.none/\Q (.ref e) s') E ⟨h',g,d,t,os⟩) (hrest:rest.length<=TL):
  wpAny (model prog w) A (call (.ref C) rest) Q E ⟨h,g,d,t,os⟩:=by
 have o:=tc_lookup;have n:=tc_bind (.ref C);have m:(⟨h,g,d,t,os⟩:Tv).TypeIs (.ref C) "type":=⟨_,a,rfl⟩;refine X7 (codeAny_of_tree ?_)
 repeat (any_goals (first|assumption|specialize Vx a ?_|wp_step))
 refine⟨rfl,?_⟩;refine codeAny_call_builtin_at (abD.quiet_builtin _ (by left)) entry_typeCall (wpAny_check_type_call_sub a (qZ (hrest:=hrest) l i F T a hn hi f b λh' e hm=>?_));exact j h' e hm
end
section
variable{prog:T5}{w:Uu}{A:Uk}{E:Ti->Tv->Prop}{s:Tv}{env:Env}
variable{nm q:Str}{C N:Tt}{bs Y Z:bg Ti}{hdct:Bool}{sn:bg Str}{sub:bg Ti}{ab:Bool}{col:br Bool}{dd:br Tt}{k0 k1 k2 k3 k5:br Ti}{B Bn newId X Y1 U:String}{S:bg Ti}
theorem zQ(Fn:Xk Bn newId U S)(t:Z.contains (.type Bn)=To)(F:Xk B X Y1 Z)
  (y:Y.contains (.type "BaseException")=To) (o:A.handled=Th) (u:(backTo WJ (Uc args env)).any (·.1)=Tw) (hi:mN "__init__"=lD (.ref fI)) (p:oI.cls=.type "function")
  (h:wpAny (model prog w) A (eval (.Name x np) env) (λf s₁=>f=.ref C/\wpAny (model prog w) A (evalArgs (.ref C) To (backTo WJ (Uc args env)) [])
   (λa s₂=>a.kw=[]/\a.pos.length<=TL/\s₂.heap.get? C=lD (excClassObj nm q C N bs Y hdct sn sub ab col dd k0 k1 k2 k3 k5 newId)/\s₂.heap.Ns N mN/\s₂.heap.get? fI=lD oI/\afF s₂.heap Z Y/\
    ∀h' e,Heap.MadeExcOf s₂.heap h' e (.ref C) a.pos->wpAny (model prog w) (A.under (.builtin "type.__call__" ⟨.ref C::a.pos,[]⟩)) (call (.ref fI) (.ref e::a.pos)) (λr s'=>r=.none/\∃ob,s'.heap.get? C=lD (excClassObj nm q C N bs Y hdct sn sub ab col dd k0 k1 k2 k3 k5 newId)/\s'.heap.get? e=lD ob/\ob.cls=.ref C/\(∃fs,ob.data=.fields fs/\fs[1]?=lD Ti.none)/\E (.ref e) s') E {s₂ with heap:=h'}) E s₁) E s):
  wpAny (model prog w) A (exec (.Raise (lD (.Call (.Name x np) args [] WJ)) Th pos) env) Q E s:=by
 rw[arm_exec_Raise]
 first
  |refine Ld (V3 (i8 y o (Ld (wpAny_mono (aaw (wpAny_mono h (λf s₁ i=>?_) λ_ _ x=>x)) (λv l b=>Ld (V3 (Tr b))) λ_ _ x=>x))))
  |(simp only[evalOpt,afG];refine Ld (V3 (i8 (C:=C) (nm:=nm) (q:=q) (N:=N) (bs:=bs) (hdct:=hdct) (sn:=sn) (sub:=sub) (ab:=ab) (col:=col) (dd:=dd) (k0:=k0) (k1:=k1) (k2:=k2) (k3:=k3) (k5:=k5) (newId:=newId) y o (Ld (wpAny_mono (aaw (wpAny_mono h (λf s₁ i=>?_) λ_ _ x=>x)) (λv l b=>Ld (V3 (Tr b))) λ_ _ x=>x)))))
  |(refine Ld (V3 (i8 y o ?_));refine Ld (wpAny_mono (aaw (wpAny_mono h (λf s₁ i=>?_) λ_ _ x=>x)) (λv l b=>Ld (V3 (Tr b))) λ_ _ x=>x))
 obtain⟨rfl,i⟩:=i;unfold callWith;refine Ld (UY (wpAny_mono i (λa s₂ j=>Ld (V3 ?_)) λ_ _ x=>x));obtain⟨H,R⟩:=a;obtain⟨n,m,G,hn,J,T,j⟩:=j;obtain rfl:=n;obtain⟨hp,g,d,tk,os⟩:=s₂;simp only[u];refine Ld (wpAny_keeperOf_exc G ?_);refine Ld (Aq (hrest:=m) Fn t F T G hn hi J p λh' e hm=>wpAny_mono (j h' e hm) (λr s' ⟨I,ob,P,O,M,L,K⟩=>⟨I,Ld (UY (wpAny_point (Tr ?_)))⟩) λ_ _ x=>x);exact⟨e,ob,rfl,P,O,M,L,K⟩
end
end L9
namespace L9
open PySem PySem.W PyProof.Rows Builtin Builtin.ObjectAttr
abbrev Jk:bg Ti:=[.type "ValueError",.type "Exception",.type "BaseException",.type "object"]
section
variable{prog:T5}{w:Uu}{A:Uk}{K:Frag}{B C x:Tt}{s:Tv}{R:aaG->Tv->Prop}{Z:ClassData}{name:Str}{Y:Tok}{v:Ti}{fs:Array Ti}
theorem Me(X:K.In s.heap)(E:clsIn K C=lD Z)(hm:Z.mro=.ref C:: .ref B::Jk)(hd:Z.hasDict=To)(hn:findIn K (.ref C) name=lD Th)(i:s.heap.get? x=lD ⟨.ref C,Th,.fields fs,#[]⟩)
  (J:∀h' tk',h'.get? x=lD ⟨.ref C,lD s.heap.objs.size,.fields fs,#[]⟩->h'.Ns1 s.heap.objs.size (λy=>if y=name then lD v else Th)->(∀b o,b≠x->s.heap.get? b=lD o->h'.get? b=lD o)->R (.ok (.ret .none)) {s with heap:=h',toks:=tk'}):
  codeAny (model prog w) A (.call (.builtin "object.__setattr__") ⟨[.ref x,.str name Y,v],[]⟩) R s:=by
 have I:InstAt s.heap x ⟨.ref C,Th,.fields fs,#[]⟩ C Th:=⟨i,rfl,rfl,True.intro⟩;have m:=PySem.F.store_object;have sub:Looks (model prog w) s.heap (isInstance (.ref x) (.type "object")) To:=I.type.andThen (looks_mroIn X (by unfold mroIn;rw[E,Option.bind_some,hm,ax (by simp)];simp));refine WI m.slot.plain m.entry (@check_slot (model prog w) _ _ s "object.__setattr__" "object" "__setattr__" (.ref x) [.str name Y,v] [] _ m.kind m.split sub (m.args (.ref x) (.str name Y) v) ?_);have l:Looks (model prog w) s.heap (mroOf (.ref C)) Z.mro:=(looks_clsIn X E).andThen .now;rw[osa_eq,refuse_eq];refine Ld (Ld (I.type.here (Ld (l.here ?_))));rw[hm,aiz,aiz,PySem.F.store_ValueError.passes];refine Tr (Ld (I.type.here (Ld ((looks_findIn X hn).here (Ld (Tr ?_))))));unfold storeInOwnDict;refine Ld (Tr (Ld ?_));unfold ownDictForStores instanceDict;refine Ld (air i (Ld ((looks_clsIn X E).here ?_)));rw[hd,ax (by decide)];show wpAny _ _ (if(!To|| !typeHasDict (.ref C))=To then pure Th else(do
        let d<-alloc {cls:=Ti.type "dict",data:=Data.dict #[]}
        update x λo=>{cls:=o.cls,dict:=lD d,data:=o.data,slots:=o.slots}
        dictMade (.ref C) x d)) _ _ _
 rw[ax (by simp[typeHasDict])];obtain⟨h,g,d,t,os⟩:=s;dsimp only at X i J I sub l⊢;have f:(h.push {cls:=.type "dict",data:=.dict #[]}).get? x=lD ⟨.ref C,Th,.fields fs,#[]⟩:=bt _ i;have a:=T8 (bP i);refine Ld (wpAny_alloc' ?_);refine Ld (wpAny_update' f ?_);refine Tr ?_
 have q:((h.push {cls:=.type "dict",data:=.dict #[]}).update x λo=>{cls:=o.cls,dict:=lD h.objs.size,data:=o.data,slots:=o.slots}).get? h.objs.size
   =lD {cls:=.type "dict",data:=.dict #[]}:=
  (Heap.get?_update_ne _ _ _ _ a.symm).trans (Heap.get?_push_at rfl rfl)
 have p:((h.push {cls:=.type "dict",data:=.dict #[]}).update x λo=>{cls:=o.cls,dict:=lD h.objs.size,data:=o.data,slots:=o.slots}).Ns h.objs.size (λ_=>Th):=
  ⟨_,#[],_,q,rfl,λe N=>a6 N (by simp),λ_=>rfl⟩
 unfold storeInDict newKeyGuard;refine Ld (Tr (Ld (wpAny_nsSet1 (Heap.Ns1.of_empty p) λh' j H=>?_)));obtain⟨oD,P,S,n,r,u⟩:=j.count (Within.cons name v Within.nil);refine Ld (aga n (by rw[r];exact agb (Uv u (by rw[TR,Vq,Vr];omega))) ?_);refine Tr (J h' _ ?_ ?_ λb ob G L=>?_)
 .exact(H.2 x a).trans (b9 _ f rfl)
 .obtain⟨M,Q,T,e1,e2,e3,O,U⟩:=j;exact⟨M,Q,T,e1,e2,e3,O,λy=>by rw[U y]⟩
 .exact(H.2 b (T8 (bP L))).trans ((Heap.get?_update_ne _ _ _ _ G).trans (bt _ L))
theorem Kv(X:K.In s.heap)(g:clsIn K C=lD Z)(hm:Z.mro=.ref C:: .ref B::Jk)(hd:Z.hasDict=To)(a:findIn K (.ref C) "__setattr__"=lD (lD (.builtin "object.__setattr__")))(hn:findIn K (.ref C) name=lD Th)(e:s.heap.get? x=lD ⟨.ref C,Th,.fields fs,#[]⟩)
  (f:∀h' tk',h'.get? x=lD ⟨.ref C,lD s.heap.objs.size,.fields fs,#[]⟩->h'.Ns1 s.heap.objs.size (λy=>if y=name then lD v else Th)->(∀b o,b≠x->s.heap.get? b=lD o->h'.get? b=lD o)->Q () {s with heap:=h',toks:=tk'}):
  wpAny (model prog w) A (setAttr (.ref x) name v) Q E s:=
 set_plain X (⟨e,rfl,rfl,True.intro⟩:InstAt s.heap x ⟨.ref C,Th,.fields fs,#[]⟩ C Th) a (Me X g hm hd hn e f)
end
section
variable{prog:T5}{w:Uu}{A:Uk}{E:Ti->Tv->Prop}{h:Heap}{g:Array YF}{d:acK}{t:Nat}{os:abt}
variable{nm q:Str}{C N:Tt}{bs bm Z:bg Ti}{hdct:Bool}{sn:bg Str}{sub:bg Ti}{ab:Bool}{col:br Bool}{dd:br Tt}{k0 k1 k2 k3 k5:br Ti}{B newId Y Y1:String}
theorem Eg(F:Xk B Y Y1 Z)(T:afF h Z bm)
  (p:h.get? C=lD (excClassObj nm q C N bs bm hdct sn sub ab col dd k0 k1 k2 k3 k5 newId)) (j:h.get? e=lD ⟨.ref C,Th,.fields fs,#[]⟩) (l:fs[0]?=lD (.ref t0))
  (m:∀h' fs',h'.get? e=lD ⟨.ref C,Th,.fields fs',#[]⟩->fs'[0]?=lD (.ref h.objs.size)->(∀i,i≠0->fs'[i]?=fs[i]?)->(∀b o,b≠e->h.get? b=lD o->h'.get? b=lD o)->Q .none ⟨h',g,d,t,os⟩) (hrest:rest.length<=TL):
  wpAny (model prog w) A (call (.builtin Y1) (.ref e::rest)) Q E ⟨h,g,d,t,os⟩:=by
 refine X7 (WI F.init.plain F.initEntry (wpAny_check_init_subU F T p j rfl ?_));unfold Ul.«BaseException.__init__»;dsimp only;rw[ax (by simp)];unfold newTuple Ul.BaseException.bexcPut;have f:=(UP.mp l).1;have a:(h.push {cls:=.type "tuple",data:=.seq rest.toArray}).get? e=lD ⟨.ref C,Th,.fields fs,#[]⟩:=bt _ j;refine Ld (UG (Ld (Ld (UC a rfl l (Ld (Vt a rfl f ?_))))) (by show rest.toArray.size<=TL;rw[TU];exact hrest));refine WH (Tr (m _ (fs.setIfInBounds 0 (.ref h.objs.size)) ?_ (by simp[f]) (λi hi=>by rw[Zw (db hi)]) λb o n z=>?_))
 .exact b9 (Obj.mapFields (·.setIfInBounds 0 (.ref h.objs.size))) a rfl
 .exact(b7 _ _ (db n)).trans (bt _ z)
end
end L9
namespace L9
open PySem PySem.Spec PyProof.Rows L2
def RK(v:V):Prop:=v=.V8\/∃i:Int,v=.int i/\i.natAbs.log2<1920
theorem K5{i:Int}(h:i.natAbs.log2<1920):(Str.ofString (toString i)).length<=5000:=by have e:=int_text_length_le (by decide) h;rw[PySem.ofString_length];omega
theorem Nw(I:Inv X pins σ H s)(r:RelV v u)(f:RK v)
  (h:∀(y:Str) (t:Tok) (a:Tv),y.length<=5000->Inv X pins σ H a->Q (.str y t) a):wpAny (model X.prog X.w) A (formatField u Str.empty) Q E s:=by
 rcases f with rfl|⟨i,rfl,hi⟩
 .obtain rfl:=r;exact wpAny_formatField_none (h _ _ _ (by decide) (I.tok _))
 .obtain⟨t,rfl⟩:=r;exact formatField_int_small hi (h _ _ _ (K5 hi) (I.tok _))
def PJ(X:Cx)(es:bg UD)(n:Nat)(t:L2.St->Hp->(Hp->Prop)->Prop):Prop:=
 ∀(a:bg (Tt×Obj)) (s:Tv) (e:L2.St) (H:Hp) (b:Str) (Q:Hp->Prop),Inv X a e H s->b.length+n<=1000000->t e H Q->
  wpAny (model X.prog X.w) X.A (joinParts b (evalEach es X.env)) (λv h=>∃(y:Str) (g:Tok) (f:Hp),v=.str y g/\Inv X a e f h/\Q f) X.xe s
section
variable{X:Cx}{e:UD}{es:bg UD}{n:Nat}{te:TE}{t:L2.St->Hp->(Hp->Prop)->Prop}{pos:Pos}
theorem NU:PJ X [] 0 (λ_ H Q=>Q H):=by intro a s f H b Q I g h;exact joinParts_nil ⟨_,_,H,rfl,I.tok _,h⟩ (by rw[Vr];omega)
theorem OH(i:x.length<=5000)(g:PJ X es n t):PJ X (.Constant (.str x) k pos::es) (n+5000) t:=by intro a s f H b Q I j h;refine joinParts_consE (joinParts_cons (Calls.Constant_str ?_));have e:=akt b x;exact⟨by rw[Vr];omega,g a _ f H (b++x) Q (I.tok _) (by omega) h⟩
theorem Ov(i:PE X e te)(g:PJ X es n t):PJ X (.FormattedValue e (-1) Th pos::es) (n+5000) (λσ H Q=>te σ H λv H1=>RK v/\t σ H1 Q):=by intro a s σ H b Q I A h;refine joinParts_consE (joinParts_cons (FormattedValue_plain (cz (i a s σ H _ I h) λu o ⟨v,H1,j,r,f,q⟩=>?_)));refine Nw j r f λy m p w l=>?_;have e:=akt b y;exact⟨by rw[Vr];omega,g a _ σ H1 (b++y) Q l (by omega) q⟩
theorem K0(h:PJ X (g::e2::es) n t)(hn:n<=900000):PE X (.JoinedStr (g::e2::es) pos) (λσ H Q=>t σ H λH1=>∀y:Str,Q (.str y) H1):=by intro a s σ H Q I b;refine JoinedStr_many (cz (h a s σ H Str.empty _ I (by show 0+n<=1000000;omega) b) λv l ⟨y,j,H1,f,i,q⟩=>?_);subst f;exact⟨.str y,H1,i,⟨_,rfl⟩,q y⟩
end
def JK(C e:Tt):Heap->Prop:=λh=>∃fs t0,h.get? e=lD ⟨.ref C,Th,.fields fs,#[]⟩/\fs[0]?=lD (.ref t0)/\fs[1]?=lD .none
def QS(C e p:Tt):Heap->Prop:=λh=>∃fs a0,h.get? e=lD ⟨.ref C,lD p,.fields fs,#[]⟩/\fs[0]?=lD a0/\fs[1]?=lD .none
structure XC(K:Tg)(C B fI:Tt):Prop where
 obj:∃nm q N bs sn sub ab col dd k0 k1 k2 k3 k5,K.lookup C=lD (excClassObj nm q C N bs (.ref B::Jk) To sn sub ab col dd k0 k1 k2 k3 k5 "ValueError.__new__")/\aae K N=To/\T7 K N "__init__"=lD (lD (.ref fI))
 base:YL K B Jk "ValueError.__new__"=To
 sa:Us K (.ref C) "__setattr__"=lD (lD (.builtin "object.__setattr__"))
theorem zG{K:Tg}(q:YL K B Jk n=To):Yt K Jk (.ref B::Jk)=To:=by
 unfold YL at q;split at q
 .rename_i dd f e b
  split at q
  .simp only[T6,beq_iff_eq,ac3]at q;obtain⟨⟨⟨⟨⟨_,_⟩,_⟩,_⟩,UW⟩,a⟩:=q;unfold Yt;dsimp only;rw[b];dsimp only;rw[UW,a,show Yt K Jk Jk=To from by unfold Yt;rw[dN,WW],dN,VD,VD,Yj]
  .cases q
 .cases q
section
variable{X:Cx}{B C fI:Tt}{pos S U:Pos}{Y:UD}{Z:bg UD}{t:TA}{b:Str}
theorem Gh(h:H a=lD o):bq H a o=H:=by
 funext c;by_cases z:c=a
 .rw[z,aF,h]
 .rw[az z]
def N5(C:Tt)(t:TA):TE:=λf H Q=>t f H λvs a=>∃e y,vs=[.ref e,.str y]/\a e=lD (.ext (JK C e))/\Q .V8 a
theorem EX{pl:Sem Bool}(hg:Gl X b)(hm:X.mg b=lD (.ref B))(hr:ZM X.K B (.type "type")=To)(hf:ZN X.K (.ref B) (.type "type") "__init__"=lD (.val (.builtin "ValueError.__init__")))
  (hs:WM X.K (.ref B) "__getattribute__"=lD (lD (.builtin "type.__getattribute__"))) (A:XC X.K C B fI) (ha:PA X (Y::Z) t)
  (dX:Uc (Y::Z) X.env=(Tw,eval Y X.env)::Uc Z X.env:=by rfl) (ZH:(backTo pos (Uc Z X.env)).any (·.1)=Tw:=by rfl) (l:(b==("__debug__":Str))=Tw:=by decide)
  (ht:eval (.Call (.Attribute (.Name b S) "__init__" U) (Y::Z) [] pos) X.env=(do
   let ov<-eval (.Name b S) X.env
   standAt U.atName
   let(f,first)<-holding [ov] (getMethod ov "__init__" pl)
   callWith pos f first (backTo pos (Uc (Y::Z) X.env)) (backToKw pos (keywordEach [] X.env))):=by rfl):
  PE X (.Call (.Attribute (.Name b S) "__init__" U) (Y::Z) [] pos) (N5 C t):=by
 intro a s G H Q I h;refine Ye (pl:=pl) (jM I hg hm ?_ l) ht;refine PySem.W.method_cls I.Yu hs (PySem.W.cls_value I.Yu hr hf (by decide) ?_);have E:=ha pos a {s with toks:=s.toks+1} G H _ (I.tok _) h;rw[dX]at E⊢;refine Calls.callWith_builtin (by show(Tw||(backTo pos (Uc Z X.env)).any (·.1))=Tw;rw[ZH]<;>rfl) (Calls.evalArgs_plain (cz E λus v ⟨vs,F,i,r,e,y,ev,m,q⟩=>?_));subst ev;obtain⟨O,u2,rfl,r1,R⟩:=Cj r;obtain rfl:O=.ref e:=r1;obtain⟨tk,rfl⟩:=R;obtain⟨⟨fs,t0,g1,g2,g3⟩,_,gk⟩:=(show ObjOk X.prog X.w F v.heap e (.ext (JK C e)) from i.UW e _ m);obtain⟨nm,q',N,bs,sn,sub,ab,col,dd,k0,k1,k2,k3,k5,lk,UW,hin⟩:=A.obj;have T:=abJ i.Yu (zG A.base);obtain⟨h2,g,d,j,os⟩:=v;refine Eg Wh T (i.Yu _ _ lk) g1 g2 (λh' n p e2 e3 e4=>?_) (by show 1<=TL;decide);refine⟨.V8,F,?_,rfl,q⟩;have w:=i.write (x:=e) (e:=e) (o:=.ext (JK C e)) (h':=h') (t':=j) (by rw[m];exact True.intro) (.inl rfl) (λb u hb z=>e4 b u hb z) ⟨_,p⟩ ⟨⟨n,_,p,e2,by rw[e3 1 (by decide)];exact g3⟩,⟨_,p⟩,λh1 h2 ⟨f1,P,M,L,J⟩ hk=>⟨f1,P,hk _ M,L,J⟩⟩;rw[Gh m]at w;exact w
def QK(C:Tt)(f:Str)(i h:TE):TS:=λD a H=>h a H λv j=>i a j λx g=>∃e,x=.ref e/\g e=lD (.ext (JK C e))/\∀p,g p=Th->p≠e->D.nx a (bq (bq g e (.ext (QS C e p))) p (.xd [(f,v)]))
theorem Lp(Q:XC X.K C B fI)(hn:Us X.K (.ref C) f=lD Th)(ha:PE X o ta)(hv:PE X value tv)(hs:Vg value (lD (.Attribute o f pos')) pos.line X.env=pure Tw):PS X (.Assign [.Attribute o f pos'] value pos) (QK C f ta tv):=by
 intro l s G H D I h;refine aaA (cz (hv l s G H _ I h) λu s1 ⟨v,H1,I1,rv,q⟩=>cz (ha l s1 G H1 _ I1 q) λov p ⟨x,T,A,rx,e,ex,j,q2⟩=>?_) hs;subst ex;obtain rfl:=rx;obtain⟨⟨fs,t0,R,g2,g3⟩,_,gk⟩:=(show ObjOk X.prog X.w T p.heap e (.ext (JK C e)) from A.UW e _ j);obtain⟨nm,q',N,bs,sn,sub,ab,col,dd,k0,k1,k2,k3,k5,lk,UW,hin⟩:=Q.obj;obtain⟨F,hc,L,M⟩:∃F,adI X.K C=lD F/\F.mro=.ref C:: .ref B::Jk/\F.hasDict=To:=by unfold adI;rw[lk];exact⟨_,rfl,rfl,rfl⟩
 refine Kv A.Yu hc L M Q.sa hn R λh' tk' O e2 E=>?_;have pe:=U4 (bP R);have r:=A.UW.fresh (TB _);refine⟨G,_,?_,q2 p.heap.objs.size r pe⟩;have m:∀b o,p.heap.get? b=lD o->b≠p.heap.objs.size:=λb o z=>T8 (bP z);refine A.un ⟨λb o z n _ _=>E b o (λy=>by rw[y,j]at n;cases n) z,λb o z n _ _=>⟨o.slots,E b o (λy=>by rw[y,j]at n;cases n) z⟩,λb o z n _=>?_,λb o z _=>?_,λb xs z=>?_,λb o u z=>?_,λb ps z=>⟨#[],?_⟩⟩ ?_
 .rw[az (m b o z),az (λy=>by rw[y,j]at n;cases n)];exact n
 .by_cases y:b=e
  .subst y;exact⟨_,O⟩
  .exact⟨o,E b o y z⟩
 .rw[az (λy=>by rw[y,r]at z;cases z),az (λy=>by rw[y,j]at z;cases z)];exact z
 .rw[az (λy=>by rw[y,r]at z;cases z),az (λy=>by rw[y,j]at z;cases z)];exact z
 .rw[az (λy=>by rw[y,r]at z;cases z),az (λy=>by rw[y,j]at z;cases z),z];simp
 .intro a o z
  by_cases P:a=p.heap.objs.size
  .subst P
   rw[aF]at z;cases z;refine⟨_,e2,λg=>?_⟩;show Xn (match g==f with|true=>lD v|false=>V7 g []) (if g=f then lD u else Th);cases i:g==f with
   |true=>rw[av (beq_iff_eq.mp i)];exact rv
   |false=>rw[ax (λw=>by rw[beq_iff_eq.mpr w]at i;cases i)];exact True.intro
  .rw[az P]at z
   by_cases J:a=e
   .subst J;rw[aF]at z;cases z;exact⟨⟨fs,_,O,g2,g3⟩,⟨_,O⟩,λh1 h2 ⟨f1,t1,z1,z2,z3⟩ hk=>⟨f1,t1,hk _ z1,z2,z3⟩⟩
   .rw[az J]at z
    have own:∀b,T b=lD (.own a)->b≠e/\b≠p.heap.objs.size:=λb y=>⟨(λk=>by rw[k,j]at y;cases y),(λk=>by rw[k,r]at y;cases y)⟩;refine(A.UW a o z).Yg (λb w i y=>E b w (λk=>?_) y) (λb y=>by rw[az (own b y).2,az (own b y).1];exact y) λb xs y=>by rw[az (λk=>by rw[k,r]at y;cases y),az (λk=>by rw[k,j]at y;cases y)];exact y
    rcases i with i|i
    .exact J (i.symm.trans k)
    .exact(own b i).1 k
end
end L9
namespace L9
open PySem PySem.Spec PyProof.Rows L2 L4
def P4(H:Hp)(e:Tt):Hp:=λa=>if a=e then Th else H a
theorem sL:P4 H e e=Th:=av rfl
theorem jI(h:a≠e):P4 H e a=H a:=ax h
theorem AY{K:Tg}(X:K.In h)(G:h.Ns N mg)(e:T7 K N n=lD (lD v)):mg n=lD v:=by
 obtain⟨o,p,q,f,j,_,g⟩:=G;unfold T7 at e;split at e
 .rename_i l m b a
  have:=(X _ _ a).symm.trans f;cases this;cases j;split at e
  .rename_i r i;cases e;rw[<-g];unfold nsFind findBy;rw[<-acr,i];rfl
  .split at e<;>cases e
 .cases e
theorem PN{K:Tg}(i:Wm K (.ref f)=To)(l:K.lookup f=lD o):o.cls=.type "function":=by unfold Wm acZ at i;dsimp only at i;rw[l]at i;exact TQ (beq_iff_eq.mp i)
section
variable{X:Cx}{Z:bg (Tt×Obj)}{Y:L2.St}{H:Hp}{s:Tv}{h':Heap}{e:Tt}{o:HO}
theorem LC(I:L2.Inv X Z Y H s)(k:∀b u,s.heap.get? b=lD u->h'.get? b=lD u)(n:s.heap.get? e=Th)(new:ObjOk X.prog X.w (bq H e o) h' e o):L2.Inv X Z Y (bq H e o) {s with heap:=h',toks:=t'}:=by
 have hn:=yw I.UW n;have ne:∀b u,s.heap.get? b=lD u->b≠e:=λb u z y=>by rw[y,n]at z;cases z
 refine I.un ⟨λb u z _ _ _=>k b u z,λb u z _ _ _=>⟨u.slots,k b u z⟩,λb u z q _=>by rw[az (ne b u z)];exact q,λb u z _=>⟨u,k b u z⟩,λb xs z=>?_,λb u v z=>?_,λb ps z=>⟨#[],?_⟩⟩ ?_
 .rw[az (λy=>by rw[y,hn]at z;cases z)];exact z
 .rw[az (λy=>by rw[y,hn]at z;cases z)];exact z
 .rw[az (λy=>by rw[y,hn]at z;cases z),z];simp
 .intro a u z
  by_cases y:a=e
  .subst y;rw[aF]at z;cases z;exact new
  .rw[az y]at z;refine(I.UW a u z).Yg (λb w _ q=>k b w q) (λb q=>by rw[az (λw=>by rw[w,hn]at q;cases q)];exact q) λb xs q=>by rw[az (λw=>by rw[w,hn]at q;cases q)];exact q
theorem J0(I:L2.Inv X Z Y H s)(f:H e=lD (.ext φ)):L2.Inv X Z Y (P4 H e) s:=by
 have:=I.un (t':=s.toks) (H':=P4 H e) ⟨λb u z _ _ _=>z,λb u z _ _ _=>⟨u.slots,z⟩,λb u z q _=>?_,λb u z _=>⟨u,z⟩,λb xs z=>?_,λb u v z=>?_,λb ps z=>⟨#[],?_⟩⟩ ?_
 .exact this
 .by_cases y:b=e
  .rw[y];exact sL
  .rw[jI y];exact q
 .rw[jI (λy=>by rw[y,f]at z;cases z)];exact z
 .rw[jI (λy=>by rw[y,f]at z;cases z)];exact z
 .rw[jI (λy=>by rw[y,f]at z;cases z),z];simp
 .intro a u z
  have y:a≠e:=λy=>by rw[y,sL]at z;cases z
  rw[jI y]at z;exact(I.UW a u z).Yg (λb w _ q=>q) (λb q=>by rw[jI (λw=>by rw[w,f]at q;cases q)];exact q) λb xs q=>by rw[jI (λw=>by rw[w,f]at q;cases q)];exact q
end
def BO(C:Tt)(sp:Sp)(E:XK)(g:TA):TS:=λ_ f H=>g f H λvs b=>vs.length<=TL/\∀e,b e=Th->sp (.ref e::(vs++[])) (bq b e (.ext (JK C e))) (λv a=>v=.V8/\∃p,a e=lD (.ext (QS C e p))/\E (.ref C) (lD p) (P4 a e)) E0
theorem EE{K:Tg}
  (Y:XC K C B fI) (R:K.lookup fI=lD oI) (iI:Wm K (.ref fI)=To) (FI:FnOk P w K mg base dD k fI fdI ps sp) (bI:Binds K fdI ps [])
  (hr:VU (k+1) (gy (lB P w) P w K mg base N qual scope f cd A outer s0 H0 E).A)
  (hg:Gl (gy (lB P w) P w K mg base N qual scope f cd A outer s0 H0 E) x) (hm:mg x=lD (.ref C)) (ha:PA (gy (lB P w) P w K mg base N qual scope f cd A outer s0 H0 E) (e0::es) ta)
  (G:(x==("__debug__":Str))=Tw:=by decide)
  (U:Uc (e0::es) (gy (lB P w) P w K mg base N qual scope f cd A outer s0 H0 E).env=(Tw,eval e0 (gy (lB P w) P w K mg base N qual scope f cd A outer s0 H0 E).env)::Uc es (gy (lB P w) P w K mg base N qual scope f cd A outer s0 H0 E).env:=by rfl)
  (ZH:(backTo WJ (Uc es (gy (lB P w) P w K mg base N qual scope f cd A outer s0 H0 E).env)).any (·.1)=Tw:=by rfl):
  PS (gy (lB P w) P w K mg base N qual scope f cd A outer s0 H0 E) (.Raise (lD (.Call (.Name x np) (e0::es) [] WJ)) Th pos) (BO C sp E ta):=by
 intro l s σ H D I h;obtain⟨nm,qn,Nn,bs,sn,sub,ab,col,dd,k0,k1,k2,k3,k5,Q,UW,F⟩:=Y.obj;have a:=I.ok.mod.kin;have oC:=a _ _ Q;have O:=Heap.Ns.of_isNs (PySem.W.isNs_of_in a UW);have ni:=AY a O F;have oF:=a _ _ R;have T:=abJ a (zG Y.base);refine zQ (nm:=nm) (q:=qn) (N:=Nn) (bs:=bs) (hdct:=To) (sn:=sn) (sub:=sub) (ab:=ab) (col:=col) (dd:=dd) (k0:=k0) (k1:=k1) (k2:=k2) (k3:=k3) (k5:=k5) Wh (by left) Wh (T.hasType Wh.hasBase) (I.ok.hd rfl)
  (by rw[U];exact(X4 _).trans ZH) ni (PN iI R) (jM I hg hm ⟨rfl,?_⟩ G)
 have go:=ha WJ l s σ H _ I h;rw[U]at go⊢;refine Calls.evalArgs_plain (cz go λg j ⟨vs,H1,i,r,hl,q⟩=>?_);refine⟨rfl,by rw[<-r.length];exact hl,i.bk _ _ oC,O.keeps i.bk,i.bk _ _ oF,T.keeps i.bk,λh' e m=>?_⟩;obtain⟨t,y,y2,y3⟩:=m.there;have hn:=yw i.UW m.new;have S:=q e hn;have J:=LC (t':=j.toks) (o:=.ext (JK C e)) i m.keeps m.new ⟨⟨_,t,y,rfl,rfl⟩,⟨_,y⟩,λh1 h2 ⟨f1,t1,z1,z2,z3⟩ hk=>⟨f1,t1,hk _ z1,z2,z3⟩⟩;have M:Vals (V.ref e::(vs++[])) (Ti.ref e::(g++[])):=.cons rfl (r.append .nil);have n:(Ti.ref e::g++[]).length=ps.length:=by have z:=M.length;rw[FI.len _ _ _ _ S]at z;exact z.symm
 have old:s0.heap.get? e=Th:=by
  cases z:s0.heap.get? e with
  |none=>rfl
  |some o=>obtain⟨o',L⟩:=i.base.there e o z (λy=>nomatch y);rw[m.new]at L;cases L
 have bi:=bI {heap:=h',gens:=j.gens,drawn:=j.drawn,toks:=j.toks,os:=j.os} (Ti.ref e::g) J.Yu n;rw[adJ]at bi;refine X7 (XS (FI.run _ (gy (lB P w) P w K mg base N qual scope f cd A outer s0 H0 E).stack _ _ ⟨Ti.ref e::g,[]⟩ (Ti.ref e::(g++[])) _ _ E0 (hr.make C g []) (J.aed.make C g []) bi M S) λr s' b=>?_);cases r with
 |error e=>exact b.elim
 |ok fl=>
  cases fl with
  |ret u=>obtain⟨v,H',I3,rv,ev,p,X,q3⟩:=J.after b;subst ev;obtain⟨⟨fs,a0,g1,g2,Z⟩,_,_⟩:=(show ObjOk _ _ H' s'.heap e (.ext (QS C e p)) from I3.UW e _ X);refine⟨rv,_,I3.Yu _ _ Q,g1,rfl,⟨fs,rfl,Z⟩,?_⟩;exact MU (hd:=Th) (J0 I3 X) ⟨_,_,g1,rfl,rfl,rfl,g2,Z⟩ old (λT z=>nomatch z) sL (λT z=>nomatch z) q3
  |next=>exact False.elim b
  |brk=>exact False.elim b
  |cont=>exact False.elim b
end L9
namespace L9
open PySem PySem.Spec PySem.W PyProof.Rows L2 L3 L4
section
variable{prog:T5}{w:Uu}{A:Uk}{E:Ti->Tv->Prop}{h:Heap}{g:Array YF}{d:acK}{t:Nat}{os:abt}{a C:Tt}{o:Obj}{K:Tg}{Z:br Obj}{name:Str}{v:Ti}
  {n1 q1:Str} {N1:Tt} {b1 m1:bg Ti} {d1:Bool} {s1:bg Str} {u1:bg Ti} {a1:Bool} {c1:br Bool} {x1:br Tt} {i0 i1 i2 i3 i5:br Ti} {Y:String}
theorem z9(X:K.In h)(I:Yp h a o C Z)(b:findObj K C Z name=lD (.value v))
  (k:Q (.done (.ret v)) ⟨h,g,d,t,os⟩):wpAny (model prog w) A (Ul.«object.__getattribute__» ⟨[.ref a,.str name tk],[]⟩) Q E ⟨h,g,d,t,os⟩:=by
 have f:=I.type (M:=model prog w);have e:=looks_find (M:=model prog w) X I b;refine Ld (Tr (Ld (Tr (Ld (f.at (Ld (e.at ?_)))))));exact Tr k
theorem Et(X:K.In h)(I:Yp h a o C Z)(n:h.get? C=lD (excClassObj n1 q1 C N1 b1 m1 d1 s1 u1 a1 c1 x1 i0 i1 i2 i3 i5 Y))(m:m1.contains (.type "BaseException")=To)
  (f:findIn K (.ref C) "__getattribute__"=lD (lD (.builtin "BaseException.__getattribute__"))) (e:findIn K (.ref C) "__getattr__"=lD Th) (l:findObj K C Z name=lD (.value v)) (j:handedIn v=To)
  (k:Q v ⟨h,g,d,t+1,os⟩):wpAny (model prog w) A (getAttr (.ref a) name expr) Q E ⟨h,g,d,t,os⟩:=by
 have y:=ZZ.ga.bind (.ref a);have b:(Ti.builtin "BaseException.__getattribute__"==Ti.builtin "object.__getattribute__")=Tw:=by left
 have u:(onTheHeap (Ti.ref C)&&Ti.builtin "BaseException.__getattribute__"==Ti.builtin "object.__getattribute__")=Tw:=by rw[b];rfl
 have r:=I.type (M:=model prog w);have q:=looks_findIn (M:=model prog w) X f;have p:=looks_findIn (M:=model prog w) X e;unfold getAttr getAttrBy
 repeat (any_goals (first|assumption|specialize r.at ?_|specialize q.at ?_|specialize p.at ?_|wp_step))
 rw[show(expr&&onTheHeap (Ti.builtin "BaseException.__getattribute__"))=Tw from by cases expr<;>rfl,ax TV];unfold boundAndCalled
 repeat (any_goals (first|assumption|wp_step))
 refine WI ZZ.ga.plain F.entry_bexc_ga (Bz n m I.at_ I.cls (z9 X I l ?_));have i:=handedOut_of j;show wpAny _ _ (handedOut v) _ _ _;rw[i];exact Tr k
end
def Mz(K:Tg)(g:TE)(f:Str):TE:=λb H Q=>g b H λx a=>∃e ob C m p fs v,x=.ref e/\a e=lD (.frz ob (.own e))/\ob.cls=.ref C/\ob.dict=lD p/\notCls ob=To/\abY K C m/\hasDictIn K C=To/\findIn K (.ref C) f=lD Th/\
 a p=lD (.xd fs)/\fs.lookup f=lD v/\Q v a
theorem K9(S:PE X o ta)(Y:attributeBase o f X.env (eval o X.env)=eval o X.env):PE X (.Attribute o f pos) (Mz X.K ta f):=by intro a s A H Q I h;refine BH Y (cz (S a s A H _ I h) λu n ⟨x,y,b,B,e,F,C,m,p,fs,v,Z,ea,U,T,hn,L,R,ha,N,l,q⟩=>?_);subst Z;obtain rfl:=B;have z:=(b.UW e _ ea).1;obtain⟨mA,G,i⟩:=(show ObjOk X.prog X.w y n.heap p (.xd fs) from b.UW p _ N);obtain⟨u',M,r⟩:=Xn.some_of (by rw[<-l];exact i f);obtain⟨E,O,P⟩:=vS G;obtain⟨_,_,_,_,_,_,_,_,_,_,_,_,_,_,_,_,J⟩:=L.cl;obtain⟨j,g,d,t,os⟩:=n;exact Et b.Yu (⟨z,U,hn,by rw[T];exact O⟩:Yp j e F C (lD E)) (b.Yu _ _ J) L.be L.ga L.gt (findObj_own R ha rfl (by rw[P,M])) (vd r) ⟨v,y,b.tok _,r,q⟩
def xJ(C:Tt)(f:Str):Sp:=λvs H Q _=>∃e v,vs=[.ref e,v]/\RK v/\H e=lD (.ext (JK C e))/\∀p,H p=Th->p≠e->Q .V8 (bq (bq H e (.ext (QS C e p))) p (.xd [(f,v)]))
def Qy:D->Bool
 |.none=>To
 |.int i=>decide (i.natAbs.log2<1920)
 |_=>Tw
end L9
namespace L3
open PySem PySem.Spec PyProof.Rows L2
mutual
def SL:Tu->Bool
 |.tuple ds=>NK ds
 |.int _=>To
 |.str _=>To
 |.bool _=>To
 |.none=>To
 |_=>Tw
def NK:bg Tu->Bool
 |[]=>To
 |d::r=>SL d&&NK r
end
section
variable{K:Tg}{E:XK}{B:cg}{H0:Hp}{O Z:cg}{σ:L2.St}{H H':Hp}{ρ:bp}
theorem Ly(h:XY K H a xs)(l:H a=lD (.lst ys)):XY K (λ_=>Th) a xs:=by
 rcases h with(h|⟨o,h⟩)|h
 .rw[l]at h;cases h
 .rw[l]at h;cases h
 .exact .inr h
mutual
theorem JF(f:∀b,O b->¬Z b->∃ys,H b=lD (.lst ys)):∀{v:V} {d:D},DV Z K H v d->SL d=To->DV O K H v d
 |_,_,.V8,_=>.V8
 |_,_,.bl b,_=>.bl b
 |_,_,.int i,_=>.int i
 |_,_,.str x,_=>.str x
 |_,_,.tup (a:=a) h hs,e=>.tup ⟨h.1,λz=>by
   by_cases y:Z a
   .exact h.2 y
   .obtain⟨ys,q⟩:=f a z y;exact Ly h.1 q⟩ (yC f hs e)
 |_,_,.lst h hs,e=>by cases e
theorem yC(a:∀b,O b->¬Z b->∃ys,H b=lD (.lst ys)):∀{vs:bg V} {ds:bg D},Vl Z K H vs ds->NK ds=To->Vl O K H vs ds
 |_,_,.nil,_=>.nil
 |_,_,.cons h hs,e=>by have f:=YM.mp e;exact .cons (JF a h f.1) (yC a hs f.2)
end
end
end L3
namespace PyProof.Rows
open PySem
section
variable{prog:T5}{w:Uu}{A:Uk}{E:Ti->Tv->Prop}{s:Tv}
theorem sr(b:h.get? a=lD (seqObj "list" vs.toArray n)):∃e,(sortedHeap h a vs out).get? a=lD (seqObj "list" out e):=by have f:=get?_update_seq b (λ_=> #[]);exact⟨_,get?_update_seq (bt _ (bt _ f)) _⟩
theorem qD(f:b≠a)(e:h.get? b=lD o):(sortedHeap h a vs out).get? b=lD o:=
 (b7 _ _ (db f)).trans (bt _ (bt _ ((b7 _ _ (db f)).trans e)))
theorem AM{l:Tt}{vs:bg Ti}{j:bg Int}{Q:Ti->Tv->Prop}(p:s.heap.IsTuple l vs.toArray)(y:IntsAre vs j)(i:vs.length<64)
  (h:∀(a h':Heap) (out:Array Ti) (e:Nat) (f:bg Int),(∀b o,s.heap.get? b=lD o->a.get? b=lD o)->h'.get? a.objs.size=lD (seqObj "list" out e)->(∀b o,a.get? b=lD o->h'.get? b=lD o)->IntsAre out.toList f->f.Perm j->f.Pairwise (·<=·)->Q (.ref a.objs.size) {s with heap:=h'}):
  wpAny (model prog w) A (call (.builtin "sorted") [.ref l]) Q E s:=by
 obtain⟨o,q,v,n,u⟩:=p;refine Calls.call_function_entry kind_sorted plain_sorted entry_sorted (args_sorted1 _) (Ld (m:=checkCount "sorted" 1 1 _) (Tr (Ld (wpAny_collect_seq l (.inr rfl) q v u (λa r=>Ld (aku ?_)) (by rw[TU,Vr];omega)))));have g:(a.push (seqObj "list" vs.toArray 0)).get? a.objs.size=lD (seqObj "list" vs.toArray 0):=b5 _ rfl;refine Ld (UY (UZ slot_list_sort ⟨_,g,rfl⟩ entry_list_sort (list_sort_tree g y i λout f F C B=>⟨_,rfl,Tr ⟨_,rfl,?_⟩⟩) (args_list_sort _)));obtain⟨e,t⟩:=sr (out:=out) g;exact h a _ out e f r t (λb G z=>qD (T8 (bP z)) (bt _ z)) F C B
end
end PyProof.Rows
namespace L9
open PySem PySem.Spec PyProof.Rows L2 L3
section
variable{K:Tg}{E:XK}
theorem wK:Wj X (.builtin "sorted") (λxs H Q=>∃(p:Tt) (f:bg Int),xs=[.ref p]/\XY X.K H p (f.map V.int)/\f.length<64/\∀(l:Tt) (a:bg Int),H l=Th->a.Perm f->a.Pairwise (·<=·)->Q (.ref l) (bq H l (.lst (a.map V.int)))):=by
 intro j s F H xs G Q I r h;obtain⟨p,f,rfl,v,B,q⟩:=h;obtain⟨u,rfl,o⟩:=iV r;cases o;obtain⟨M,rv,pl,J⟩:=I.tuple v;have w:=rv.length;rw[Tj]at w;refine AM pl (mY rv) (by omega) λC L g e a y A i hi m t=>?_;have b:=m.length_eq;have n:=I.kept (t':=s.toks) y;refine⟨.ref C.objs.size,_,n.laid i (TB _) ?_,rfl,q _ a (n.UW.fresh (TB _)) m t⟩;refine⟨?_,g.toList,e,jA hi,A⟩;rw[Tj,b];have:(64:Nat)<=TL:=by decide
 omega
theorem xw:Wj X (.builtin "sorted") (λxs H Q=>(∃(p:Tt) (a:bg Int),xs=[.ref p]/\Ym X.K H p (a.map V.int)/\a.length<64/\∀(l:Tt) (b:bg Int),H l=Th->b.Perm a->b.Pairwise (·<=·)->Q (.ref l) (bq H l (.lst (b.map V.int))))\/
  (∃(p:Tt) (a:bg Int),xs=[.ref p]/\XY X.K H p (a.map V.int)/\a.length<64/\∀(l:Tt) (b:bg Int),H l=Th->b.Perm a->b.Pairwise (·<=·)->Q (.ref l) (bq H l (.lst (b.map V.int))))):=L2.Wj.or yD wK
def ig:bg D->br RV
 |[.tuple ds]=>(match pI ds with
  |some a=>if a.length<64 then lD (.ow ((lG a).map .int)) else Th
  |none=>Th)
 |ds=>vY ds
theorem Ak:EL K (λxs H Q=>(∃(p:Tt) (b:bg Int),xs=[.ref p]/\Ym K H p (b.map V.int)/\b.length<64/\∀(l:Tt) (f:bg Int),H l=Th->f.Perm b->f.Pairwise (·<=·)->Q (.ref l) (bq H l (.lst (f.map V.int))))\/
  (∃(p:Tt) (b:bg Int),xs=[.ref p]/\XY K H p (b.map V.int)/\b.length<64/\∀(l:Tt) (f:bg Int),H l=Th->f.Perm b->f.Pairwise (·<=·)->Q (.ref l) (bq H l (.lst (f.map V.int))))) ig:=by
 intro O H xs ds rv Q n h e q;unfold ig at e;split at e
 .split at e
  .rename_i b j
   split at e
   .rename_i hn
    cases e;cases h with
    |cons r o=>cases o;obtain⟨a,vs,rfl,i,t⟩:=EI r;rw[rE t j]at i;refine .inr ⟨a,b,rfl,i.1,hn,λl f m g dX=>?_⟩;have u:=l4 (g.trans (fJ b).symm) dX (eR b);subst u;exact q.new (ur _) l m
   .cases e
  .cases e
 .exact .inl (uZ O H xs ds rv Q n h e q)
theorem K1:UT "range"=lD (.type "range"):=by left
end
end L9
namespace LD
open PySem PyProof.Rows L2 L3
mutual
def kd:Tu->Bool
 |.none=>To
 |.int _=>To
 |.str x=>Tu.strOk x
 |.tuple xs=>kds xs
 |_=>Tw
def kds:bg Tu->Bool
 |[]=>To
 |x::r=>kd x&&kds r
end
def keyD:Tu->Bool
 |.tuple xs=>kds xs&&decide ((Tu.tuple xs).depth<=8)
 |_=>Tw
mutual
theorem kd_lay:∀d:Tu,kd d=To->d.canLay0=To
 |.none,_=>rfl
 |.int _,_=>rfl
 |.str x,h=>by unfold Tu.canLay0;unfold kd at h;exact h
 |.tuple xs,h=>by unfold Tu.canLay0;unfold kd at h;exact DF xs h
 |.bool _,h|.list _,h|.dict _,h=>by simp[kd]at h
theorem DF:∀xs:bg Tu,kds xs=To->Tu.canLayAll0 xs=To
 |[],_=>rfl
 |x::r,h=>by unfold kds at h;rw[T6]at h;unfold Tu.canLayAll0;rw[kd_lay x h.1,DF r h.2];rfl
end
mutual
theorem kd_eqv:∀d e:Tu,kd d=To->kd e=To->Tu.eqv d e=To->d=e
 |.none,e,_,h,q=>by cases e<;>simp_all [kd,Tu.eqv]
 |.int i,e,_,h,q=>by cases e<;>simp_all [kd,Tu.eqv]
 |.str x,e,_,h,q=>by cases e<;>simp_all [kd,Tu.eqv]
 |.tuple xs,e,g,h,q=>by
  cases e with
  |tuple a=>rw[Tu.eqv]at q;unfold kd at g h;rw[Dl xs a g h q]
  |_=>simp_all [kd,Tu.eqv]
 |.bool _,_,h,_,_|.list _,_,h,_,_|.dict _,_,h,_,_=>by simp[kd]at h
theorem Dl:∀xs ys:bg Tu,kds xs=To->kds ys=To->Tu.eqvAll xs ys=To->xs=ys
 |[],[],_,_,_=>rfl
 |[],_::_,_,_,q=>by simp[Tu.eqvAll]at q
 |_::_,[],_,_,q=>by simp[Tu.eqvAll]at q
 |x::xs,y::ys,g,h,q=>by unfold kds at g h;rw[Tu.eqvAll]at q;rw[T6]at g h q;rw[kd_eqv x y g.1 h.1 q.1,Dl xs ys g.2 h.2 q.2]
end
theorem Gc[Decidable (d=e)](hd:kd d=To)(a:kd e=To):Tu.eqv d e=decide (d=e):=by
 by_cases q:d=e
 .subst q;rw[aP rfl];exact SeqAt.eqv_refl d (kd_lay d hd)
 .rw[a4 q]
  cases z:Tu.eqv d e with
  |false=>rfl
  |true=>exact a6 (kd_eqv d e hd a z) q
theorem keyD_kd(h:keyD d=To):kd d=To/\d.depth<=8:=by
 cases d with
 |tuple xs=>unfold keyD at h;rw[T6]at h;exact⟨by unfold kd;exact h.1,a5 h.2⟩
 |_=>simp[keyD]at h
mutual
def tL(w:Uu):Tu->Int
 |.none=>reduceHash 0xFCA86420
 |.int i=>hashInt i
 |.str x=>hashStr w x
 |.tuple xs=>reduceHash (Ul.Tuple.tupleHashOf (tP w xs))
 |_=>0
def tP(w:Uu):bg Tu->bg Int
 |[]=>[]
 |x::r=>tL w x::tP w r
end
mutual
def Rs:Tu->Nat
 |.tuple xs=>JV xs+1
 |_=>1
def JV:bg Tu->Nat
 |[]=>0
 |x::r=>Rs x+JV r
end
section
variable{prog:T5}{w:Uu}{E:Ti->Tv->Prop}
mutual
theorem DL:∀(d:Tu) (v:Ti) (f:bg Tt) (A:Uk) (s:Tv) (Q:Int->Tv->Prop),kd d=To->adT s.heap v d f->A.units+d.depth<cLine->Q (tL w d) {s with toks:=s.toks+Rs d}->wpAny (model prog w) A (pyHash v) Q E s
 |.none,_,_,A,s,Q,_,r,hu,h=>by cases r;exact abu (T:= "NoneType") rfl F.slot_NoneType_hash F.entry_NoneType_hash (F.args_NoneType_hash_1 _) (agh _) (.inr (by omega)) (Ld (Tr (Ld (adW (Tr ⟨_,_,rfl,h⟩)))))
 |.int i,_,_,A,s,Q,_,r,_,h=>by cases r;exact af6 h
 |.str x,_,_,A,s,Q,_,r,_,h=>by cases r;exact af7 h
 |.tuple xs,_,_,A,s,Q,hk,r,hu,h=>by
  cases r with
  | @tuple a o vs n _ _ h1 h2 h3 h4=>
   refine abu (T:= "tuple") ⟨_,h1,h2⟩ F.slot_tuple_hash F.entry_tuple_hash (F.args_tuple_hash_1 _) (agh _) (.inr (by omega)) ?_;show wpAny _ _ (Ul.Tuple.tupleItemsOf (.ref a)>>=_) _ _ s;refine Ld (wpAny_tupleItemsOf h1 h3 ?_);refine Ld ?_;rw[<-acv];unfold kd at hk;refine u7 xs vs.toList _ A.in1 s #[] _ hk h4 (by simp only[Tu.depth,Uk.in1_units]at hu⊢;omega) λb e=>?_;show wpAny _ _ (retInt (Ul.Tuple.tupleHashOf b.toList)) _ _ _;rw[e];refine Ld (adW (Tr ⟨_,_,rfl,?_⟩));unfold tL Rs at h
   simpa [Zh] using h
 |.bool _,_,_,_,_,_,h,_,_,_|.list _,_,_,_,_,_,h,_,_,_|.dict _,_,_,_,_,_,h,_,_,_=>by simp[kd]at h
theorem u7:∀(xs:bg Tu) (vs:bg Ti) (g:bg Tt) (A:Uk) (s:Tv) (b:Array Int) (Q:Array Int->Tv->Prop),kds xs=To->abG s.heap vs xs g->A.units+Tu.depthAll xs<cLine->
  (∀b':Array Int,b'.toList=b.toList++tP w xs->Q b' {s with toks:=s.toks+JV xs})->
  wpAny (model prog w) A (forIn vs b λx r=>do let h<-pyHash x;pure PUnit.unit;pure (ForInStep.yield (r.push h))) Q E s
 |[],_,_,A,s,b,Q,_,x,_,h=>by cases x;exact Tr (h b (by simp[tP]))
 |k::xs,_,_,A,s,b,Q,hk,x,hu,h=>by
  cases x with
  |cons e a=>
   unfold kds at hk;simp only[T6,Tu.depthAll]at hk hu;rw[Xo];refine Ld (Ld (DL k _ _ A s _ hk.1 e (by omega) ?_));refine Ld (Tr (Tr ?_));refine u7 xs _ _ A _ _ Q hk.2 a (by omega) λb' f=>?_;have:=h b' (by simp[f,tP]);unfold JV at this
   simpa [Zh] using this
end
theorem yR:∀(n:Nat) (d:Tu) (v:Ti) (j:bg Tt) (A:Uk) (s:Tv) (Q:Bool->Tv->Prop),kd d=To->adT s.heap v d j->d.depth<=n->Q To s->wpAny (model prog w) A (eqIsQuiet n v) Q E s
 |n,.none,_,_,A,s,Q,_,r,_,h=>by cases r;rw[aax _ rfl];exact Tr h
 |n,.int i,_,_,A,s,Q,_,r,_,h=>by cases r;rw[aax _ rfl];exact Tr h
 |n,.str i,_,_,A,s,Q,_,r,_,h=>by cases r;rw[aax _ rfl];exact Tr h
 |0,.tuple xs,_,_,A,s,Q,hk,r,hn,h=>by simp only[Tu.depth]at hn;omega
 |n+1,.tuple xs,_,_,A,s,Q,hk,r,hn,h=>by
  cases r with
  | @tuple a o vs m _ _ h1 h2 h3 h4=>
   have g:s.TypeIs (.ref a) "tuple":=⟨_,h1,h2⟩;simp only[Tu.depth]at hn;unfold eqIsQuiet;refine Ld (ahq g F.slot_tuple_eq.lookup ?_);refine Ld (Xt g isSubtype_tuple_tuple ?_);simp only[Y8,Vh,if_false];refine Ld (Vf h1 h3 ?_);refine Ld ?_;rw[<-acv];unfold kd at hk;refine agi _ (λb r e=>r.1=Th/\e=s/\∃ys bs,kds ys=To/\abG s.heap b ys bs/\Tu.depthAll ys<=n) _ ?_ ?_ _ _ ⟨rfl,rfl,xs,_,hk,h4,by omega⟩
   .rintro v b r e ⟨f,rfl,ys,bs,k1,k2,k3⟩
    cases k2 with
    | @cons _ _ y ys' _ _ g1 g2=>unfold kds at k1;simp only[T6,Tu.depthAll]at k1 k3;refine Ld (yR n y v _ A e _ k1.1 g1 (by omega) ?_);simp only[Y8,Vh,if_false];exact Tr ⟨rfl,rfl,ys',_,k1.2,g2,by omega⟩
   .rintro⟨p,l⟩ e ⟨f,rfl,_⟩;simp only at f;subst f;exact Tr h
 |_,.bool _,_,_,_,_,_,h,_,_,_|_,.list _,_,_,_,_,_,h,_,_,_|_,.dict _,_,_,_,_,_,h,_,_,_=>by simp[kd]at h
end
mutual
theorem uQ{h h':Heap}{x:Tt}{b:Obj}{es:Array VN}{j:Nat}(e:h.get? x=lD b)(g:b.data=.dict es j)(f:Heap.SameBut x h h'):∀(d:Tu) (v:Ti) (i:bg Tt),kd d=To->adT h v d i->adT h' v d i
 |.none,_,_,_,r=>by cases r;exact .none
 |.int _,_,_,_,r=>by cases r;exact .int _ _
 |.str _,_,_,_,r=>by cases r;exact .str _ _
 |.tuple xs,_,_,k,r=>by
  cases r with
  | @tuple a o vs n _ _ h1 h2 h3 h4=>
   have l:a≠x:=by rintro rfl;rw[e]at h1;cases h1;rw[g]at h3;exact nomatch h3
   unfold kd at k;exact .tuple ((f.2 a l).trans h1) h2 h3 (t9 e g f xs _ _ k h4)
 |.bool _,_,_,h,_|.list _,_,_,h,_|.dict _,_,_,h,_=>by simp[kd]at h
theorem t9{h h':Heap}{x:Tt}{a:Obj}{es:Array VN}{l:Nat}(b:h.get? x=lD a)(f:a.data=.dict es l)(e:Heap.SameBut x h h'):∀(ds:bg Tu) (vs:bg Ti) (g:bg Tt),kds ds=To->abG h vs ds g->abG h' vs ds g
 |[],_,_,_,r=>by cases r;exact .nil
 |d::ds,_,_,k,r=>by
  cases r with
  |cons j i=>unfold kds at k;rw[T6]at k;exact .cons (uQ b f e d _ _ k.1 j) (t9 b f e ds _ _ k.2 i)
end
abbrev KD:={d:Tu//keyD d=To}
noncomputable instance kdDec:DecidableEq KD:=λ_ _=>Classical.propDecidable _
def gJ(prog:T5)(w:Uu):aiA prog w KD where
 is:=λh k a=>∃as,adT h (.ref a) k.1 as
 hash:=λk=>tL w k.1
 draws:=λk=>Rs k.1
 room:=λA=>A.units+8<cLine
 inj:=λ⟨_,r⟩ ⟨_,f⟩=>Subtype.ext (adT.unique r _ _ f).1
 keeps:=λ{h h' k a d o es ep} ⟨as,r⟩ ho hd hs=>⟨as,uQ ho hd hs k.1 _ _ (keyD_kd k.2).1 r⟩
 pyHash:=λ{A E s k a Q} hu ⟨as,r⟩ q=>DL k.1 _ as A s Q (keyD_kd k.2).1 r (by have:=(keyD_kd k.2).2;omega) q
 eqBool:=λ{A E s x y a b Q} hu ⟨as,r⟩ ⟨bs,f⟩ q=>SeqAt.eqAt_reads x.1 y.1 A s _ _ as bs r f (kd_lay _ (keyD_kd x.2).1) (kd_lay _ (keyD_kd y.2).1) (by have:=(keyD_kd x.2).2;omega) prog w E Q (by
  haveI:Decidable (x.1=y.1):=Classical.propDecidable _
  rw[Gc (keyD_kd x.2).1 (keyD_kd y.2).1];by_cases e:x=y
  .rw[aP e]at q;rw[aP (dw Subtype.val e)];exact q
  .rw[a4 e]at q;rw[a4 λz=>e (Subtype.ext z)];exact q)
 quiet:=λ{A E s k a Q} ⟨as,r⟩ q=>yR 8 k.1 _ as A s Q (keyD_kd k.2).1 r (keyD_kd k.2).2 q
def S4(a:Tt)(xs:bg (KD×Tt×V))(w:Uu)(h:Heap):Prop:=
 (xs.length<=TL/\(a==U3)=Tw/\(xs.map (·.1)).Nodup)/\∃o es ep,h.get? a=lD o/\o.ExactDict/\o.data=.dict es ep/\Paired (λ(x:KD×Tt×V) (e:VN)=>e.hash=tL w x.1.1/\e.key=.ref x.2.1/\RelV x.2.2 e.val) xs es.toList
abbrev DkO(a:Tt)(xs:bg (KD×Tt×V)):HO:=.exw (S4 a xs)
abbrev PrD(O:cg)(K:Tg)(H:Hp):bg (KD×Tt×V)->bg (D×D)->Prop:=
 Paired λx kv=>x.1.1=kv.1/\L3.DV O K H (.ref x.2.1) kv.1/\L3.DV O K H x.2.2 kv.2
end LD
namespace L10
open PySem L2 L3
inductive AV where
 |fz (d:D)
 |rf (i:Nat)
inductive SV where
 |fz (d:D)
 |rf (i:Nat)
 |tp (l:bg AV)
def AV.sv:AV->SV
 |.fz d=>.fz d
 |.rf i=>.rf i
inductive Cell where
 |lst (xs:bg SV)
 |Y4 (Ub:bg (cN×SV))
 |obj (C:Str) (fs:bg (Str×SV))
 |dd (Ub:bg (D×D))
 |dead
abbrev a9:=bg Cell
abbrev bu:=bg (br SV)
inductive RS(α:Type) where
 |ok (a:α) (Z:a9)
 |er (x:Xc) (Z:a9)
 |bad
def RS.bind(r:RS α)(f:α->a9->RS β):RS β:=match r with
 |.ok a Z=>f a Z
 |.er x Z=>.er x Z
 |.bad=>.bad
def RS.UB(Z:a9):br α->RS α
 |some a=>.ok a Z
 |none=>.bad
theorem RS.bind_ok(a:α)(Z:a9)(f:α->a9->RS β):(RS.ok a Z).bind f=f a Z:=rfl
abbrev d0:=@RS.bind_ok
def Lv(α:bg Tt)(Z:a9):cg:=λb=>∃(i:Nat) (c:Cell),α[i]?=lD b/\Z[i]?=lD c/\c≠Cell.dead
def ow(B:cg)(α:bg Tt)(Z:a9):cg:=λb=>B b\/Lv α Z b
section
variable(O:cg)(K:Tg)(H:Hp)(Z:bg Tt)
def AOk(v:V):AV->Prop
 |.fz d=>DV O K H v d
 |.rf i=>∃a,Z[i]?=lD a/\v=.ref a
def Ws(v:V):SV->Prop
 |.fz d=>DV O K H v d
 |.rf i=>∃a,Z[i]?=lD a/\v=.ref a
 |.tp l=>∃a xs,v=.ref a/\Yh O K H a xs/\Paired (AOk O K H Z) xs l
abbrev VZ:bg V->bg SV->Prop:=Paired (Ws O K H Z)
def COk(a:Tt):Cell->Prop
 |.lst xs=>∃vs,H a=lD (.lst vs)/\VZ O K H Z vs xs
 |.Y4 Ub=>∃ws:bg (cN×V),H a=lD (.dK ws)/\Paired (λ(p:cN×V) (q:cN×SV)=>p.1=q.1/\Ws O K H Z p.2 q.2) ws Ub
 |.obj C fs=>∃Ca dx ws,T7 K TZ C=lD (lD (.ref Ca))/\H a=lD (.ins Ca dx ws)/\Paired (λ(p:Str×V) (q:Str×SV)=>p.1=q.1/\Ws O K H Z p.2 q.2) ws fs
 |.dd Ub=>∃xs,H a=lD (LD.DkO a xs)/\LD.PrD O K H xs Ub
 |.dead=>True
def Wn(a:L2.St)(ρ:bu):Prop:=a.length=ρ.length/\∀(i:Nat) (x:SV),ρ[i]?=lD (lD x)->∃v,a[i]?=lD (lD v)/\Ws O K H Z v x
end
structure StoOk(B:cg)(K:Tg)(H:Hp)(α:bg Tt)(Z:a9):Prop where
 len:α.length=Z.length
 nd:∀(i j:Nat) (a:Tt),α[i]?=lD a->α[j]?=lD a->i=j
 bn:∀a,B a->H a≠Th
 ba:∀a,B a->∀i:Nat,α[i]?≠lD a
 al:∀(i:Nat) (a:Tt),α[i]?=lD a->H a≠Th
 ZU:∀(i:Nat) (a:Tt) (c:Cell),α[i]?=lD a->Z[i]?=lD c->COk (ow B α Z) K H α a c
structure Vd(α:bg Tt)(Z:a9)(H:Hp)(α':bg Tt)(Z':a9)(H':Hp):Prop where
 pre:∀(i:Nat) (a:Tt),α[i]?=lD a->α'[i]?=lD a
 kp:∀b o,H b=lD o->¬Lv α Z b->H' b=lD o
 lv:∀b,Lv α' Z' b->Lv α Z b\/H b=Th
section
variable{B O Q:cg}{K:Tg}{E:XK}{H H' R N:Hp}{Y X U S:bg Tt}{Z T Z1 M:a9}{σ:L2.St}{ρ:bu}{v:V}
theorem Vd.refl:Vd Y Z H Y Z H:=⟨λ_ _ h=>h,λ_ _ h _=>h,λ_ h=>.inl h⟩
theorem Vd.trans(a:Vd Y Z H U Z1 R)(b:Vd U Z1 R S M N):Vd Y Z H S M N:=by
 have e:∀b o,H b=lD o->¬Lv Y Z b->¬Lv U Z1 b:=λb o h n z=>(a.lv b z).elim n λq=>by rw[h]at q;cases q
 refine⟨λi p h=>b.pre i p (a.pre i p h),λp o h n=>b.kp p o (a.kp p o h n) (e p o h n),λp h=>?_⟩;rcases b.lv p h with h|h
 .exact a.lv p h
 .cases q:H p with
  |none=>exact .inr rfl
  |some o=>refine .inl (Classical.byContradiction λn=>?_);rw[a.kp p o q n]at h;cases h
theorem Vd.same(s:Vp H H'):Vd Y Z H Y Z H':=⟨λ_ _ h=>h,λb o h _=>s b o h,λ_ h=>.inl h⟩
theorem Vd.ev(e:Vd Y Z H X T H'):Ev (ow B Y Z) H (ow B X T) H':=λb o h n=>
 ⟨e.kp b o h λz=>n (.inr z),λz=>z.elim (λq=>n (.inl q)) λq=>(e.lv b q).elim (λq=>n (.inr q)) λq=>by rw[h]at q;cases q⟩
theorem AOk.ev(e:Ev O H Q H')(p:∀(i:Nat) (a:Tt),Y[i]?=lD a->X[i]?=lD a)(h:AOk O K H Y v x):AOk Q K H' X v x:=by
 cases x with
 |fz d=>exact DV.ev e h
 |rf i=>obtain⟨a,f,b⟩:=h;exact⟨a,p i a f,b⟩
theorem Ws.ev(e:Ev O H Q H')(p:∀(i:Nat) (a:Tt),Y[i]?=lD a->X[i]?=lD a)(h:Ws O K H Y v x):Ws Q K H' X v x:=by
 cases x with
 |fz d=>exact DV.ev e h
 |rf i=>obtain⟨a,f,b⟩:=h;exact⟨a,p i a f,b⟩
 |tp l=>obtain⟨a,xs,f,b,g⟩:=h;exact⟨a,xs,f,b.ev e,Paired.Xg g λ_ _ q=>q.ev e p⟩
theorem Ws.VX(e:Vd Y Z H X T H')(h:Ws (ow B Y Z) K H Y v x):Ws (ow B X T) K H' X v x:=h.ev e.ev e.pre
theorem VZ.VX(e:Vd Y Z H X T H')(h:VZ (ow B Y Z) K H Y vs xs):VZ (ow B X T) K H' X vs xs:=Paired.Xg h λ_ _ q=>q.VX e
theorem Wn.VX(e:Vd Y Z H X T H')(h:Wn (ow B Y Z) K H Y σ ρ):Wn (ow B X T) K H' X σ ρ:=⟨h.1,λi x q=>let⟨v,h1,h2⟩:=h.2 i x q;⟨v,h1,h2.VX e⟩⟩
theorem COk.ev(e:Ev O H Q H')(p:∀(i:Nat) (a:Tt),Y[i]?=lD a->X[i]?=lD a)(ha:∀o,H a=lD o->H' a=lD o)(h:COk O K H Y a c):COk Q K H' X a c:=by
 cases c with
 |lst xs=>obtain⟨vs,f,b⟩:=h;exact⟨vs,ha _ f,Paired.Xg b λ_ _ q=>q.ev e p⟩
 |Y4 Ub=>obtain⟨ws,f,b⟩:=h;exact⟨ws,ha _ f,Paired.Xg b λ_ _ q=>⟨q.1,q.2.ev e p⟩⟩
 |obj C fs=>obtain⟨Ca,dx,ws,g,f,b⟩:=h;exact⟨Ca,dx,ws,g,ha _ f,Paired.Xg b λ_ _ q=>⟨q.1,q.2.ev e p⟩⟩
 |dd Ub=>obtain⟨xs,f,b⟩:=h;exact⟨xs,ha _ f,Paired.Xg b λ_ _ q=>⟨q.1,q.2.1.ev e,q.2.2.ev e⟩⟩
 |dead=>trivial
theorem StoOk.noO(s:StoOk B K H Y Z):oZ (ow B Y Z) H:=λa h z=>z.elim (λq=>s.bn a q h) λ⟨i,c,q,_⟩=>s.al i a q h
theorem StoOk.owd(s:StoOk B K H Y Z):∀a,ow B Y Z a->H a≠Th:=λa z h=>s.noO a h z
theorem StoOk.grow(s:StoOk B K H Y Z)(e:Vp H H'):StoOk B K H' Y Z:=by have n:∀a,H a≠Th->H' a≠Th:=λa h z=>h (e.free z);exact⟨s.len,s.nd,λa h=>n a (s.bn a h),s.ba,λi a h=>n a (s.al i a h),λi a c f b=>(s.ZU i a c f b).ev (Ev.grow e) (λ_ _ h=>h) λo h=>e _ _ h⟩
theorem StoOk.at(s:StoOk B K H Y Z){i:Nat}(h:Z[i]?=lD c):∃a,Y[i]?=lD a:=by have:i<Z.length:=(Tn.mp h).1;rw[<-s.len]at this;exact⟨_,TK this⟩
theorem StoOk.aeo(s:StoOk B K H Y Z){i:Nat}(h:Y[i]?=lD a):¬B a:=λz=>s.ba a z i h
theorem Bu{i:Nat}{c m:Cell}(h:Z[i]?=lD c)(n:c≠.dead)(g:m≠.dead){b:Tt}:Lv Y (Z.set i m) b↔Lv Y Z b:=by
 constructor
 .rintro⟨j,d,f,a,l⟩
  rcases b4 a with⟨rfl,rfl⟩|⟨_,a⟩
  .exact⟨j,c,f,h,n⟩
  .exact⟨j,d,f,a,l⟩
 .rintro⟨j,d,f,a,l⟩
  by_cases e:j=i
  .subst e;exact⟨j,m,f,by rw[UL (Tn.mp h).1],g⟩
  .exact⟨j,d,f,by rw[Ue (λz=>e z.symm)];exact a,l⟩
theorem PK(h:Z[i]?=lD c)(e:c≠.dead)(a:c'≠.dead):ow B Y (Z.set i c')=ow B Y Z:=by funext b;exact propext ⟨λz=>z.imp id (Bu h e a).mp,λz=>z.imp id (Bu h e a).mpr⟩
theorem Vd.put(ha:Y[i]?=lD a)(h:Z[i]?=lD c)(g:c≠.dead)(f:c'≠.dead):Vd Y Z H Y (Z.set i c') (bq H a o):=
 ⟨λ_ _ h=>h,λb j q n=>by have z:b≠a:=λe=>n ⟨i,c,by rw[e];exact ha,h,g⟩;rw[az z];exact q,λb z=>.inl ((Bu h g f).mp z)⟩
theorem StoOk.put(s:StoOk B K H Y Z)(ha:Y[i]?=lD a)(h:Z[i]?=lD c)(m:c≠.dead)(f:c'≠.dead)(new:COk (ow B Y Z) K (bq H a o) Y a c'):StoOk B K (bq H a o) Y (Z.set i c'):=by
 have e:Vd Y Z H Y (Z.set i c') (bq H a o):=Vd.put ha h m f;have n:∀b,H b≠Th->bq H a o b≠Th:=λb h=>by
  by_cases z:b=a
  .subst z;rw[aF];simp
  .rw[az z];exact h
 refine⟨by rw[UJ];exact s.len,s.nd,λb h=>n b (s.bn b h),s.ba,λj b h=>n b (s.al j b h),λj b d g l=>?_⟩;rcases b4 l with⟨rfl,rfl⟩|⟨p,l⟩
 .rw[ha]at g;cases g;rw[PK h m f];exact new
 .exact(s.ZU j b d g l).ev e.ev e.pre λu q=>by rw[az (λz=>p (s.nd j i a (by rw[<-z];exact g) ha))];exact q
theorem sJ{i:Nat}{a:Tt}{c:Cell}{o:HO}(ha:Y[i]?=lD a)(h:Z[i]?=lD c)(b:c≠.dead):Ev (ow B Y Z) H (ow B Y Z) (bq H a o):=Ev.mut (.inr ⟨i,c,ha,h,b⟩) o
theorem bC{Y:Type}{l:bg Y}{x y:Y}{i:Nat}(h:(l++[x])[i]?=lD y):l[i]?=lD y\/(i=l.length/\y=x):=by
 by_cases hi:i<l.length
 .rw[TF hi]at h;exact .inl h
 .rw[Um (by omega)]at h
  cases q:i - l.length with
  |zero=>rw[q]at h;cases h;exact .inr ⟨by omega,rfl⟩
  |succ n=>rw[q]at h;cases h
theorem fD{Y:Type}{l:bg Y}{x y:Y}{i:Nat}(h:l[i]?=lD y):(l++[x])[i]?=lD y:=by rw[TF (Tn.mp h).1];exact h
theorem bH:(l++[x])[l.length]?=lD x:=by simp
theorem uv(g:Y.length=Z.length)(h:Lv (Y++[p]) (Z++[c]) b):Lv Y Z b\/b=p:=by
 obtain⟨i,d,a,e,f⟩:=h;rcases bC a with a|⟨e1,e2⟩
 .rcases bC e with e|⟨e1,e2⟩
  .exact .inl ⟨i,d,a,e,f⟩
  .have:=(Tn.mp a).1;omega
 .exact .inr e2
theorem Vd.abh(g:Y.length=Z.length)(s:Vp H H')(f:H p=Th):Vd Y Z H (Y++[p]) (Z++[c]) H':=
 ⟨λi a h=>fD h,λb u q _=>s b u q,λb z=>(uv g z).imp id λe=>by rw[e];exact f⟩
theorem StoOk.abh(s:StoOk B K H Y Z)(e:Vp H H')(l:H p=Th)(m:H' p≠Th)(new:COk (ow B (Y++[p]) (Z++[c])) K H' (Y++[p]) p c):StoOk B K H' (Y++[p]) (Z++[c]):=by
 have ev:Vd Y Z H (Y++[p]) (Z++[c]) H':=Vd.abh s.len e l;have n:∀b,H b≠Th->H' b≠Th:=λb h z=>h (e.free z);refine⟨by rw[Tz,Tz,s.len];rfl,λi j a f g=>?_,λa h=>n a (s.bn a h),λa h i q=>?_,λi a h=>?_,λi a d f g=>?_⟩
 .rcases bC f with g1|⟨e1,e2⟩<;>rcases bC g with g2|⟨e3,e4⟩
  .exact s.nd i j a g1 g2
  .exact a6 (by rw[e4];exact l) (s.al i a g1)
  .exact a6 (by rw[e2];exact l) (s.al j a g2)
  .omega
 .rcases bC q with q|⟨_,e2⟩
  .exact s.ba a h i q
  .subst e2;exact s.bn a h l
 .rcases bC h with h|⟨_,e2⟩
  .exact n a (s.al i a h)
  .subst e2;exact m
 .rcases bC g with g|⟨e1,e2⟩
  .rcases bC f with f|⟨e1,_⟩
   .exact(s.ZU i a d f g).ev ev.ev ev.pre λo q=>e _ _ q
   .have:=(Tn.mp g).1;have:=s.len;omega
  .rcases bC f with f|⟨_,e3⟩
   .have:=(Tn.mp f).1;have:=s.len;omega
   .subst e2 e3;exact new
def WS(K:Tg)(E:XK)(B:cg)(H:Hp)(Y:bg Tt)(Z:a9)(P:A->bg Tt->a9->Hp->Prop):RS A->Prop
 |.ok a T=>∀X H',Vd Y Z H X T H'->StoOk B K H' X T->P a X T H'
 |.er x T=>∀c dx X H',Vd Y Z H X T H'->StoOk B K H' X T->XOk K (ow B X T) H' c dx x->E c dx H'
 |.bad=>False
theorem WS.from(e:Vd Y Z H U Z1 R)(h:WS K E B H Y Z P r):WS K E B R U Z1 P r:=by
 cases r with
 |ok a M=>exact λS N f b=>h S N (e.trans f) b
 |er x M=>exact λc dx S N f b=>h c dx S N (e.trans f) b
 |bad=>exact h
theorem WS.bind(h:WS K E B H Y Z P (r.bind k)):WS K E B H Y Z (λa U Z1 R=>WS K E B R U Z1 P (k a Z1)) r:=by
 cases r with
 |ok a Z1=>exact λU R b _=>WS.from b h
 |er x Z1=>exact h
 |bad=>exact h
theorem WS.UB(h:WS K E B H Y Z P ((RS.UB Z o).bind k)):∃a,o=lD a/\WS K E B H Y Z P (k a Z):=by
 cases o with
 |none=>exact h.elim
 |some a=>exact⟨a,rfl,h⟩
theorem WS.imp(h:WS K E B H Y Z P r)(g:∀a X T H',Vd Y Z H X T H'->StoOk B K H' X T->P a X T H'->P' a X T H'):WS K E B H Y Z P' r:=by
 cases r with
 |ok a Z1=>exact λU R e b=>g a U Z1 R e b (h U R e b)
 |er x Z1=>exact h
 |bad=>exact h
theorem WS.now(s:StoOk B K H Y Z)(h:WS K E B H Y Z P (.ok a Z)):P a Y Z H:=h Y H .refl s
end
abbrev cT:=bu->a9->RS SV
abbrev x3:=bu->a9->RS Bool
abbrev z4:=bu->a9->RS (bg SV)
def cG(K:Tg)(E:XK)(t:TE)(f:cT):Prop:=
 ∀(B:cg) (b:L2.St) (H:Hp) (α:bg Tt) (Z:a9) (ρ:bu) (Q:VK),StoOk B K H α Z->Wn (ow B α Z) K H α b ρ->WS K E B H α Z (λx a g e=>∀v,Ws (ow B a g) K e a v x->Q v e) (f ρ Z)->t b H Q
def zp(K:Tg)(E:XK)(t:TT)(f:x3):Prop:=
 ∀(B:cg) (a:L2.St) (H:Hp) (α:bg Tt) (Z:a9) (ρ:bu) (Q:Bool->Hp->Prop),StoOk B K H α Z->Wn (ow B α Z) K H α a ρ->WS K E B H α Z (λb _ _ e=>Q b e) (f ρ Z)->t a H Q
def x8(K:Tg)(E:XK)(t:TA)(f:z4):Prop:=
 ∀(B:cg) (b:L2.St) (H:Hp) (α:bg Tt) (Z:a9) (ρ:bu) (Q:bg V->Hp->Prop),StoOk B K H α Z->Wn (ow B α Z) K H α b ρ->WS K E B H α Z (λxs a g e=>∀vs,VZ (ow B a g) K e a vs xs->Q vs e) (f ρ Z)->t b H Q
section
variable{B O M:cg}{K:Tg}{E:XK}{H H' T H2:Hp}{Y N X J:bg Tt}{Z Z' Z1 P:a9}{U:L2.St}{ρ:bu}{v:V}
def Ml:br SV->br PV
 |some (.fz d)=>lD (.fz d)
 |_=>Th
def cD(ρ:bu):bp:=ρ.map Ml
theorem vi{i:Nat}(h:(cD ρ)[i]?=lD (lD x)):∃d,x=.fz d/\ρ[i]?=lD (lD (.fz d)):=by
 unfold cD at h;rw[TH]at h;cases q:ρ[i]? with
 |none=>rw[q]at h;cases h
 |some o=>
  rw[q]at h;have a:=TQ h;unfold Ml at a;split at a
  .cases a;exact⟨_,rfl,rfl⟩
  .cases a
theorem Ft(s:StoOk B K H Y Z)(a:Wn (ow B Y Z) K H Y U ρ):Rl K (ow B Y Z) H (ow B Y Z) U H (cD ρ):=by
 refine⟨Vp.refl _,λ_ h=>h,s.owd,s.noO,by unfold cD;rw[Tj];exact a.1,λi x h=>?_,λi j ds l w h=>?_⟩
 .obtain⟨d,rfl,b⟩:=vi h;obtain⟨v,g,f⟩:=a.2 i _ b;exact⟨v,g,f⟩
 .obtain⟨d,e,_⟩:=vi h;cases e
def my(Z:a9):RV->RS SV
 |.fz d=>.ok (.fz d) Z
 |.ow ds=>.ok (.rf Z.length) (Z++[.lst (ds.map .fz)])
abbrev PQ(B:cg)(K:Tg)(Q:VK):SV->bg Tt->a9->Hp->Prop:=λx N Z' H'=>∀v,Ws (ow B N Z') K H' N v x->Q v H'
theorem kW(O:cg)(Y:bg Tt):∀{vs:bg V} {ds:bg D},Vl O K H vs ds->VZ O K H Y vs (ds.map .fz)
 |_,_,.nil=>.nil
 |_,_,.cons h t=>.cons h (kW O Y t)
theorem A1:∀{vs:bg V} {ds:bg D},VZ O K H Y vs (ds.map .fz)->Vl O K H vs ds
 |_,[],.nil=>.nil
 |_,_::_,.cons h t=>.cons h (A1 t)
theorem uw(s:StoOk B K H Y Z)(w:WS K E B H Y Z (PQ B K Q) (my Z (.ow ds)))(e:Vp H H')(a:H p=Th)(h:H' p=lD (.lst vs))(hd:Vl M K H' vs ds)(f:∀b,ow B Y Z b->M b)(g:M p):Q (.ref p) H':=by
 have sub:∀b,ow B (Y++[p]) (Z++[.lst (ds.map .fz)]) b->M b:=λb z=>z.elim (λq=>f b (.inl q)) λq=>(uv s.len q).elim (λq=>f b (.inr q)) λq=>by rw[q];exact g
 exact w (Y++[p]) H' (Vd.abh s.len e a) (s.abh e a (by rw[h];simp) ⟨vs,h,kW _ _ (hd.ev (Ev.sub sub))⟩) (.ref p) ⟨p,by rw[<-s.len];exact bH,rfl⟩
theorem Iz(s:StoOk B K H Y Z)(w:WS K E B H Y Z (PQ B K Q) (my Z rv)):Fin (ow B Y Z) K H Q rv:=by
 cases rv with
 |fz d=>exact λv H' e a=>w Y H' (Vd.same e) (s.grow e) v a
 |ow ds=>exact λp vs H' e f h a=>uw s w e f h a (λb z=>.inl z) (.inr rfl)
def ae(f:FE):cT:=λρ Z=>match f (cD ρ) with
 |.ok (.fz d,_)=>.ok (.fz d) Z
 |.ok (.ow ds,_)=>my Z (.ow ds)
 |.ok (.pl _,_)=>.bad
 |.er x=>.er x Z
 |.bad=>.bad
theorem aq(h:EO K E t f):cG K E t (ae f):=by
 intro B U H Y Z ρ Q s g w;refine h (ow B Y Z) H (ow B Y Z) U H (cD ρ) Q (Ft s g) ?_;unfold ae at w;cases q:f (cD ρ) with
 |bad=>rw[q]at w;exact w.elim
 |er x=>rw[q]at w;exact λc dx H' e k=>w c dx Y H' (Vd.same e) (s.grow e) k
 |ok r=>
  obtain⟨pv,b⟩:=r;rw[q]at w;intro M v H' e R p;cases pv with
  |fz d=>exact w Y H' (Vd.same R.same) (s.grow R.same) v (DV.ev (Ev.sub R.bo) p)
  |ow ds=>obtain⟨a,vs,rfl,n,m,l,j,o⟩:=p;exact uw s w R.same m l j R.bo n
  |pl i=>exact w.elim
def bT(f:FT):x3:=λρ Z=>match f (cD ρ) with
 |.ok (b,_)=>.ok b Z
 |.er x=>.er x Z
 |.bad=>.bad
theorem iL(h:TTO K E t f):zp K E t (bT f):=by
 intro B U H Y Z ρ Q s g w;refine h (ow B Y Z) H (ow B Y Z) U H (cD ρ) Q (Ft s g) ?_;unfold bT at w;cases q:f (cD ρ) with
 |bad=>rw[q]at w;exact w.elim
 |er x=>rw[q]at w;exact λc dx H' e k=>w c dx Y H' (Vd.same e) (s.grow e) k
 |ok r=>obtain⟨b,a⟩:=r;rw[q]at w;exact λM H' e R=>w Y H' (Vd.same R.same) (s.grow R.same)
def ay(i:Nat):cT:=λρ Z=>match ρ[i]? with
 |some (lD x)=>.ok x Z
 |_=>.bad
theorem aJ:cG K E (uF i) (ay i):=by
 intro B U H Y Z ρ Q s a w;unfold ay at w;cases q:ρ[i]? with
 |none=>rw[q]at w;exact w.elim
 |some o=>
  cases o with
  |none=>rw[q]at w;exact w.elim
  |some x=>rw[q]at w;obtain⟨v,e,b⟩:=a.2 i x q;exact⟨v,e,WS.now s w v b⟩
def gS(K:Tg)(C:Str)(fs:bg Str):Prop:=∃Ca,T7 K TZ C=lD (lD (.ref Ca))/\Cls K Ca/\∀f∈fs,XM K Ca f
def bx(C f:Str)(e:cT):cT:=λρ Z=>(e ρ Z).bind λx Z1=>match x with
 |.rf i=>(match Z1[i]? with
  |some (.obj D fs)=>if D=C then RS.UB Z1 (fs.lookup f) else .bad
  |_=>.bad)
 |_=>.bad
theorem vH:∀{ws:bg (Str×V)} {fs:bg (Str×SV)},Paired (λ(p:Str×V) (q:Str×SV)=>p.1=q.1/\Ws O K H Y p.2 q.2) ws fs->fs.lookup f=lD x->∃v,ws.lookup f=lD v/\Ws O K H Y v x
 |_,_,.nil,h=>by cases h
 |(a,v)::ws,(b,y)::fs,.cons ⟨h1,h2⟩ t,h=>by
  cases h1;rw[T4]at h⊢;split at h
  .cases h;exact⟨v,rfl,h2⟩
  .exact vH t h
theorem vK:∀{ws:bg (Str×V)} {fs:bg (Str×SV)},Paired (λ(p:Str×V) (q:Str×SV)=>p.1=q.1/\Ws O K H Y p.2 q.2) ws fs->fs.lookup f=Th->ws.lookup f=Th
 |_,_,.nil,h=>rfl
 |(a,v)::ws,(b,y)::fs,.cons ⟨h1,h2⟩ t,h=>by
  cases h1;rw[T4]at h⊢;split at h
  .cases h
  .exact vK t h
theorem cF(p:gS K C L)(o:f∈L)(ha:cG K E ta fa):cG K E (PH K ta f) (bx C f fa):=by
 intro B U H Y Z ρ Q s j w;refine ha B U H Y Z ρ _ s j (w.bind.imp λx X Z1 T G e b v m=>?_);cases x with
 |fz d=>exact b.elim
 |tp l=>exact b.elim
 |rf i=>
  obtain⟨a,ha,rfl⟩:=m;dsimp only at b;cases q:Z1[i]? with
  |none=>rw[q]at b;exact b.elim
  |some c=>
   rw[q]at b;cases c with
   |obj D fs=>
    dsimp only at b;by_cases z:D=C
    .subst z
     rw[av rfl]at b;obtain⟨Ca,dx,ws,y,t,r⟩:=e.ZU i a _ ha q;cases ql:fs.lookup f with
     |none=>rw[ql]at b;exact b.elim
     |some x=>rw[ql]at b;obtain⟨u,n,h⟩:=vH r ql;obtain⟨I,g,F,A⟩:=p;rw[y]at g;cases g;exact⟨a,Ca,dx,ws,u,rfl,t,F,A f o,n,WS.now e b u h⟩
    .rw[ax z]at b;exact b.elim
   |_=>exact b.elim
def aL{Y a:Type}(f:Y->br a):bg Y->br (bg a)
 |[]=>lD []
 |x::r=>match f x with
  |some y=>(match aL f r with
   |some b=>lD (y::b)
   |none=>Th)
  |none=>Th
def uY:Nat->a9->SV->br D
 |_,_,.fz d=>lD d
 |0,_,_=>Th
 |n+1,Z,.rf i=>match Z[i]? with
  |some (.lst xs)=>(aL (uY n Z) xs).map .list
  |_=>Th
 |n+1,Z,.tp l=>(aL (λx=>uY n Z x.sv) l).map .tuple
theorem dz{Y a:Type}{f:Y->br a}{R:V->Y->Prop}{S:V->a->Prop}(h:∀v x y,R v x->f x=lD y->S v y):∀{vs:bg V} {xs:bg Y} {ys:bg a},Paired R vs xs->aL f xs=lD ys->Paired S vs ys
 |_,_,_,.nil,e=>by cases e;exact .nil
 |_,_,_,.cons (b:=x) (l₂:=xs) r t,e=>by
  unfold aL at e;cases q:f x with
  |none=>rw[q]at e;cases e
  |some y=>
   rw[q]at e;dsimp only at e;cases q2:aL f xs with
   |none=>rw[q2]at e;cases e
   |some ys=>rw[q2]at e;cases e;exact .cons (h _ _ _ r q) (dz h t q2)
theorem kH:∀{vs:bg V} {ds:bg D},Paired (DV O K H) vs ds->Vl O K H vs ds
 |_,_,.nil=>.nil
 |_,_,.cons h t=>.cons h (kH t)
theorem Nl:Ev O H noO H:=Ev.sub λ_ z=>z.elim
theorem j6(s:StoOk B K H Y Z):∀(n:Nat) {v:V} {x:SV} {d:D},Ws (ow B Y Z) K H Y v x->uY n Z x=lD d->DV noO K H v d
 |n,v,.fz d',d,h,e=>by
  have g:lD d'=lD d:=by cases n<;>exact e
  cases g;exact DV.ev Nl h
 |0,v,.rf i,d,h,e=>by cases e
 |0,v,.tp l,d,h,e=>by cases e
 |n+1,v,.rf i,d,h,e=>by
  obtain⟨a,ha,rfl⟩:=h;unfold uY at e;cases q:Z[i]? with
  |none=>rw[q]at e;cases e
  |some c=>
   rw[q]at e;cases c with
   |lst xs=>
    dsimp only at e;cases q2:aL (uY n Z) xs with
    |none=>rw[q2]at e;cases e
    |some ds=>rw[q2]at e;cases e;obtain⟨vs,f,b⟩:=s.ZU i a _ ha q;exact .lst ⟨Xz.of f,λz=>z.elim⟩ (kH (dz (R:=Ws (ow B Y Z) K H Y) (λv x y r e=>j6 s n r e) b q2))
   |_=>cases e
 |n+1,v,.tp l,d,h,e=>by
  obtain⟨a,xs,rfl,f,b⟩:=h;unfold uY at e;cases q2:aL (λx=>uY n Z x.sv) l with
  |none=>rw[q2]at e;cases e
  |some ds=>rw[q2]at e;cases e;exact .tup (f.ev Nl) (kH (dz (λv x y r e=>j6 s n (by cases x<;>exact r) e) b q2))
def wk:SV->br D
 |.fz d=>lD d
 |_=>Th
def sh(Z:a9):SV->br D
 |.fz d=>lD d
 |.rf i=>match Z[i]? with
  |some (.lst xs)=>(aL wk xs).map .list
  |_=>Th
 |.tp _=>Th
theorem IQ(s:StoOk B K H Y Z)(h:Ws (ow B Y Z) K H Y v x)(e:sh Z x=lD d):DX (ow B Y Z) K H v d:=by
 cases x with
 |fz g=>cases e;exact DV.x h
 |tp l=>cases e
 |rf i=>
  obtain⟨a,ha,rfl⟩:=h;unfold sh at e;dsimp only at e;cases q:Z[i]? with
  |none=>rw[q]at e;cases e
  |some c=>
   rw[q]at e;cases c with
   |lst xs=>
    dsimp only at e;cases q2:aL wk xs with
    |none=>rw[q2]at e;cases e
    |some ds=>
     rw[q2]at e;cases e;obtain⟨vs,f,b⟩:=s.ZU i a _ ha q;refine⟨a,vs,rfl,Xz.of f,kH (dz (λv x y r e=>?_) b q2)⟩;cases x with
     |fz d=>cases e;exact r
     |rf i=>cases e
     |tp l=>cases e
   |_=>cases e
def KR:D->Bool
 |.none=>To
 |.bool _=>To
 |.int _=>To
 |.str _=>To
 |_=>Tw
theorem LO(h:KR d=To)(a:DV O K H v d):DV M K H' v d:=by
 cases a with
 |V8=>exact .V8
 |bl b=>exact .bl b
 |int i=>exact .int i
 |str x=>exact .str x
 |tup _ _=>cases h
 |lst _ _=>cases h
def yN(Z:a9):RV->RS SV
 |.fz d=>if KR d=To then .ok (.fz d) Z else .bad
 |.ow _=>.bad
theorem FY(s:StoOk B K H Y Z)(w:WS K E B H Y Z (PQ B K Q) (yN Z rv)):Fin noO K H Q rv:=by
 cases rv with
 |fz d=>
  have w:WS K E B H Y Z (PQ B K Q) (if KR d=To then RS.ok (SV.fz d) Z else RS.bad):=w;by_cases z:KR d=To
  .rw[av z]at w;exact λv H' e a=>w Y H' (Vd.same e) (s.grow e) v (LO z a)
  .rw[ax z]at w;exact w.elim
 |ow ds=>exact w.elim
theorem Ic:oZ noO H:=λ_ _ z=>z
def ub(f:D->D->br RV)(x y:SV)(Z:a9):RS SV:=match sh Z x,sh Z y with
 |some dx,lD a=>(RS.UB Z (f dx a)).bind λrv Z1=>my Z1 rv
 |_,_=>(RS.UB Z (uY 6 Z x)).bind λdx Z1=>(RS.UB Z1 (uY 6 Z1 y)).bind λa P=>(RS.UB P (f dx a)).bind λrv b=>yN b rv
theorem AC(n:ri K r f)(s:StoOk B K H Y Z)(m:Ws (ow B Y Z) K H Y x a)(l:Ws (ow B Y Z) K H Y y b)(w:WS K E B H Y Z (PQ B K Q) (ub f a b Z)):r x y H Q:=by
 have e:WS K E B H Y Z (PQ B K Q) ((RS.UB Z (uY 6 Z a)).bind λdx Z1=>(RS.UB Z1 (uY 6 Z1 b)).bind λi P=>(RS.UB P (f dx i)).bind λrv o=>yN o rv)->r x y H Q:=λw=>by obtain⟨dx,g,w⟩:=w.UB;obtain⟨i,h,w⟩:=w.UB;obtain⟨rv,j,w⟩:=w.UB;exact n noO H x y dx i rv Q Ic (DV.x (j6 s 6 m g)) (DV.x (j6 s 6 l h)) j (FY s w)
 unfold ub at w;cases g:sh Z a with
 |none=>rw[g]at w;exact e w
 |some dx=>
  cases h:sh Z b with
  |none=>rw[g,h]at w;exact e w
  |some i=>rw[g,h]at w;obtain⟨rv,j,w⟩:=w.UB;exact n _ H x y dx i rv Q s.noO (IQ s m g) (IQ s l h) j (Iz s w)
def kA(f:D->D->br RV)(fa fb:cT):cT:=λρ Z=>(fa ρ Z).bind λx Z1=>(fb ρ Z1).bind λy P=>ub f x y P
theorem gY(l:ri K r f)(ha:cG K E ta fa)(m:cG K E tb fb):cG K E (Jm r ta tb) (kA f fa fb):=by intro B U H Y Z ρ Q s a w;refine ha B U H Y Z ρ _ s a (w.bind.imp λx X Z1 T o h e v i=>?_);refine m B U T X Z1 ρ _ h (a.VX o) (e.bind.imp λy J P H2 n g b u j=>?_);exact AC l g (i.VX n) j b
def JI:SV->br Bool
 |.fz (.bool b)=>lD b
 |_=>Th
theorem J7(e:JI x=lD b)(h:Ws O K H Y v x):v=.bl b:=by
 unfold JI at e;split at e
 .cases e;cases h;rfl
 .cases e
def bM(fa:cT):x3:=λρ Z=>(fa ρ Z).bind λx Z1=>RS.UB Z1 (JI x)
theorem gL(ha:cG K E ta fa):zp K E (Ho ta) (bM fa):=by
 intro B U H Y Z ρ Q s e w;refine ha B U H Y Z ρ _ s e (w.bind.imp λx X Z1 T h f a v g=>?_);cases q:JI x with
 |none=>rw[q]at a;exact a.elim
 |some b=>rw[q]at a;exact⟨b,J7 q g,WS.now f a⟩
theorem vI(ha:cG K E ta fa):zp K E (tB ta) (bM fa):=gL ha
def n9(fa fb:x3):x3:=λρ Z=>(fa ρ Z).bind λb Z1=>if b=To then fb ρ Z1 else .ok Tw Z1
def zh(fa fb:x3):x3:=λρ Z=>(fa ρ Z).bind λb Z1=>if b=To then .ok To Z1 else fb ρ Z1
def uP(fa:x3):x3:=λρ Z=>(fa ρ Z).bind λb Z1=>.ok (!b) Z1
theorem JY(j:zp K E t f)(i:zp K E u g):zp K E (P0 t u) (n9 f g):=by
 intro B U H Y Z ρ Q s e w;refine j B U H Y Z ρ _ s e (w.bind.imp λb X Z1 T l h a=>?_);cases b with
 |true=>exact i B U T X Z1 ρ Q h (e.VX l) a
 |false=>exact WS.now h a
theorem uu(j:zp K E t f)(i:zp K E u g):zp K E (SK t u) (zh f g):=by
 intro B U H Y Z ρ Q s e w;refine j B U H Y Z ρ _ s e (w.bind.imp λb X Z1 T l h a=>?_);cases b with
 |true=>exact WS.now h a
 |false=>exact i B U T X Z1 ρ Q h (e.VX l) a
theorem Du(h:zp K E t f):zp K E (O9 t) (uP f):=by intro B U H Y Z ρ Q s e w;exact h B U H Y Z ρ _ s e (w.bind.imp λb X Z1 T i g a=>WS.now g a)
def tm:x3:=λ_ Z=>.ok To Z
theorem zS:zp K E E4 tm:=λB U H Y Z ρ Q s a w=>WS.now s w
def Bo(fa fb:cT):cT:=λρ Z=>(bM fa ρ Z).bind λb Z1=>if b=To then fb ρ Z1 else .ok (.fz (.bool Tw)) Z1
theorem DK(ha:cG K E ta fa)(g:cG K E tb fb):cG K E (Ni ta tb) (Bo fa fb):=by
 intro B U H Y Z ρ Q s e w;refine gL ha B U H Y Z ρ (λc T=>if c=To then tb U T Q else Q (.bl Tw) T) s e (w.bind.imp λb X Z1 T h f a=>?_);cases b with
 |true=>exact g B U T X Z1 ρ Q f (e.VX h) a
 |false=>exact WS.now f a _ (.bl Tw)
def Jg(c:x3)(fa fb:cT):cT:=λρ Z=>(c ρ Z).bind λb Z1=>if b=To then fa ρ Z1 else fb ρ Z1
theorem Fh(h:zp K E t c)(ha:cG K E ta fa)(i:cG K E tb fb):cG K E (RJ t ta tb) (Jg c fa fb):=by
 intro B U H Y Z ρ Q s a w;refine h B U H Y Z ρ _ s a (w.bind.imp λb X Z1 T g f e=>?_);cases b with
 |true=>exact ha B U T X Z1 ρ Q f (a.VX g) e
 |false=>exact i B U T X Z1 ρ Q f (a.VX g) e
def aX:z4:=λ_ Z=>.ok [] Z
def ao(fa:cT)(fr:z4):z4:=λρ Z=>(fa ρ Z).bind λx Z1=>(fr ρ Z1).bind λxs P=>.ok (x::xs) P
theorem cI:x8 K E jK aX:=λB U H Y Z ρ Q s a w=>WS.now s w [] .nil
theorem aQ(ha:cG K E ta fa)(j:x8 K E tr fr):x8 K E (fy ta tr) (ao fa fr):=by intro B U H Y Z ρ Q s b w;refine ha B U H Y Z ρ _ s b (w.bind.imp λx X Z1 T m h f v i=>?_);refine j B U T X Z1 ρ _ h (b.VX m) (f.bind.imp λxs J P H2 l g e vs a=>?_);exact WS.now g e (v::vs) (.cons (i.VX l) a)
def Rr:SV->br AV
 |.fz d=>lD (.fz d)
 |.rf i=>lD (.rf i)
 |.tp _=>Th
def RM(xs:bg SV):br SV:=match aL wk xs with
 |some ds=>lD (.fz (.tuple ds))
 |none=>(aL Rr xs).map .tp
def ph(fa:z4):cT:=λρ Z=>(fa ρ Z).bind λxs Z1=>if xs.length<=1000 then RS.UB Z1 (RM xs) else .bad
theorem Aj(r:Ws O K H Y v x)(e:wk x=lD d):DV O K H v d:=by
 cases x with
 |fz d=>cases e;exact r
 |rf i=>cases e
 |tp l=>cases e
theorem Px(r:Ws O K H Y v x)(e:Rr x=lD d):AOk O K H Y v d:=by
 cases x with
 |fz d=>cases e;exact r
 |rf i=>cases e;exact r
 |tp l=>cases e
theorem xm(ha:x8 K E ta fa):cG K E (Kj ta) (ph fa):=by
 intro B U H Y Z ρ Q s m w;refine ha B U H Y Z ρ _ s m (w.bind.imp λxs X Z1 T n f a vs g=>?_);by_cases hn:xs.length<=1000
 .rw[av hn]at a
  refine⟨by rw[g.length];exact AZ hn,λp j=>?_⟩;have b:Vp T (bq T p (.tup vs)):=bO j _;have e:Vd X Z1 T X Z1 (bq T p (.tup vs)):=Vd.same b;have i:Yh (ow B X Z1) K (bq T p (.tup vs)) p vs:=⟨XY.of aF,λz=>a6 z (f.noO p j)⟩;unfold RM at a;cases q:aL wk xs with
  |some ds=>rw[q]at a;exact a X _ e (f.grow b) _ (.tup i (kH (dz (R:=Ws (ow B X Z1) K T X) (λv x y r h=>(Aj r h).ev e.ev) g q)))
  |none=>
   rw[q]at a;dsimp only at a;cases q2:aL Rr xs with
   |none=>rw[q2]at a;exact a.elim
   |some l=>rw[q2]at a;exact a X _ e (f.grow b) _ ⟨p,vs,rfl,i,dz (R:=Ws (ow B X Z1) K T X) (λv x y r h=>(Px r h).ev e.ev e.pre) g q2⟩
 .rw[ax hn]at a;exact a.elim
def OZ(f:bg D->br RV)(xs:bg SV)(Z:a9):RS SV:=match aL (sh Z) xs with
 |some ds=>(RS.UB Z (f ds)).bind λrv Z1=>my Z1 rv
 |_=>(RS.UB Z (aL (uY 6 Z) xs)).bind λds Z1=>(RS.UB Z1 (f ds)).bind λrv a=>yN a rv
def Dx(f:bg D->br RV)(fa:z4):cT:=λρ Z=>(fa ρ Z).bind λxs Z1=>OZ f xs Z1
theorem uc(i:EL K r f)(ha:x8 K E ta fa):cG K E (yG r ta) (Dx f fa):=by
 intro B U H Y Z ρ Q s j w;refine ha B U H Y Z ρ _ s j (w.bind.imp λxs X Z1 T m b a vs h=>?_);unfold OZ at a;cases q1:aL (sh Z1) xs with
 |none=>rw[q1]at a;obtain⟨ds,l,a⟩:=a.UB;obtain⟨rv,g,a⟩:=a.UB;exact i noO T vs ds rv Q Ic (dz (R:=Ws (ow B X Z1) K T X) (λv x y r e=>DV.x (j6 b 6 r e)) h l) g (FY b a)
 |some ds=>rw[q1]at a;obtain⟨rv,g,a⟩:=a.UB;exact i _ T vs ds rv Q b.noO (dz (R:=Ws (ow B X Z1) K T X) (λv x y r e=>IQ b r e) h q1) g (Iz b a)
end
section
variable{B O O':cg}{K:Tg}{E:XK}{H H' M L:Hp}{Y J X U:bg Tt}{Z S Z1 T:a9}{N:L2.St}{ρ:bu}{v:V}
theorem An:∀{vs:bg V} {xs:bg β} {i:Nat} {x:β},Paired R vs xs->xs[i]?=lD x->∃v,vs[i]?=lD v/\R v x
 |_,_,_,_,.nil,e=>by simp at e
 |_,_,0,_,.cons h _,e=>by simp at e;subst e;exact⟨_,rfl,h⟩
 |_,_,i+1,x,.cons _ t,e=>by obtain⟨v,b,a⟩:=An t (by simpa using e);exact⟨v,by simpa using b,a⟩
theorem MM{vs:bg V}(h:Paired R vs xs)(e:ng xs i=lD x):∃v,ng vs i=lD v/\R v x:=by
 unfold ng at e⊢;rw[h.length];cases q:M6 xs.length i with
 |none=>rw[q]at e;cases e
 |some j=>rw[q]at e;exact An h e
def FD:SV->br Int
 |.fz (.int i)=>lD i
 |_=>Th
theorem C6(e:FD x=lD i)(h:Ws O K H Y v x):v=.int i:=by
 unfold FD at e;split at e
 .cases e;cases h;rfl
 .cases e
def Op(x y:SV)(Z:a9):RS SV:=match x with
 |.fz _=>ub bJ x y Z
 |.rf j=>(match Z[j]? with
  |some (.lst xs)=>(RS.UB Z (FD y)).bind λi Z1=>RS.UB Z1 (ng xs i)
  |_=>.bad)
 |.tp l=>(RS.UB Z (FD y)).bind λi Z1=>RS.UB Z1 ((ng l i).map AV.sv)
def ke(fa fb:cT):cT:=λρ Z=>(fa ρ Z).bind λx Z1=>(fb ρ Z1).bind λy T=>Op x y T
theorem sB(ha:cG K E ta fa)(C:cG K E tb fb):cG K E (Jm (RD K) ta tb) (ke fa fb):=by
 intro B N H Y Z ρ Q s r w;refine ha B N H Y Z ρ _ s r (w.bind.imp λx X Z1 M G A t v e=>?_);refine C B N M X Z1 ρ _ A (r.VX G) (t.bind.imp λy U T L F f b u n=>?_);have e:=e.VX F;unfold Op at b;cases x with
 |fz d=>exact AC cy f e n b
 |rf j=>
  obtain⟨a,ha,rfl⟩:=e;dsimp only at b;cases q:T[j]? with
  |none=>rw[q]at b;exact b.elim
  |some c=>
   rw[q]at b;cases c with
   |lst xs=>
    obtain⟨i,h,b⟩:=WS.UB b;cases qa:ng xs i with
    |none=>rw[qa]at b;exact b.elim
    |some x=>rw[qa]at b;obtain⟨vs,p,o⟩:=f.ZU j a _ ha q;obtain⟨z,m,g⟩:=MM o qa;exact .inl ⟨a,vs,i,z,rfl,C6 h n,Ym.of p,m,WS.now f b z g⟩
   |_=>exact b.elim
 |tp l=>
  obtain⟨a,xs,rfl,p,o⟩:=e;obtain⟨i,h,b⟩:=WS.UB b;cases qa:ng l i with
  |none=>rw[qa]at b;exact b.elim
  |some x=>rw[qa]at b;obtain⟨z,m,g⟩:=MM o qa;exact .inr (.inl ⟨a,xs,i,z,rfl,C6 h n,p.1,m,WS.now f b z (by cases x<;>exact g)⟩)
theorem rD(h:Lv Y (Z.set i .dead) b):Lv Y Z b:=by
 obtain⟨j,c,f,a,e⟩:=h;rcases b4 a with⟨rfl,rfl⟩|⟨_,a⟩
 .exact a6 rfl e
 .exact⟨j,c,f,a,e⟩
theorem Vd.kill:Vd Y Z H Y (Z.set i .dead) H:=⟨λ_ _ h=>h,λ_ _ h _=>h,λ_ h=>.inl (rD h)⟩
theorem StoOk.kill(s:StoOk B K H Y Z)(i:Nat):StoOk B K H Y (Z.set i .dead):=by
 have e:Vd Y Z H Y (Z.set i .dead) H:=Vd.kill;refine⟨by rw[UJ];exact s.len,s.nd,s.bn,s.ba,s.al,λj b d f a=>?_⟩;rcases b4 a with⟨rfl,rfl⟩|⟨g,a⟩
 .exact trivial
 .exact(s.ZU j b d f a).ev e.ev e.pre λu q=>q
theorem StoOk.ab7(s:StoOk B K H Y Z)(ha:Y[i]?=lD a):¬ow B Y (Z.set i .dead) a:=by
 rintro(z|⟨j,c,f,e,b⟩)
 .exact s.aeo ha z
 .have:=s.nd j i a f ha
  subst this;rcases b4 e with⟨_,rfl⟩|⟨g,_⟩
  .exact b rfl
  .exact g rfl
def rj(g:a9->SV->br (D×a9)):a9->bg SV->br (bg D×a9)
 |Z,[]=>lD ([],Z)
 |Z,x::r=>match g Z x with
  |some (d,Z1)=>(match rj g Z1 r with
   |some (ds,T)=>lD (d::ds,T)
   |none=>Th)
  |none=>Th
def frz:Nat->a9->SV->br (D×a9)
 |_,Z,.fz d=>lD (d,Z)
 |0,_,_=>Th
 |n+1,Z,.rf i=>match Z[i]? with
  |some (.lst xs)=>(match rj (frz n) Z xs with
   |some (ds,Z1)=>lD (.list ds,Z1.set i .dead)
   |none=>Th)
  |_=>Th
 |n+1,Z,.tp l=>match rj (frz n) Z (l.map AV.sv) with
  |some (ds,Z1)=>lD (.tuple ds,Z1)
  |none=>Th
theorem xY(a:∀{Z S:a9} {v:V} {x:SV} {d:D},StoOk B K H Y Z->Ws (ow B Y Z) K H Y v x->g Z x=lD (d,S)->StoOk B K H Y S/\Vd Y Z H Y S H/\L3.DV (ow B Y S) K H v d):
  ∀{vs:bg V} {xs:bg SV} {ds:bg D} {Z S:a9},StoOk B K H Y Z->VZ (ow B Y Z) K H Y vs xs->rj g Z xs=lD (ds,S)->StoOk B K H Y S/\Vd Y Z H Y S H/\L3.Vl (ow B Y S) K H vs ds
 |_,_,_,Z,S,s,.nil,e=>by cases e;exact⟨s,.refl,.nil⟩
 |_,_,_,Z,S,s,.cons (b:=x) (l₂:=xs) r t,e=>by
  unfold rj at e;cases q:g Z x with
  |none=>rw[q]at e;cases e
  |some p=>
   obtain⟨d,Z1⟩:=p;rw[q]at e;dsimp only at e;obtain⟨j,h,n⟩:=a s r q;cases q2:rj g Z1 xs with
   |none=>rw[q2]at e;cases e
   |some l=>obtain⟨ds,T⟩:=l;rw[q2]at e;cases e;obtain⟨i,f,m⟩:=xY a j (VZ.VX h t) q2;exact⟨i,h.trans f,.cons (n.ev f.ev) m⟩
theorem wZ:∀{vs:bg V} {l:bg AV},Paired (AOk O K H Y) vs l->VZ O K H Y vs (l.map AV.sv)
 |_,_,.nil=>.nil
 |_,_,.cons (b:=x) h t=>.cons (by cases x<;>exact h) (wZ t)
theorem xy:∀(n:Nat) {Z S:a9} {v:V} {x:SV} {d:D},StoOk B K H Y Z->Ws (ow B Y Z) K H Y v x->frz n Z x=lD (d,S)->StoOk B K H Y S/\Vd Y Z H Y S H/\L3.DV (ow B Y S) K H v d
 |n,Z,S,v,.fz d',d,s,h,e=>by
  have o:lD (d',Z)=lD (d,S):=by cases n<;>exact e
  cases o;exact⟨s,.refl,h⟩
 |0,_,_,v,.rf i,d,s,h,e=>by cases e
 |0,_,_,v,.tp l,d,s,h,e=>by cases e
 |n+1,Z,S,v,.rf i,d,s,h,e=>by
  obtain⟨a,ha,rfl⟩:=h;unfold frz at e;cases q:Z[i]? with
  |none=>rw[q]at e;cases e
  |some c=>
   rw[q]at e;cases c with
   |lst xs=>
    dsimp only at e;obtain⟨vs,j,g⟩:=s.ZU i a _ ha q;cases q2:rj (frz n) Z xs with
    |none=>rw[q2]at e;cases e
    |some p=>obtain⟨ds,Z1⟩:=p;rw[q2]at e;cases e;obtain⟨b,f,m⟩:=xY (λs h e=>xy n s h e) s g q2;exact⟨b.kill i,f.trans Vd.kill,xt j (b.ab7 ha) (m.ev (Vd.kill).ev)⟩
   |_=>cases e
 |n+1,Z,S,v,.tp l,d,s,h,e=>by
  obtain⟨a,xs,rfl,j,g⟩:=h;unfold frz at e;cases q2:rj (frz n) Z (l.map AV.sv) with
  |none=>rw[q2]at e;cases e
  |some p=>obtain⟨ds,Z1⟩:=p;rw[q2]at e;cases e;obtain⟨b,f,m⟩:=xY (λs h e=>xy n s h e) s (wZ g) q2;exact⟨b,f,.tup (j.ev f.ev) m⟩
def Oo(x:SV)(Z:a9):RS SV:=match frz 4 Z x with
 |some (d,Z1)=>.ok (.fz d) Z1
 |none=>.bad
def uG(f:cT):cT:=λρ Z=>(f ρ Z).bind λx Z1=>Oo x Z1
theorem v5(h:cG K E t f):cG K E t (uG f):=by
 intro B N H Y Z ρ Q s b w;refine h B N H Y Z ρ _ s b (w.bind.imp λx X Z1 M m g a v i=>?_);unfold Oo at a;cases q:frz 4 Z1 x with
 |none=>rw[q]at a;exact a.elim
 |some p=>obtain⟨d,T⟩:=p;rw[q]at a;obtain⟨e,j,l⟩:=xy 4 g i q;exact a X M j e v l
theorem XOk.sub(h:∀b,O' b->O b)(k:XOk K O H c dx x):XOk K O' H c dx x:=by obtain⟨i,fs,g,a⟩:=k;exact⟨i,fs,g,λf d e=>let⟨g1,v,g2,g3⟩:=a f d e;⟨g1,v,g2,g3.ev (Ev.sub h)⟩⟩
def yr(F:FN)(n:Nat)(xs:bg SV)(Z:a9):RS SV:=if xs.length=n then(match aL wk xs with
 |some ds=>(match F ds with
  |.ok rv=>my Z rv
  |.er x=>.er x Z
  |.bad=>.bad)
 |none=>(RS.UB Z (aL (uY 6 Z) xs)).bind λds Z1=>(match F ds with
  |.ok rv=>yN Z1 rv
  |_=>.bad)) else .bad
def jv:RS A->RS A
 |.er _ _=>.bad
 |r=>r
def jo(F:FN)(n:Nat)(fa:z4):cT:=λρ Z=>(fa ρ Z).bind λxs Z1=>jv (yr F n xs Z1)
theorem WS.e0(h:WS K E B H Y Z P (jv r)):WS K E0 B H Y Z P r:=by
 cases r with
 |ok a Z=>exact h
 |er x Z=>exact h.elim
 |bad=>exact h
theorem L5(s:StoOk B K H Y Z)(b:VZ (ow B Y Z) K H Y vs xs)(w:WS K E B H Y Z (PQ B K Q) (yr F n xs Z)):qC K n F vs H Q E:=by
 unfold yr at w;by_cases hn:xs.length=n
 .rw[av hn]at w
  refine⟨b.length.trans hn,?_⟩;cases q:aL wk xs with
  |some ds=>
   rw[q]at w;refine⟨ow B Y Z,ds,s.owd,kH (dz (R:=Ws (ow B Y Z) K H Y) (λv x y r e=>Aj r e) b q),?_⟩;dsimp only at w;cases qF:F ds with
   |ok rv=>rw[qF]at w;exact Iz s w
   |er x=>rw[qF]at w;exact λc dx H' e k=>w c dx Y H' (Vd.same e) (s.grow e) k
   |bad=>rw[qF]at w;exact w.elim
  |none=>
   rw[q]at w;obtain⟨ds,f,w⟩:=WS.UB w;refine⟨noO,ds,λa z=>z.elim,kH (dz (R:=Ws (ow B Y Z) K H Y) (λv x y r e=>j6 s 6 r e) b f),?_⟩;cases qF:F ds with
   |ok rv=>rw[qF]at w;exact FY s w
   |er x=>rw[qF]at w;exact w.elim
   |bad=>rw[qF]at w;exact w.elim
 .rw[ax hn]at w;exact w.elim
theorem BM(ha:x8 K E ta fa):cG K E (kg (qC K n F) [] E0 ta) (jo F n fa):=by intro B N H Y Z ρ Q s b w;refine ha B N H Y Z ρ _ s b (w.bind.imp λxs X Z1 M g e a vs f=>?_);rw[Uo];exact L5 e f (WS.e0 a)
abbrev jr:=bg SV->a9->RS SV
def dR(K:Tg)(n:Nat)(F:jr):Sp:=λvs H Q E=>vs.length=n/\∃(B:cg) (Y:bg Tt) (Z:a9) (xs:bg SV),StoOk B K H Y Z/\VZ (ow B Y Z) K H Y vs xs/\WS K E B H Y Z (PQ B K Q) (F xs Z)
def qM(F:jr)(n:Nat)(fa:z4):cT:=λρ Z=>(fa ρ Z).bind λxs Z1=>if xs.length=n then jv (F xs Z1) else .bad
theorem lX(ha:x8 K E ta fa):cG K E (kg (dR K n F) [] E0 ta) (qM F n fa):=by
 intro B N H Y Z ρ Q s e w;refine ha B N H Y Z ρ _ s e (w.bind.imp λxs X Z1 M g f a vs b=>?_);rw[Uo];by_cases hn:xs.length=n
 .rw[av hn]at a;exact⟨b.length.trans hn,B,X,Z1,xs,f,b,WS.e0 a⟩
 .rw[ax hn]at a;exact a.elim
def mn(Z:a9)(C m:Str):SV->Bool
 |.rf i=>match Z[i]? with
  |some (.obj D fs)=>decide (D=C)&&(fs.lookup m).isNone
  |_=>Tw
 |_=>Tw
def uj(C m:Str)(F:jr)(n:Nat)(fo:cT)(fa:z4):cT:=λρ Z=>(fo ρ Z).bind λx Z1=>if mn Z1 C m x=To then(fa ρ Z1).bind λxs T=>(if(x::xs).length=n then F (x::xs) T else .bad) else .bad
def bc(C m:Str)(F:jr)(n:Nat)(fo:cT)(fa:z4):cT:=λρ Z=>(fo ρ Z).bind λx Z1=>if mn Z1 C m x=To then(fa ρ Z1).bind λxs T=>(if(x::xs).length=n then jv (F (x::xs) T) else .bad) else .bad
theorem E9(g:T7 K TZ C=lD (lD (.ref Ca)))(s:StoOk B K H Y Z)(f:Ws (ow B Y Z) K H Y v x)(h:mn Z C m x=To):∃a dx fs,v=.ref a/\H a=lD (.ins Ca dx fs)/\fs.lookup m=Th:=by
 cases x with
 |fz d=>cases h
 |tp l=>cases h
 |rf i=>
  obtain⟨a,ha,rfl⟩:=f;unfold mn at h;dsimp only at h;cases q:Z[i]? with
  |none=>rw[q]at h;cases h
  |some c=>
   rw[q]at h;cases c with
   |obj D fs=>rw[T6]at h;obtain⟨n,j⟩:=h;have e:=a5 n;subst e;obtain⟨r,dx,ws,b,p,o⟩:=s.ZU i a _ ha q;rw[g]at b;cases b;exact⟨a,dx,ws,rfl,p,vK o (Option.isNone_iff_eq_none.mp j)⟩
   |_=>cases h
theorem Ih(q:T7 K TZ C=lD (lD (.ref Ca)))(p:cG K E to fo)(ha:x8 K E ta fa):cG K E (vT Ca m (dR K n F) [] E to ta) (uj C m F n fo fa):=by
 intro B N H Y Z ρ Q s g w;refine p B N H Y Z ρ _ s g (w.bind.imp λx X Z1 M y i e v j=>?_);by_cases h:mn Z1 C m x=To
 .rw[av h]at e
  obtain⟨a,dx,fs,rfl,t,r⟩:=E9 q i j h;refine⟨a,dx,fs,rfl,t,r,?_⟩;refine ha B N M X Z1 ρ _ i (g.VX y) (e.bind.imp λxs U T L u o b vs f=>?_);rw[Uo];have l:VZ (ow B U T) K L U (.ref a::vs) (x::xs):=.cons (j.VX u) f;by_cases hn:(x::xs).length=n
  .rw[av hn]at b;exact⟨l.length.trans hn,B,U,T,_,o,l,b⟩
  .rw[ax hn]at b;exact b.elim
 .rw[ax h]at e;exact e.elim
theorem D8(q:T7 K TZ C=lD (lD (.ref Ca)))(p:cG K E to fo)(ha:x8 K E ta fa):cG K E (vT Ca m (dR K n F) [] E0 to ta) (bc C m F n fo fa):=by
 intro B N H Y Z ρ Q s g w;refine p B N H Y Z ρ _ s g (w.bind.imp λx X Z1 M y i e v j=>?_);by_cases h:mn Z1 C m x=To
 .rw[av h]at e
  obtain⟨a,dx,fs,rfl,t,r⟩:=E9 q i j h;refine⟨a,dx,fs,rfl,t,r,?_⟩;refine ha B N M X Z1 ρ _ i (g.VX y) (e.bind.imp λxs U T L u o b vs f=>?_);rw[Uo];have l:VZ (ow B U T) K L U (.ref a::vs) (x::xs):=.cons (j.VX u) f;by_cases hn:(x::xs).length=n
  .rw[av hn]at b;exact⟨l.length.trans hn,B,U,T,_,o,l,WS.e0 b⟩
  .rw[ax hn]at b;exact b.elim
 .rw[ax h]at e;exact e.elim
def EF:SV->Bool
 |.fz .none=>To
 |_=>Tw
def uS(C:Str)(F:jr)(n:Nat)(xs:bg SV)(Z:a9):RS SV:=if(SV.rf Z.length::xs).length=n then(F (.rf Z.length::xs) (Z++[.obj C []])).bind λr T=>(if EF r=To then .ok (.rf Z.length) T else .bad) else .bad
def HI(C:Str)(F:jr)(n:Nat)(fa:z4):cT:=λρ Z=>(fa ρ Z).bind λxs Z1=>uS C F n xs Z1
def uV(C:Str)(F:jr)(n:Nat)(fa:z4):cT:=λρ Z=>(fa ρ Z).bind λxs Z1=>jv (uS C F n xs Z1)
theorem JR(h:EF x=To)(a:Ws O K H Y v x):v=.V8:=by
 unfold EF at h;split at h
 .cases a;rfl
 .cases h
theorem Hb(p:T7 K TZ C=lD (lD (.ref Ca)))(s:StoOk B K H Y Z)(o:VZ (ow B Y Z) K H Y vs xs)(w:WS K E B H Y Z (PQ B K Q) (uS C F n xs Z)):
  ∀x dx,H x=Th->H dx=Th->dx≠x->dR K n F (.ref x::(vs++[])) (bq (bq H dx (.own x)) x (.ins Ca dx [])) (λv L=>v=.V8/\Q (.ref x) L) E:=by
 intro x dx f h t;rw[Uo];unfold uS at w;have i:Vp H (bq (bq H dx (.own x)) x (.ins Ca dx [])):=(bO h _).trans (bO (by rw[az (λz=>t z.symm)];exact f) _);have e:Vd Y Z H (Y++[x]) (Z++[.obj C []]) (bq (bq H dx (.own x)) x (.ins Ca dx [])):=Vd.abh s.len i f;have m:StoOk B K (bq (bq H dx (.own x)) x (.ins Ca dx [])) (Y++[x]) (Z++[.obj C []]):=s.abh i f (by rw[aF];simp) ⟨Ca,dx,[],p,aF,.nil⟩;have a:∀{J:bg Tt} {S:a9} {H':Hp},Vd (Y++[x]) (Z++[.obj C []]) (bq (bq H dx (.own x)) x (.ins Ca dx [])) J S H'->Ws (ow B J S) K H' J (.ref x) (.rf Z.length):=λe=>⟨x,e.pre _ _ (by rw[<-s.len];exact bH),rfl⟩;by_cases hn:(SV.rf Z.length::xs).length=n
 .rw[av hn]at w
  have j:VZ (ow B (Y++[x]) (Z++[.obj C []])) K (bq (bq H dx (.own x)) x (.ins Ca dx [])) (Y++[x]) (.ref x::vs) (.rf Z.length::xs):=.cons (a .refl) (VZ.VX e o);refine⟨j.length.trans hn,B,_,_,_,m,j,?_⟩;refine WS.imp (WS.from e w.bind) λr U T L q l b v g=>?_;by_cases z:EF r=To
  .rw[av z]at b;exact⟨JR z g,WS.now l b _ (a q)⟩
  .rw[ax z]at b;exact b.elim
 .rw[ax hn]at w;exact w.elim
theorem LQ(g:T7 K TZ C=lD (lD (.ref Ca)))(ha:x8 K E ta fa):cG K E (zB Ca (dR K n F) [] E ta) (HI C F n fa):=by intro B N H Y Z ρ Q s b w;refine ha B N H Y Z ρ _ s b (w.bind.imp λxs X Z1 M h e a vs f=>?_);exact Hb g e f a
theorem IG(g:T7 K TZ C=lD (lD (.ref Ca)))(ha:x8 K E ta fa):cG K E (zB Ca (dR K n F) [] E0 ta) (uV C F n fa):=by intro B N H Y Z ρ Q s b w;refine ha B N H Y Z ρ _ s b (w.bind.imp λxs X Z1 M h e a vs f=>?_);exact Hb g e f (WS.e0 a)
def kE(Z:a9):SV->br (Nat×bg SV)
 |.rf i=>match Z[i]? with
  |some (.lst xs)=>lD (i,xs)
  |_=>Th
 |_=>Th
theorem Dz(s:StoOk B K H Y Z)(b:Ws (ow B Y Z) K H Y v x)(h:kE Z x=lD (i,xs)):Z[i]?=lD (.lst xs)/\∃a vs,Y[i]?=lD a/\v=.ref a/\H a=lD (.lst vs)/\VZ (ow B Y Z) K H Y vs xs:=by
 cases x with
 |fz d=>cases h
 |tp l=>cases h
 |rf j=>
  obtain⟨a,ha,rfl⟩:=b;unfold kE at h;dsimp only at h;cases q:Z[j]? with
  |none=>rw[q]at h;cases h
  |some c=>
   rw[q]at h;cases c with
   |lst m=>have e:=TQ h;cases e;obtain⟨vs,g,f⟩:=s.ZU i a _ ha q;exact⟨q,a,vs,ha,rfl,g,f⟩
   |_=>cases h
theorem DG(h:Paired R vs xs)(r:R v x):Paired R (vs++[v]) (xs++[x]):=by
 induction h with
 |nil=>exact .cons r .nil
 |cons a _ b=>exact .cons a b
def pX(fo fe:cT):cT:=λρ Z=>(fo ρ Z).bind λo Z1=>(RS.UB Z1 (kE Z1 o)).bind λ_ Z1=>(fe ρ Z1).bind λx T=>(RS.UB T (kE T o)).bind λp a=>
 if p.2.length<1000000 then .ok (.fz .none) (a.set p.1 (.lst (p.2++[x]))) else .bad
theorem rH(F:cG K E to fo)(G:cG K E te fe):cG K E (RF K "list" xM to (fy te jK)) (pX fo fe):=by
 intro B N H Y Z ρ Q s j w;refine F B N H Y Z ρ _ s j (w.bind.imp λo X Z1 M e1 m e v n=>?_);obtain⟨⟨i0,y⟩,A,e⟩:=WS.UB e;obtain⟨_,t,f,_,rfl,P,_⟩:=Dz m n A;refine⟨.inl ⟨rfl,f,Ym.of P⟩,?_⟩;refine G B N M X Z1 ρ _ m (j.VX e1) (e.bind.imp λx U T L e2 l b u C=>?_);obtain⟨⟨i,xs⟩,q,b⟩:=WS.UB b;obtain⟨g,a,vs,ha,R,I,p⟩:=Dz l (n.VX e2) q;cases R;dsimp only at b;by_cases hn:xs.length<1000000
 .rw[av hn]at b;have ev:Ev (ow B U T) L (ow B U T) (bq L t (.lst (vs++[u]))):=sJ ha g (by intro z;cases z);refine⟨t,vs,u,rfl,rfl,I,uX (by rw[p.length];exact hn),?_⟩;exact b U _ (Vd.put ha g (by intro z;cases z) (by intro z;cases z)) (l.put ha g (by intro z;cases z) (by intro z;cases z) ⟨_,aF,DG (Paired.Xg p λ_ _ r=>r.ev ev λ_ _ h=>h) (C.ev ev λ_ _ h=>h)⟩) _ .V8
 .rw[ax hn]at b;exact b.elim
end
inductive FlS where
 |nx (ρ:bu)
 |bk (ρ:bu)
 |ct (ρ:bu)
 |rt (x:SV)
abbrev eV:=bu->a9->RS FlS
abbrev AH:=SV->bu->a9->RS bu
abbrev Fz:=bg SV->bu->a9->RS bu
def ml(B:cg)(K:Tg)(D:Ends):FlS->bg Tt->a9->Hp->Prop
 |.nx ρ,α,Z,H=>∀σ,Wn (ow B α Z) K H α σ ρ->D.nx σ H
 |.bk ρ,α,Z,H=>∀σ,Wn (ow B α Z) K H α σ ρ->D.bk σ H
 |.ct ρ,α,Z,H=>∀σ,Wn (ow B α Z) K H α σ ρ->D.ct σ H
 |.rt x,α,Z,H=>∀v,Ws (ow B α Z) K H α v x->D.rt v H
def mq(K:Tg)(E:XK)(t:TS)(g:eV):Prop:=
 ∀(B:cg) (a:L2.St) (H:Hp) (α:bg Tt) (Z:a9) (ρ:bu) (D:Ends),StoOk B K H α Z->Wn (ow B α Z) K H α a ρ->WS K E B H α Z (ml B K D) (g ρ Z)->t D a H
def JP(K:Tg)(E:XK)(g:TG)(f:AH):Prop:=
 ∀(B:cg) (e:L2.St) (H:Hp) (α:bg Tt) (Z:a9) (ρ:bu) (v:V) (x:SV) (Q:L2.St->Hp->Prop),StoOk B K H α Z->Wn (ow B α Z) K H α e ρ->Ws (ow B α Z) K H α v x->WS K E B H α Z (λb a i h=>∀σ',Wn (ow B a i) K h a σ' b->Q σ' h) (f x ρ Z)->g v e H Q
def Kf(K:Tg)(E:XK)(g:PL)(f:Fz):Prop:=
 ∀(B:cg) (e:L2.St) (H:Hp) (α:bg Tt) (Z:a9) (ρ:bu) (vs:bg V) (xs:bg SV) (Q:L2.St->Hp->Prop),StoOk B K H α Z->Wn (ow B α Z) K H α e ρ->VZ (ow B α Z) K H α vs xs->WS K E B H α Z (λb a i h=>∀σ',Wn (ow B a i) K h a σ' b->Q σ' h) (f xs ρ Z)->g vs e H Q
section
variable{B O O':cg}{K:Tg}{E:XK}{H H' P N:Hp}{U M T Y:bg Tt}{Z Z' Z1 X:a9}{S:L2.St}{ρ:bu}{v:V}
theorem Wn.set(a:Wn O K H U S ρ)(h:Ws O K H U v x):Wn O K H U (S.set i (lD v)) (ρ.set i (lD x)):=by
 refine⟨by rw[UJ,UJ];exact a.1,λj y f=>?_⟩;rcases b4 f with⟨rfl,e⟩|⟨m,b⟩
 .cases e;refine⟨v,?_,h⟩;rw[UL];have:=wD f;rw[a.1];exact this
 .obtain⟨u,l,g⟩:=a.2 j y b;exact⟨u,by rw[Ue (λz=>m z.symm)];exact l,g⟩
def fK(i:Nat):AH:=λx ρ Z=>.ok (ρ.set i (lD x)) Z
theorem bv:JP K E (zO i) (fK i):=λB S H U Z ρ v x Q s a h w=>WS.now s w _ (a.set h)
def yK:Fz:=λxs ρ Z=>match xs with
 |[]=>.ok ρ Z
 |_=>.bad
def lA(f:AH)(g:Fz):Fz:=λxs ρ Z=>match xs with
 |x::r=>(f x ρ Z).bind λa Z1=>g r a Z1
 |[]=>.bad
theorem wN:Kf K E Ox yK:=by
 intro B S H U Z ρ vs xs Q s a h w;cases h with
 |nil=>exact⟨rfl,WS.now s w _ a⟩
 |cons _ _=>exact w.elim
theorem jC(p:JP K E t f)(o:Kf K E u g):Kf K E (Gb t u) (lA f g):=by
 intro B S H U Z ρ vs xs Q s m h w;cases h with
 |nil=>exact w.elim
 |cons a b=>refine⟨_,_,rfl,p B S H U Z ρ _ _ _ s m a (WS.imp (WS.bind w) λi T Z1 P q n l e j=>?_)⟩;exact o B e P T Z1 i _ _ _ n j (VZ.VX q b) l
def Hj:SV->br (bg SV)
 |.fz (.tuple ds)=>lD (ds.map .fz)
 |.tp l=>lD (l.map AV.sv)
 |_=>Th
theorem Ol(h:Ws O K H U v x)(e:Hj x=lD xs):∃a vs,v=.ref a/\Yh O K H a vs/\VZ O K H U vs xs:=by
 unfold Hj at e;split at e
 .cases e
  cases h with
  |tup h f=>exact⟨_,_,rfl,h,kW _ _ f⟩
 .cases e;obtain⟨a,b,rfl,i,g⟩:=h;exact⟨a,b,rfl,i,wZ g⟩
 .cases e
def Mp(n:Nat)(f:Fz):AH:=λx ρ Z=>(RS.UB Z (Hj x)).bind λxs Z1=>if xs.length=n then f xs ρ Z1 else .bad
theorem wU(h:Kf K E t f):JP K E (PM K n t) (Mp n f):=by
 intro B S H U Z ρ v x Q s e g w;obtain⟨xs,q,w⟩:=WS.UB w;obtain⟨a,vs,rfl,i,b⟩:=Ol g q;by_cases hn:xs.length=n
 .rw[av hn]at w;exact⟨a,vs,rfl,i.1,b.length.trans hn,h B S H U Z ρ vs xs Q s e b w⟩
 .rw[ax hn]at w;exact w.elim
def cC:eV:=λρ Z=>.ok (.nx ρ) Z
def aO(f g:eV):eV:=λρ Z=>(f ρ Z).bind λa Z1=>match a with
 |.nx ρ1=>g ρ1 Z1
 |a=>.ok a Z1
def bV(f:cT):eV:=λρ Z=>(f ρ Z).bind λ_ Z1=>.ok (.nx ρ) Z1
def cO(f:cT)(g:AH):eV:=λρ Z=>(f ρ Z).bind λx Z1=>(g x ρ Z1).bind λa X=>.ok (.nx a) X
def cA(c:x3)(f g:eV):eV:=λρ Z=>(c ρ Z).bind λb Z1=>if b=To then f ρ Z1 else g ρ Z1
def hJ(f:cT):eV:=λρ Z=>(f ρ Z).bind λx Z1=>.ok (.rt x) Z1
def vB:eV:=λ_ Z=>.ok (.rt (.fz .none)) Z
theorem eC:mq K E Hr cC:=λB S H U Z ρ D s a w=>WS.now s w S a
theorem GA:mq K E My vB:=λB S H U Z ρ D s a w=>WS.now s w .V8 .V8
theorem aG(m:mq K E t f)(l:mq K E u g):mq K E (La t u) (aO f g):=by
 intro B S H U Z ρ D s j w;refine m B S H U Z ρ {D with nx:=u D} s j (WS.imp (WS.bind w) λn T Z1 P o e b=>?_);cases n with
 |nx a=>exact λh i=>l B h P T Z1 a D e i b
 |rt x=>exact WS.now (E:=E) e b
 |bk a=>exact WS.now (E:=E) e b
 |ct a=>exact WS.now (E:=E) e b
theorem iH(h:cG K E t f):mq K E (Cn t) (bV f):=by intro B S H U Z ρ D s a w;exact h B S H U Z ρ _ s a (WS.imp (WS.bind w) λx T Z1 P g e b v i=>WS.now e b S (a.VX g))
theorem cZ(h:cG K E t f)(p:JP K E g fg):mq K E (Hn t g) (cO f fg):=by intro B S H U Z ρ D s e w;refine h B S H U Z ρ _ s e (WS.imp (WS.bind w) λx T Z1 P q n l v o=>?_);exact p B S P T Z1 ρ v x _ n (e.VX q) o (WS.imp (WS.bind l) λi Y X N r m j a b=>WS.now m j a b)
theorem iJ(j:zp K E c fc)(m:mq K E t f)(l:mq K E u g):mq K E (NQ c t u) (cA fc f g):=by
 intro B S H U Z ρ D s a w;refine j B S H U Z ρ _ s a (WS.imp (WS.bind w) λb T Z1 P i h e=>?_);cases b with
 |true=>exact m B S P T Z1 ρ D h (a.VX i) e
 |false=>exact l B S P T Z1 ρ D h (a.VX i) e
theorem eO(h:cG K E t f):mq K E (Hu t) (hJ f):=by intro B S H U Z ρ D s b w;exact h B S H U Z ρ _ s b (WS.imp (WS.bind w) λx T Z1 P i e a v g=>WS.now e a v g)
def Fu(i:Nat)(f:D->D->br RV)(fe:cT):eV:=λρ Z=>(ay i ρ Z).bind λx Z1=>(fe ρ Z1).bind λy X=>(ub f x y X).bind λz a=>.ok (.nx (ρ.set i (lD z))) a
theorem L6(n:ri K r f)(p:cG K E te fe):mq K E (QZ i te r) (Fu i f fe):=by
 intro B S H U Z ρ D s a w;unfold Fu ay at w;cases q:ρ[i]? with
 |none=>rw[q]at w;exact w.elim
 |some o=>
  cases o with
  |none=>rw[q]at w;exact w.elim
  |some x=>rw[q]at w;obtain⟨v,C,A⟩:=a.2 i x q;refine⟨v,C,p B S H U Z ρ _ s a (WS.imp (WS.bind w) λy T Z1 P b j g u l=>?_)⟩;exact AC n j (A.VX b) l (WS.imp (WS.bind g) λz Y X N F h e t m=>WS.now h e _ ((a.VX (b.trans F)).set m))
def eZ(f:Str)(x:SV):bg (Str×SV)->bg (Str×SV)
 |[]=>[(f,x)]
 |(g,y)::r=>if g=f then(g,x)::r else(g,y)::eZ f x r
theorem Fe(h:Ws O K H U v x):∀{ws:bg (Str×V)} {fs:bg (Str×SV)},Paired (λ(p:Str×V) (q:Str×SV)=>p.1=q.1/\Ws O K H U p.2 q.2) ws fs->Paired (λ(p:Str×V) (q:Str×SV)=>p.1=q.1/\Ws O K H U p.2 q.2) (jb f v ws) (eZ f x fs)
 |_,_,.nil=>.cons ⟨rfl,h⟩ .nil
 |(g,u)::ws,(g',y)::fs,.cons ⟨e,k⟩ t=>by
  cases e;unfold jb eZ;by_cases z:g=f
  .rw[av z,av z];exact .cons ⟨rfl,h⟩ t
  .rw[ax z,ax z];exact .cons ⟨rfl,k⟩ (Fe h t)
def FJ(Z:a9)(C:Str):SV->br (Nat×bg (Str×SV))
 |.rf i=>match Z[i]? with
  |some (.obj D fs)=>if D=C then lD (i,fs) else Th
  |_=>Th
 |_=>Th
theorem Rk(s:StoOk B K H U Z)(b:Ws (ow B U Z) K H U v x)(h:FJ Z C x=lD (i,fs)):Z[i]?=lD (.obj C fs)/\∃a Ca dx ws,U[i]?=lD a/\v=.ref a/\T7 K TZ C=lD (lD (.ref Ca))/\H a=lD (.ins Ca dx ws)/\Paired (λ(p:Str×V) (q:Str×SV)=>p.1=q.1/\Ws (ow B U Z) K H U p.2 q.2) ws fs:=by
 cases x with
 |fz d=>cases h
 |tp l=>cases h
 |rf j=>
  obtain⟨a,ha,rfl⟩:=b;unfold FJ at h;dsimp only at h;cases q:Z[j]? with
  |none=>rw[q]at h;cases h
  |some c=>
   rw[q]at h;cases c with
   |obj D n=>
    dsimp only at h;by_cases z:D=C
    .subst z;rw[av rfl]at h;have e:=TQ h;cases e;obtain⟨Ca,dx,ws,m,g,f⟩:=s.ZU i a _ ha q;exact⟨q,a,Ca,dx,ws,ha,rfl,m,g,f⟩
    .rw[ax z]at h;cases h
   |_=>cases h
def gc(C f:Str)(fo fe:cT):eV:=λρ Z=>(fe ρ Z).bind λx Z1=>(fo ρ Z1).bind λo X=>(RS.UB X (FJ X C o)).bind λp a=>if p.2.length<100 then .ok (.nx ρ) (a.set p.1 (.obj C (eZ f x p.2))) else .bad
theorem lW(hc:gS K C L)(Q:f∈L)(J:cG K E to fo)(R:cG K E te fe):mq K E (Oj K to te f) (gc C f fo fe):=by
 intro B S H U Z ρ D s e w;refine R B S H U Z ρ _ s e (WS.imp (WS.bind w) λx T Z1 P y F A v G=>?_);refine J B S P T Z1 ρ _ F (e.VX y) (WS.imp (WS.bind A) λo Y X N t j b u I=>?_);obtain⟨⟨i,fs⟩,q,b⟩:=WS.UB b;obtain⟨g,a,Ca,dx,ws,ha,rfl,m,h1,l⟩:=Rk j I q;obtain⟨Cb,n,g1,g2⟩:=hc;rw[m]at n;cases n;dsimp only at b;by_cases hn:fs.length<100
 .rw[av hn]at b;have ev:Ev (ow B Y X) N (ow B Y X) (bq N a (.ins Ca dx (jb f v ws))):=sJ ha g (by intro z;cases z);have p:Vd Y X N Y (X.set i (.obj C (eZ f x fs))) (bq N a (.ins Ca dx (jb f v ws))):=Vd.put ha g (by intro z;cases z) (by intro z;cases z);have hl:=Paired.length l;refine⟨a,Ca,dx,ws,rfl,h1,g1,g2 f Q,by omega,?_⟩;refine b Y _ p (j.put ha g (by intro z;cases z) (by intro z;cases z) ⟨Ca,dx,_,m,aF,Fe ((G.VX t).ev ev λ_ _ h=>h) (Paired.Xg l λ_ _ r=>⟨r.1,r.2.ev ev λ_ _ h=>h⟩)⟩) S ((e.VX (y.trans t)).VX p)
 .rw[ax hn]at b;exact b.elim
abbrev P6:=bu->a9->RS (bg D)
def Rm(K:Tg)(E:XK)(b:TI)(e:P6):Prop:=
 ∀(B:cg) (S:L2.St) (H:Hp) (U:bg Tt) (Z:a9) (ρ:bu) (a:It->Hp->Prop),StoOk B K H U Z->Wn (ow B U Z) K H U S ρ->WS K E B H U Z (λds M Z' H'=>∀J,wo K J (ow B M Z') H' ds->a J H') (e ρ Z)->b S H a
def qp(f:FI):P6:=λρ Z=>match f (cD ρ) with
 |.ok (ds,_)=>.ok ds Z
 |.er x=>.er x Z
 |.bad=>.bad
theorem sA(h:IO K E wi f):Rm K E wi (qp f):=by
 intro B S H U Z ρ l s g w;refine h (ow B U Z) H (ow B U Z) S H (cD ρ) l (Ft s g) ?_;unfold qp at w;cases q:f (cD ρ) with
 |bad=>rw[q]at w;exact w.elim
 |er x=>rw[q]at w;exact λc dx H' e k=>w c dx U H' (Vd.same e) (s.grow e) k
 |ok r=>obtain⟨ds,a⟩:=r;rw[q]at w;exact λO' J H' e R i=>w U H' (Vd.same R.same) (s.grow R.same) J λm N j n=>i m N (λb o h z=>j b o h λy=>z (R.bo b y)) n
def iB(fe:cT):P6:=λρ Z=>(fe ρ Z).bind λx Z1=>(match frz 4 Z1 x with
 |some (d,X)=>RS.UB X (fT d)
 |none=>.bad)
theorem ox(h:cG K E tl fe):Rm K E (GP K tl) (iB fe):=by
 intro B S H U Z ρ n s g w;refine h B S H U Z ρ _ s g (WS.imp (WS.bind w) λx T Z1 P m i a v j=>?_);cases q:frz 4 Z1 x with
 |none=>rw[q]at a;exact a.elim
 |some p=>
  obtain⟨d,X⟩:=p;rw[q]at a;obtain⟨e,f,l⟩:=xy 4 i j q;dsimp only at a;cases qs:fT d with
  |none=>rw[qs]at a;exact a.elim
  |some ds=>
   rw[qs]at a;cases l with
   |tup h b=>cases qs;exact⟨_,rfl,.inr ⟨⟨_,h.1⟩,a T P f e _ (GM h b)⟩⟩
   |lst h b=>cases qs;exact⟨_,rfl,.inl ⟨⟨_,h.1.sq⟩,a T P f e _ (CT h b)⟩⟩
   |_=>cases qs
def gP(gt:AH)(b:eV):bg D->eV
 |[],ρ,Z=>.ok (.nx ρ) Z
 |d::r,ρ,Z=>(gt (.fz d) ρ Z).bind λa Z1=>(b a Z1).bind λe X=>match e with
  |.nx ρ2=>gP gt b r ρ2 X
  |.ct ρ2=>gP gt b r ρ2 X
  |.bk ρ2=>.ok (.nx ρ2) X
  |.rt x=>.ok (.rt x) X
def uD(a:P6)(gt:AH)(b:eV):eV:=λρ Z=>(a ρ Z).bind λds Z1=>gP gt b ds ρ Z1
theorem nJ(hi:Rm K E wi fi)(hg:JP K E g gt)(hb:mq K E tb b):mq K E (Gx wi g tb) (uD fi gt b):=by
 intro B S H U Z ρ D s Q w;refine hi B S H U Z ρ _ s Q (WS.imp (WS.bind w) λds T Z1 P e1 s1 w1 J it=>?_);refine⟨λi m a H'=>m=ds.length - i/\i<=ds.length/\∃Y X ρ2,Vd T Z1 P Y X H'/\StoOk B K H' Y X/\Wn (ow B Y X) K H' Y a ρ2/\WS K E B H' Y X (ml B K D) (gP gt b (ds.drop i) ρ2 X),⟨_,rfl,Ur _,T,Z1,ρ,.refl,s1,Q.VX e1,w1⟩,?_⟩;rintro i m j N ⟨rfl,hi,Y,X,ρ2,e2,s2,sl2,w2⟩;obtain⟨go,n⟩:=it (ow B Y X) N e2.ev s2.noO;by_cases t:i<ds.length
 .obtain⟨g1,g2⟩:=go i t
  refine .inr ⟨g1,λa H'=>i+1<=ds.length/\∃Y X ρ2,Vd T Z1 P Y X H'/\StoOk B K H' Y X/\Wn (ow B Y X) K H' Y a ρ2/\WS K E B H' Y X (ml B K D) (gP gt b (ds.drop (i+1)) ρ2 X),λa H' ⟨h1,h2⟩=>⟨ds.length - (i+1),by omega,rfl,h1,h2⟩,λx L y=>?_⟩;obtain⟨R,d,hd,dv⟩:=g2 x L y;have ed:ds.drop i=d::ds.drop (i+1):=by obtain⟨_,q⟩:=Tn.mp hd;rw[Ve t,q]
  rw[ed]at w2;have I:Vd Y X N Y X L:=Vd.same R;refine hg B j L Y X ρ2 x (.fz d) _ (s2.grow R) (sl2.VX I) dv (WS.imp (WS.bind (WS.from I w2)) λC F Z4 H4 e4 s4 w3 A G=>?_);refine hb B A H4 F Z4 C _ s4 G (WS.imp (WS.bind w3) λfl l Z5 H5 e5 r p=>?_);have o:=e2.trans (I.trans (e4.trans e5));cases fl with
  |nx f=>exact λu h=>⟨t,l,Z5,f,o,r,h,p⟩
  |ct f=>exact λu h=>⟨t,l,Z5,f,o,r,h,p⟩
  |bk f=>exact WS.now (E:=E) r p
  |rt x=>exact WS.now (E:=E) r p
 .have e:i=ds.length:=by omega
  subst e;rw[Vc (TB _)]at w2;exact .inl ⟨n,WS.now s2 w2 j sl2⟩
def uH(c:x3)(b:eV):Nat->eV
 |0,_,_=>.bad
 |n+1,ρ,Z=>(c ρ Z).bind λk Z1=>if k=To then(b ρ Z1).bind λa X=>match a with
  |.nx ρ2=>uH c b n ρ2 X
  |.ct ρ2=>uH c b n ρ2 X
  |.bk ρ2=>.ok (.nx ρ2) X
  |.rt x=>.ok (.rt x) X else .ok (.nx ρ) Z1
def AD(c:x3)(b:eV):eV:=uH c b 1000000
theorem vo(I:zp K E c fc)(J:mq K E tb b):mq K E (Hg c tb) (AD fc b):=by
 intro B S H U Z ρ D s F w;refine⟨λm e H'=>∃Y X a,Vd U Z H Y X H'/\StoOk B K H' Y X/\Wn (ow B Y X) K H' Y e a/\WS K E B H' Y X (ml B K D) (uH fc b m a X),⟨_,U,Z,ρ,.refl,s,F,w⟩,?_⟩;rintro m g N ⟨Y,X,a,R,G,i,y⟩;cases m with
 |zero=>exact y.elim
 |succ m=>
  refine I B g N Y X a _ G i (WS.imp (WS.bind y) λk t Z3 H3 u A o=>?_);cases k with
  |true=>
   rw[av rfl]at o⊢;refine⟨λe H'=>∃Y X a,Vd U Z H Y X H'/\StoOk B K H' Y X/\Wn (ow B Y X) K H' Y e a/\WS K E B H' Y X (ml B K D) (uH fc b m a X),λe H' q=>⟨m,Ww m,q⟩,?_⟩;refine J B g H3 t Z3 a _ A (i.VX u) (WS.imp (WS.bind o) λL j C H5 Q p n=>?_);have l:=R.trans (u.trans Q);cases L with
   |nx f=>exact λr h=>⟨j,C,f,l,p,h,n⟩
   |ct f=>exact λr h=>⟨j,C,f,l,p,h,n⟩
   |bk f=>exact WS.now (E:=E) p n
   |rt x=>exact WS.now (E:=E) p n
  |false=>rw[ax TV]at o⊢;exact WS.now A o g (i.VX u)
end
section
variable{B O O':cg}{K:Tg}{E:XK}{H H' S L:Hp}{U R X Y:bg Tt}{Z Z' Z1 T:a9}{M:L2.St}{ρ:bu}{v:V}
def eK(gt:AH)(ft:x3)(fe:cT):bg D->bu->a9->bg SV->RS (bg SV)
 |[],_,Z,acc=>.ok acc Z
 |d::r,ρ,Z,acc=>(gt (.fz d) ρ Z).bind λa Z1=>(ft a Z1).bind λb T=>if b=To then(fe a T).bind λx e=>(if acc.length<1000000 then eK gt ft fe r a e (acc++[x]) else .bad) else eK gt ft fe r a T acc
def qL(n:Nat)(a:bg Nat)(ρ:bu):bu:=TJ n Th++a.map λj=>(ρ[j]?).join
def ui(n:Nat)(a:bg Nat)(b:P6)(gt:AH)(ft:x3)(fe:cT):cT:=λρ Z=>(b ρ Z).bind λds Z1=>(jv (eK gt ft fe ds (qL n a ρ) Z1 [])).bind λxs T=>.ok (.rf T.length) (T++[.lst xs])
theorem Jn{own:bg Str}{fv:bg (Str×Nat)}{n:Nat}{f:bg Nat}(hn:own.length=n)(h:fv.map (·.2)=f)(i:Wn O K H U M ρ):Wn O K H U (je own fv M) (qL n f ρ):=by
 unfold je qL;rw[B6 hn];have l:fv.length=f.length:=by rw[<-h,Tj]
 refine⟨by rw[Tz,Tz,Ut,Ut,Tj,Tj,l],λj x b=>?_⟩;by_cases g:j<n
 .rw[TF (by rw[Ut];exact g),V1,av g]at b;cases b
 .rw[Um (by rw[Ut];omega),Ut,TH]at b⊢
  subst h;rw[TH]at b;cases q:fv[j - n]? with
  |none=>rw[q]at b;cases b
  |some p=>
   rw[q]at b;have a:(ρ[p.2]?).join=lD x:=TQ b;have e:ρ[p.2]?=lD (lD x):=by
    cases qq:ρ[p.2]? with
    |none=>rw[qq]at a;cases a
    |some o=>rw[qq]at a;exact dw lD a
   obtain⟨u,r,m⟩:=i.2 p.2 x e;exact⟨u,by show lD ((M[p.2]?).join)=_;rw[r];rfl,m⟩
theorem yF{p:Tt}{c:Cell}(a:U.length=Z.length)(e:c≠.dead):ow (ck B p) U Z=ow B (U++[p]) (Z++[c]):=by
 funext b;refine propext ⟨λz=>?_,λz=>?_⟩
 .rcases z with(z|z)|⟨i,d,h1,h2,h3⟩
  .exact .inl z
  .exact .inr ⟨U.length,c,by rw[z];exact bH,by rw[a];exact bH,e⟩
  .exact .inr ⟨i,d,fD h1,fD h2,h3⟩
 .rcases z with z|z
  .exact .inl (.inl z)
  .rcases uv a z with z|z
   .exact .inr z
   .exact .inl (.inr z)
theorem StoOk.adopt{p:Tt}{vs:bg V}{xs:bg SV}(s:StoOk (ck B p) K H U Z)(l:H p=lD (.lst vs))(m:VZ (ow (ck B p) U Z) K H U vs xs)(n:¬B p):StoOk B K H (U++[p]) (Z++[.lst xs]):=by
 have t:ow (ck B p) U Z=ow B (U++[p]) (Z++[.lst xs]):=yF s.len (by intro z;cases z);have b:∀(i:Nat) (a:Tt),U[i]?=lD a->(U++[p])[i]?=lD a:=λi a h=>fD h;have g:∀i:Nat,U[i]?≠lD p:=s.ba p (.inr rfl);refine⟨by rw[Tz,Tz,s.len];rfl,λi j a e f=>?_,λa h=>s.bn a (.inl h),λa h i q=>?_,λi a h=>?_,λi a d e f=>?_⟩
 .rcases bC e with g1|⟨e1,e2⟩<;>rcases bC f with g2|⟨e3,e4⟩
  .exact s.nd i j a g1 g2
  .rw[e4]at g1;exact a6 g1 (g i)
  .rw[e2]at g2;exact a6 g2 (g j)
  .omega
 .rcases bC q with q|⟨_,e2⟩
  .exact s.ba a (.inl h) i q
  .subst e2;exact n h
 .rcases bC h with h|⟨_,e2⟩
  .exact s.al i a h
  .rw[e2,l];simp
 .rw[<-t]
  rcases bC f with g2|⟨e1,e2⟩
  .rcases bC e with g1|⟨e1,_⟩
   .exact(s.ZU i a d g1 g2).ev .refl b λo q=>q
   .have:=(Tn.mp g2).1;have:=s.len;omega
  .rcases bC e with g1|⟨_,e3⟩
   .have:=(Tn.mp g1).1;have:=s.len;omega
   .rw[e2,e3];exact⟨vs,l,Paired.Xg m λ_ _ r=>r.ev .refl b⟩
theorem StoOk.hide{p:Tt}{o:HO}(s:StoOk B K H U Z)(j:H p=Th):StoOk (ck B p) K (bq H p o) U Z:=by have f:Vp H (bq H p o):=bO j o;have g:=s.grow f;have ev:Ev (ow B U Z) H (ow (ck B p) U Z) (bq H p o):=λb u h n=>⟨f b u h,λz=>z.elim (λz=>z.elim (λz=>n (.inl z)) λz=>by rw[z,j]at h;cases h) λz=>n (.inr z)⟩;refine⟨g.len,g.nd,λa h=>h.elim (g.bn a) λe=>by rw[e,aF];simp,λa h i q=>h.elim (λh=>g.ba a h i q) λe=>by rw[e]at q;exact s.al i p q j,g.al,λi a c m l=>?_⟩;exact(s.ZU i a c m l).ev ev (λ_ _ h=>h) λo q=>f _ _ q
theorem StoOk.ahc{p:Tt}{o e:HO}(s:StoOk (ck B p) K H U Z)(j:H p=lD o):StoOk (ck B p) K (bq H p e) U Z:=by
 have ev:Ev (ow (ck B p) U Z) H (ow (ck B p) U Z) (bq H p e):=Ev.mut (.inl (.inr rfl)) e;have n:∀b,H b≠Th->bq H p e b≠Th:=λb h=>by
  by_cases z:b=p
  .subst z;rw[aF];simp
  .rw[az z];exact h
 refine⟨s.len,s.nd,λa h=>n a (s.bn a h),s.ba,λi a h=>n a (s.al i a h),λi a c f g=>(s.ZU i a c f g).ev ev (λ_ _ h=>h) λu q=>?_⟩;have:a≠p:=λz=>s.ba p (.inr rfl) i (by rw[<-z];exact f);rw[az this];exact q
theorem Vd.dd{p:Tt}{o:HO}(e:Vd X Z1 S U Z H)(a:S p=Th):Vd X Z1 S U Z (bq H p o):=⟨e.pre,λb u h n=>by rw[az (b6 h a)];exact e.kp b u h n,e.lv⟩
theorem StoOk.afn{p:Tt}(s:StoOk (ck B p) K H U Z):StoOk B K H U Z:=
 ⟨s.len,s.nd,λa h=>s.bn a (.inl h),λa h=>s.ba a (.inl h),s.al,λi a c f e=>(s.ZU i a c f e).ev (λb o h n=>⟨h,λy=>n (y.elim (λy=>.inl (.inl y)) .inr)⟩) (λ_ _ h=>h) λ_ h=>h⟩
theorem AX{own:bg Str}{fv:bg (Str×Nat)}{g:TG}{tc:TT}{te:TE}{gt:AH}{ft:x3}{fe:cT}{n:Nat}{fj:bg Nat}{J:It}{Q:VK}{ds:bg D}(hn:own.length=n)(hf:fv.map (·.2)=fj)
  (hg:JP K E g gt) (ht:zp K E tc ft) (he:cG K E te fe) (s1:StoOk B K S X Z1) (sl1:Wn (ow B X Z1) K S X M ρ) (it:wo K J (ow B X Z1) S ds) (w1:WS K E B S X Z1 (PQ B K Q) ((eK gt ft fe ds (qL n fj ρ) Z1 []).bind λxs T=>.ok (.rf T.length) (T++[.lst xs]))):
  ∀D,S D=Th->G4 J D (je own fv M) g tc te S λH'=>Q (.ref D) H':=by
 intro p P;have slc:Wn (ow B X Z1) K S X (je own fv M) (qL n fj ρ):=Jn hn hf sl1;generalize qr:eK gt ft fe ds (qL n fj ρ) Z1 []=rr at w1;by_cases w:rr=.bad
 .subst w;exact w1.elim
 .
  have hB:¬B p:=λz=>s1.bn p z P;have evH:∀{Y:bg Tt} {T:a9} {H':Hp},Vd X Z1 S Y T H'->Ev (ow B X Z1) S (ow (ck B p) Y T) H':=λe b o h n=>⟨e.kp b o h λz=>n (.inr z),λz=>by
   rcases z with(z|z)|z
   .exact n (.inl z)
   .rw[z,P]at h;cases h
   .exact(e.lv b z).elim (λq=>n (.inr q)) λq=>by rw[h]at q;cases q⟩
  refine⟨λi m σ' H'=>m=ds.length - i/\i<=ds.length/\∃Y T ρc acc ys,Vd X Z1 S Y T H'/\StoOk (ck B p) K H' Y T/\Wn (ow (ck B p) Y T) K H' Y σ' ρc/\H' p=lD (.lst ys)/\VZ (ow (ck B p) Y T) K H' Y ys acc/\eK gt ft fe (ds.drop i) ρc T acc=rr,
   ⟨_,rfl,Ur _,X,Z1,qL n fj ρ,[],[],Vd.same (bO P _),s1.hide P,?_,aF,.nil,qr⟩,?_⟩
  .exact⟨slc.1,λj x hx=>let⟨v,h1,h2⟩:=slc.2 j x hx;⟨v,h1,h2.ev (evH (Vd.same (bO P _))) λ_ _ h=>h⟩⟩
  .rintro i m σ2 L ⟨rfl,hi,Y,T,ρ2,acc,ys,e2,s2,sl2,hy,vy,f⟩
   obtain⟨go,stop⟩:=it (ow (ck B p) Y T) L (evH e2) s2.noO;by_cases Xp:i<ds.length
   .obtain⟨g1,g2⟩:=go i Xp
    refine .inr ⟨g1,λσ5 C=>i+1<=ds.length/\∃Y T ρc acc ys,Vd X Z1 S Y T C/\StoOk (ck B p) K C Y T/\Wn (ow (ck B p) Y T) K C Y σ5 ρc/\C p=lD (.lst ys)/\VZ (ow (ck B p) Y T) K C Y ys acc/\eK gt ft fe (ds.drop (i+1)) ρc T acc=rr,
     λσ5 C ⟨h1,h2⟩=>⟨ds.length - (i+1),by omega,rfl,h1,h2⟩,λx H3 y=>?_⟩
    obtain⟨s3,d,hd,dv⟩:=g2 x H3 y;have ed:ds.drop i=d::ds.drop (i+1):=by obtain⟨_,q⟩:=Tn.mp hd;rw[Ve Xp,q]
    rw[ed]at f;unfold eK at f;have e3:Vd Y T L Y T H3:=Vd.same s3;have kD:∀{αx αy:bg Tt} {Zx Zy:a9} {Hx Hy:Hp} {o:HO},StoOk (ck B p) K Hx αx Zx->Vd αx Zx Hx αy Zy Hy->Hx p=lD o->Hy p=lD o:=λsx ex h=>ex.kp _ _ h λ⟨i,c,q,_⟩=>sx.ba p (.inr rfl) i q;have t:∀{G:bg Tt} {Z3:a9} {H3:Hp} {z:Xc} {A:a9},Vd X Z1 S G Z3 H3->RS.er z A=rr->∀c dx R H',Vd G Z3 H3 R A H'->StoOk (ck B p) K H' R A->XOk K (ow (ck B p) R A) H' c dx z->E c dx H':=λ{G Z3 H3 z A} e3 q c dx R H' e s' x'=>by subst q;exact w1 c dx R H' (e3.trans e) s'.afn (XOk.sub (λb y=>y.elim (λy=>.inl (.inl y)) .inr) x')
    refine hg (ck B p) σ2 H3 Y T ρ2 x (.fz d) _ (s2.grow s3) (sl2.VX e3) dv ?_;cases qg:gt (.fz d) ρ2 T with
    |er z A=>rw[qg]at f;exact t (e2.trans e3) f
    |bad=>rw[qg]at f;exact w f.symm
    |ok l Z4=>
     rw[qg]at f;intro α4 H4 e4 s4 σ4 sl4;refine ht (ck B p) σ4 H4 α4 Z4 l _ s4 sl4 ?_;have f:((ft l Z4).bind λb T=>if b=To then(fe l T).bind λx Z3=>(if acc.length<1000000 then eK gt ft fe (ds.drop (i+1)) l Z3 (acc++[x]) else .bad) else eK gt ft fe (ds.drop (i+1)) l T acc)=rr:=f;cases qt:ft l Z4 with
     |er z A=>rw[qt]at f;exact t (e2.trans (e3.trans e4)) f
     |bad=>rw[qt]at f;exact w f.symm
     |ok b Z5=>
      rw[qt]at f;intro α5 C e5 s5;have I:=sl4.VX e5;have u:=e3.trans (e4.trans e5);cases b with
      |false=>have f:eK gt ft fe (ds.drop (i+1)) l Z5 acc=rr:=f;exact⟨Xp,α5,Z5,l,acc,ys,e2.trans u,s5,I,kD s2 u hy,VZ.VX u vy,f⟩
      |true=>
       have f:((fe l Z5).bind λx Z3=>(if acc.length<1000000 then eK gt ft fe (ds.drop (i+1)) l Z3 (acc++[x]) else .bad))=rr:=f;rw[av rfl];refine he (ck B p) σ4 C α5 Z5 l _ s5 I ?_;cases qe:fe l Z5 with
       |er z A=>rw[qe]at f;exact t (e2.trans u) f
       |bad=>rw[qe]at f;exact w f.symm
       |ok x6 Z6=>
        rw[qe]at f;intro F H6 e6 s6 v6 hv6;have f:(if acc.length<1000000 then eK gt ft fe (ds.drop (i+1)) l Z6 (acc++[x6]) else .bad)=rr:=f;by_cases N:acc.length<1000000
        .rw[av N]at f;have e36:=u.trans e6;have hy6:H6 p=lD (.lst ys):=kD s2 e36 hy;have vy6:=VZ.VX e36 vy;have em:Ev (ow (ck B p) F Z6) H6 (ow (ck B p) F Z6) (bq H6 p (.lst (ys++[v6]))):=Ev.mut (.inl (.inr rfl)) _;have sl6:=I.VX e6;refine⟨ys,hy6,uX (by rw[vy6.length];exact N),Xp,F,Z6,l,acc++[x6],ys++[v6],(e2.trans e36).dd P,s6.ahc hy6,⟨sl6.1,λj x hx=>let⟨v,h1,h2⟩:=sl6.2 j x hx;⟨v,h1,h2.ev em λ_ _ h=>h⟩⟩,aF,DG (Paired.Xg vy6 λ_ _ r=>r.ev em λ_ _ h=>h) (hv6.ev em λ_ _ h=>h),f⟩
        .rw[ax N]at f;exact a6 f.symm w
   .have e:i=ds.length:=by omega
    subst e;rw[Vc (TB _)]at f;have f:RS.ok acc T=rr:=f;subst f;refine .inl ⟨stop,?_⟩;refine w1 (Y++[p]) L ⟨λi a h=>fD (e2.pre i a h),e2.kp,λb z=>(uv s2.len z).elim (e2.lv b) λz=>.inr (by rw[z];exact P)⟩ (s2.adopt hy vy hB) (.ref p) ⟨p,by rw[<-s2.len];exact bH,rfl⟩
theorem PU{A C:Type}{P:C->bg Tt->a9->Hp->Prop}{r:RS A}{k:A->a9->C}{m:A->a9->a9}(w:WS K E B H U Z P ((jv r).bind λa o=>.ok (k a o) (m a o))):WS K E0 B H U Z P (r.bind λa o=>.ok (k a o) (m a o)):=by
 cases r with
 |ok a o=>exact w
 |er x o=>exact w.elim
 |bad=>exact w
theorem zP{own:bg Str}{fv:bg (Str×Nat)}{a:TI}{g:TG}{b:TT}{te:TE}{h:P6}{gt:AH}{ft:x3}{fe:cT}{n:Nat}{f:bg Nat}(hn:own.length=n)(p:fv.map (·.2)=f)
  (hi:Rm K E a h) (o:JP K E0 g gt) (m:zp K E0 b ft) (q:cG K E0 te fe):cG K E (zd own fv a g b te) (ui n f h gt ft fe):=by
 intro B M H U Z ρ Q s e w;refine hi B M H U Z ρ _ s e (WS.imp (WS.bind w) λds X Z1 S r j i J l=>?_);exact AX hn p o m q j (e.VX r) l (PU i)
def dg(N:Nat)(g:eV):jr:=λxs Z=>(g (xs.map lD++TJ (N - xs.length) Th) Z).bind λa Z1=>match a with
 |.rt x=>.ok x Z1
 |.nx _=>.ok (.fz .none) Z1
 |_=>.bad
theorem Gq{N:bg Str}{vs:bg V}{xs:bg SV}(h:VZ O K H U vs xs):Wn O K H U (L2.start N vs) (xs.map lD++TJ (N.length - xs.length) Th):=by
 have b:vs.length=xs.length:=Paired.length h;unfold L2.start;refine⟨by rw[Tz,Tz,Tj,Tj,Ut,Ut,b],λi x a=>?_⟩;by_cases hi:i<xs.length
 .rw[TF (by rw[Tj];exact hi),TH]at a
  cases q:xs[i]? with
  |none=>rw[q]at a;cases a
  |some d=>rw[q]at a;cases a;obtain⟨v,e,f⟩:=An h q;refine⟨v,?_,f⟩;rw[TF (by rw[Tj,b];exact hi),TH,e];rfl
 .rw[Um (by rw[Tj];omega),V1]at a;split at a<;>cases a
theorem Aa{N:bg Str}{vs:bg V}{xs:bg SV}{g:eV}{t:TS}{Q:VK}{n:Nat}(f:mq K E t g)(h:dR K n (dg N.length g) vs H Q E):t {nx:=λ_ H'=>Q .V8 H',rt:=Q} (L2.start N vs) H:=by
 obtain⟨l,B,U,Z,xs,s,e,w⟩:=h;refine f B _ H U Z _ _ s (Gq e) (WS.imp (WS.bind w) λi X Z1 S m b a=>?_);cases i with
 |rt x=>exact WS.now (E:=E) b a
 |nx ρ=>exact λM j=>WS.now (E:=E) b a .V8 .V8
 |bk ρ=>exact a.elim
 |ct ρ=>exact a.elim
end
theorem S6{P:T5}{w:Uu}{K:Tg}{mg:Str->br Ti}{base:Heap}{x a:Str}{st:VH}{f:Tt}{fd:UO}{N ps:bg Str}{k n m:Nat}{g:eV}{e:jr}(F:WL K x a st f fd)(S:Wb N ps (aB st))(hn:ps.length=n)(hm:N.length=m)(o:e=dg m g)
  (p:∀(b:Ti) (A:Uk) (outer:bg Env) (s:Tv) (H:Hp) (E:XK),VU k (A.deeper (Ud a (aB st) s.heap.objs.size f b))->
   ∃t,Zl (gy dD P w K mg base N a (aB st) f b A outer s H E).nox (cr st) t/\mq K E t g):FnOk P w K mg base dD (k+1) f fd ps (dR K n e):=by
 subst o hm;refine F.ok S (λvs H Q E h=>h.1.trans hn.symm) (λb A outer s H vs Q E l h=>?_);obtain⟨t,i,j⟩:=p b A outer s H E l;exact⟨t,i,Aa (xs:=[]) j h⟩
theorem Si{P:T5}{w:Uu}{K:Tg}{mg:Str->br Ti}{base:Heap}{x a:Str}{st:VH}{f:Tt}{fd:UO}{N ps:bg Str}{k n m:Nat}{g:eV}{j:jr}(F:WL K x a st f fd)(S:Wb N ps (aB st))(hn:ps.length=n)(hm:N.length=m)(u:j=dg m g)
  (y:∀(b:Ti) (A:Uk) (outer:bg Env) (s:Tv) (H:Hp) (E:XK),VU k (A.deeper (Ud a (aB st) s.heap.objs.size f b))->
   ∃t,Zl (gy (L4.lB P w) P w K mg base N a (aB st) f b A outer s H E) (cr st) t/\mq K E t g):FnOk P w K mg base (L4.lB P w) (k+1) f fd ps (dR K n j):=by
 subst u hm;obtain⟨G,C,kV,v,B,I,b,ct,l,rfl,o,i⟩:=F.ex;refine FL o i S (λvs H Q E h=>h.1.trans hn.symm) λA outer s H vs Q E r e=>?_;obtain⟨t,p,q⟩:=y b A outer s H E r;exact⟨t,p,Aa (xs:=[]) q e⟩
abbrev IT(P:T5)(w:Uu)(K:Tg)(mg:Str->br Ti)(base:Heap)(k:Nat)(x:Str)(ps:bg Str)(n:Nat)(F:jr):Prop:=yX P w K mg base k x ps (dR K n F)
end L10
namespace PySem.W
open PySem PySem.Calls PyProof.Rows PyProof.V PySem.Spec
section
variable{prog:T5}{w:Uu}{A:Uk}{E:Ti->Tv->Prop}{s:Tv}{T:String}{r d:Tt}{n:Nat}{P:Nat->Ti->Prop}{OK:Heap->Prop}
theorem collect_kdl(K:KdlSrc prog w T r d n P OK)(m:A.handled=Th)(UW:OK s.heap)(hn:n<=TL)
  (q:∀h' tk acc,(∀b o,s.heap.get? b=lD o->h'.get? b=lD o)->akv P acc n->Q acc.toList {s with heap:=h',toks:=tk}):wpAny (model prog w) A (collect (.ref r)) Q E s:=by
 have i:=K.there _ UW;unfold collect;refine Ld (wpAny_runValue (WX F.entry_proto_collect ?_));rw[Uk.under_plainId F.plain_proto_collect _];refine Ld (UG ?_);refine Tr ⟨WU F.plain_list_iadd _,WX F.entry_list_iadd ?_⟩;rw[Uk.under_plainId F.plain_list_iadd _];have p:(s.heap.push {cls:=.type "list",data:=.seq ([]:bg Ti).toArray}).get? s.heap.objs.size=lD {cls:=.type "list",data:=.seq ([]:bg Ti).toArray}:=b5 _ rfl;refine kdl_extend (R:=wants (λv j=>wpAny (model prog w) A (match v with|.ref a=>(load a>>=λo=>match o.data with|.seq xs _=>pure xs.toList|_=>unsupported "internal:collect")|_=>unsupported "internal:collect") Q E j) E) (s:={s with heap:=s.heap.push {cls:=.type "list",data:=.seq ([]:bg Ti).toArray}}) K m (K.keep _ _ UW λb _ o e=>bt _ e) _ (U4 i.1) (U4 i.2) _ 0 p (λh' tk g t l f h=>?_) hn;refine Ld (aeR f ?_);exact Tr (q h' tk g (λb o e=>l b o (T8 (bP e)) (bt _ e)) h)
end
end PySem.W
namespace PyProof.Rows
open PySem
section
variable{prog:T5}{w:Uu}{A:Uk}{E:Ti->Tv->Prop}{s:Tv}{T:String}{r d:Tt}{n:Nat}{P:Nat->Ti->Prop}{OK:Heap->Prop}
theorem A8(K:PySem.W.KdlSrc prog w T r d n P OK)(p:A.handled=Th)(UW:OK s.heap)(l:n<64)(t:∀acc:Array Ti,akv P acc n->IntsAre acc.toList ns)
  (h:∀(a h':Heap) (g:Nat) (out:Array Ti) (e:Nat) (f:bg Int),(∀b o,s.heap.get? b=lD o->a.get? b=lD o)->h'.get? a.objs.size=lD (seqObj "list" out e)->(∀b o,a.get? b=lD o->h'.get? b=lD o)->IntsAre out.toList f->f.Perm ns->f.Pairwise (·<=·)->Q (.ref a.objs.size) {s with heap:=h',toks:=g}):
  wpAny (model prog w) A (call (.builtin "sorted") [.ref r]) Q E s:=by
 refine Calls.call_function_entry kind_sorted plain_sorted entry_sorted (args_sorted1 _) (Ld (Tr (Ld (PySem.W.collect_kdl K p UW (by rw[Vr];omega) (λa g acc m hi=>Ld (aku ?_ (hsz:=by rw[UM,hi.1,Vr];omega)))))));have i:(a.push (seqObj "list" acc.toList.toArray 0)).get? a.objs.size=lD (seqObj "list" acc.toList.toArray 0):=b5 _ rfl;have j:=t acc hi;refine Ld (UY (UZ slot_list_sort ⟨_,i,rfl⟩ entry_list_sort (list_sort_tree i j (by rw[UM,hi.1];exact l) λout f y v u=>⟨_,rfl,Tr ⟨_,rfl,?_⟩⟩) (args_list_sort _)));obtain⟨e,q⟩:=sr i;exact h a _ g out e f m q (λb B z=>qD (T8 (bP z)) (bt _ z)) y v u
end
end PyProof.Rows
namespace L10
open PySem PySem.Spec PyProof.Rows L2 L3
def Rv(p d:Tt):HO:=.ext λh=>h.IsValuesView p d
theorem QT(x:h.IsValuesView p d):ObjOk P w H h p (Rv p d):=⟨x,let⟨o,a,_⟩:=x;⟨o,a⟩,λf e ⟨o,a,b⟩ k=>⟨o,k o a,b⟩⟩
def MP:V->bg V->Hp->VK->Prop:=λx vs H Q=>∃a Ub,x=.ref a/\vs=[]/\H a=lD (.dK Ub)/\∀p,H p=Th->Q (.ref p) (bq H p (Rv p a))
theorem vN:RB X "dict.values" MP:=by intro g s m H x xs v n Q I i f h;obtain⟨a,Ub,rfl,rfl,e,q⟩:=h;cases i;cases f;obtain⟨z,l,vs,j,dd⟩:=yj I.UW e;refine aav XI dd.typeIs PySem.F.entry_dict_values (PySem.F.args_dict_values_1 _) (meets_dict_values (cY X.prog X.w) a l) ⟨⟨vs,dd⟩,?_⟩;refine⟨.ref s.heap.objs.size,_,I.laid (λb o e=>bt _ e) (TB _) (QT ⟨_,b5 _ rfl,rfl,rfl⟩),rfl,q _ (I.UW.fresh (TB _))⟩
def Gf:bg V->Hp->VK->Prop:=λxs H Q=>∃p a Ub,xs=[.ref p]/\H p=lD (Rv p a)/\H a=lD (.dK Ub)/\∀l,H l=Th->Q (.ref l) (bq H l (.lst (Ub.map (·.2))))
theorem CS:∀{Ub:bg (κ×V)} {vs:bg (κ×Ti)},KV Ub vs->Vals (Ub.map (·.2)) (vs.map (·.2))
 |_,_,.nil=>.nil
 |_,_,.cons h t=>.cons h.2 (CS t)
theorem uh(n:X.calm=To):Wj X (.type "list") Gf:=by intro g s C H xs E Q I r h;obtain⟨p,a,Ub,rfl,w,e,q⟩:=h;obtain⟨u,rfl,l⟩:=iV r;cases l;obtain⟨z,G,vs,b,dd⟩:=yj I.UW e;obtain⟨K,B⟩:=dd.dictAt;obtain⟨i,_,_⟩:=I.UW p _ w;refine PySem.W.kdl_call (PySem.W.kdl_values) (I.ok.hd n) ⟨i,B⟩ (by rw[<-b.length];exact z) λJ F f c m t hi=>?_;have A:=PySem.W.kdl_vals_eq f.toList (by rw[UM];exact hi.1) λj v y=>hi.2 j v (by rw[<-Wc];exact y);refine⟨.ref s.heap.objs.size,_,I.laid (o:=.lst (Ub.map (·.2))) m (TB _) ⟨by rw[Tj];exact z,f.toList,c,by rw[A];exact CS b,by rw[Array.toArray_toList];exact t⟩,rfl,q _ (I.UW.fresh (TB _))⟩
def GF:bg V->Hp->VK->Prop:=λxs H Q=>∃(p:Tt) (Ub:bg (cN×V)) (a:bg Int),xs=[.ref p]/\H p=lD (.dK Ub)/\Ub.map (·.1)=a.map Sum.inl/\a.length<64/\∀(l:Tt) (b:bg Int),H l=Th->b.Perm a->b.Pairwise (·<=·)->Q (.ref l) (bq H l (.lst (b.map V.int)))
theorem uf:∀{vs:bg (cN×Ti)} {a:bg Int} {us:bg Ti},vs.map (·.1)=a.map Sum.inl->us.length=vs.length->(∀(j:Nat) (u:Ti),us[j]?=lD u->∃k x,vs[j]?=lD (k,x)/\(cY prog w).is k u=To)->IntsAre us a
 |[],[],[],_,_,_=>.nil
 |[],[],_::_,_,h,_=>by simp at h
 |[],_::_,_,h,_,_=>by simp at h
 |_::_,[],_,h,_,_=>by simp at h
 |_::_,_::_,[],_,h,_=>by simp at h
 |(k,y)::vs,n::a,u::us,h1,h2,h3=>by rw[TX,TX,alR]at h1;obtain⟨i,x,e,f⟩:=h3 0 u rfl;cases e;have g:=h1.1;subst g;obtain⟨t,rfl⟩:=Ti.isInt_shape (show Ti.isInt n u=To from f);exact .cons _ _ (uf h1.2 (by simpa using h2) λj b e=>h3 (j+1) b (by simpa using e))
theorem sQ(E:X.calm=To):Wj X (.builtin "sorted") GF:=by
 intro i s O H xs P Q I r h;obtain⟨p,Ub,l,rfl,e,J,F,q⟩:=h;obtain⟨u,rfl,t⟩:=iV r;cases t;obtain⟨z,C,vs,b,dd⟩:=yj I.UW e;obtain⟨U,M⟩:=dd.dictAt;have m:vs.map (·.1)=l.map Sum.inl:=by rw[<-b.keys];exact J
 have S:vs.length=l.length:=by have:=dw XT m;simpa using this
 refine A8 (PySem.W.kdl_dict C) (I.ok.hd E) M (by omega) (λN hi=>uf m (by rw[UM];exact hi.1) λj v K=>hi.2 j v (by rw[<-Wc];exact K)) λG T R f L w A B g hi n y=>?_;have a:=n.length_eq;have o:=I.kept (t':=s.toks) A;refine⟨.ref G.objs.size,_,o.laid g (TB _) ?_,rfl,q _ w (o.UW.fresh (TB _)) n y⟩;refine⟨?_,f.toList,L,jA hi,B⟩;rw[Tj,a];have:(64:Nat)<=TL:=by decide
 omega
end L10
namespace PySem
open Sem (wp)
namespace F
theorem lk_tuple_keys:typeLookup (.type "tuple") "keys"=pure Th:=by rw[ahr,adK];kernel_rfl
theorem lk_tuple_hook:typeLookup (.type "tuple") "__getattr__"=pure Th:=by rw[ahr,adK];kernel_rfl
theorem sub_ae:isSubtype (.type "AttributeError") (.type "AttributeError")=pure To:=by rw[isSubtype_type];kernel_rfl
end F
section
variable{prog:T5}{w:Uu}{A:Uk}{E:Ti->Tv->Prop}{h:Heap}{g:Array YF}{d:acK}{t:Nat}{os:abt}{a:Tt}{o:Obj}
theorem Bg{α:Type}{name f:Str}{Q:α->Tv->Prop}{E:Ti->Tv->Prop}(hm:f.length<=TL)(l:A.handled=Th)(i:∀e h' t',(∀b o,h.get? b=lD o->h'.get? b=lD o)->(⟨h',g,d,t',os⟩:Tv).TypeIs e "AttributeError"->E e ⟨h',g,d,t',os⟩):
  wpAny (model prog w) A (raiseAttrError (.ref a) name f:Sem α) Q E ⟨h,g,d,t,os⟩:=by
 have j:¬f.length>TL:=Nat.not_lt.mpr hm;unfold raiseAttrError newExc newTuple
 repeat (any_goals (first|assumption|wp_step))
 refine Zn (a:=To) F.sub_ae ?_
 repeat (any_goals (first|assumption|wp_step))
 refine aer l (i _ _ _ (λb o e=>?_) ?_)
 .exact(b7 _ _ (db (T8 (bP (bt _ e))))).trans (bt _ (bt _ e))
 .exact⟨_,b9 _ (b5 _ rfl) rfl,rfl⟩
theorem pA{f:Tok}{Q:Fin->Tv->Prop}{E:Ti->Tv->Prop}{p:Array Ti}{n:Nat}{i:Array (br Ti)}(j:h.get? a=lD ⟨.type "tuple",Th,.seq p n,i⟩)(m:A.handled=Th)(l:∀e h' t',(∀b o,h.get? b=lD o->h'.get? b=lD o)->(⟨h',g,d,t',os⟩:Tv).TypeIs e "AttributeError"->E e ⟨h',g,d,t',os⟩):
  wpAny (model prog w) A (Ul.«object.__getattribute__» ⟨[.ref a,.str "keys" f],[]⟩) Q E ⟨h,g,d,t,os⟩:=by
 have q:(⟨h,g,d,t,os⟩:Tv).TypeIs (.ref a) "tuple":=⟨_,j,rfl⟩;have r:=F.lk_tuple_keys
 repeat (any_goals (first|assumption|wp_step))
 exact Bg (by left) m l
theorem uA{f:Tok}{Q:Ti->Tv->Prop}{E:Ti->Tv->Prop}{u:Array Ti}{n:Nat}{l:Array (br Ti)}(i:h.get? a=lD ⟨.type "tuple",Th,.seq u n,l⟩)(q:A.handled=Th)(m:∀e h' t',(∀b o,h.get? b=lD o->h'.get? b=lD o)->(⟨h',g,d,t',os⟩:Tv).TypeIs e "AttributeError"->E e ⟨h',g,d,t',os⟩):
  wpAny (model prog w) A (getAttrBy (.ref a) (.str "keys" f) Tw) Q E ⟨h,g,d,t,os⟩:=by
 have r:(⟨h,g,d,t,os⟩:Tv).TypeIs (.ref a) "tuple":=⟨_,i,rfl⟩;have B:=F.slot_tuple_getattribute.lookup;have y:=F.slot_tuple_getattribute.bind (.ref a);have v:=F.lk_tuple_hook
 repeat (any_goals (first|assumption|wp_step))
 refine WI F.slot_tuple_getattribute.plain F.entry_tuple_ga (F.slot_tuple_getattribute.check _ _ _ _ _ _ _ _ r (F.args_tuple_getattribute_2 _ _) (pA i q λe h' t' p j=>?_));have fs:=F.sub_ae;show wpAny (model prog w) A (getattributeRaised (Ti.ref a) (Ti.str (Str.ofString "keys") f) (Ti.type "tuple") e Th Tw Tw) Q E _;unfold getattributeRaised;refine Ld (Xt j fs ?_)
 repeat (any_goals (first|assumption|wp_step))
 exact m e h' t' p j
theorem ra(f:h.get? a=lD ⟨.type "tuple",Th,.seq Uz n,sl⟩)(l:A.handled=Th)(i:∀h' t',(∀b o,h.get? b=lD o->h'.get? b=lD o)->Q Th ⟨h',g,d,t',os⟩):
  wpAny (model prog w) A (getAttr? (.ref a) "keys") Q E ⟨h,g,d,t,os⟩:=by
 unfold getAttr? getAttrBy?;have fs:=F.sub_ae;refine Ld ?_
 repeat (any_goals (first|assumption|(specialize uA f l λe h' t' j m=>?_)|wp_step))
 exact i h' t' j
namespace F
theorem entry_upd_loop:entryFor table "dict.update.loop"=lD Ul.«dict.update.loop»:=entryFor_of_tree (by kernel_rfl)
theorem plain_upd_loop:plainId "dict.update.loop"=To:=by left
end F
end
section
variable{prog:T5}{w:Uu}{A:Uk}{E:Ti->Tv->Prop}{s:Tv}{K:Type}[DecidableEq K]{knd:KeyKind prog w K}{I dd Y:Tt}{Z:Array Ti}{ks:bg (K×Ti)}{R:aaG->Tv->Prop}
theorem AN(Ub:bg (K×Ti))(k:K)(v:Ti):(stored Ub k v).length<=Ub.length+1:=by
 unfold stored;split
 .rw[Tj];omega
 .rw[Tz];exact TB _
theorem qO:∀(a Ub:bg (K×Ti)),(merged Ub a).length<=Ub.length+a.length
 |[],Ub=>TB _
 |p::r,Ub=>by have e:=qO r (stored Ub p.1 p.2);have b:=AN Ub p.1 p.2;show(merged (stored Ub p.1 p.2) r).length<=_;rw[TR];omega
theorem AB(a:bg (K×Ti)):(merged [] a).length<=a.length:=by have:=qO a [];simpa using this
theorem G3{P:Heap}(hh:A.handled=Th)(YH:Y≠I)(O:I≠dd)(N:Y≠dd)(hp:∀(i:Nat) (v:Ti),Z[i]?=lD v->∃q key k x,v=.ref q/\q≠dd/\q≠I/\ks[i]?=lD (k,x)/\knd.is k key=To/\P.IsTuple q #[key,x])(hs:ks.length=Z.size)(hz:Z.size<=TL)
  (hR:∀h' l,h'.DictOf knd dd (merged [] ks)->(∀b o,b≠dd->b≠I->P.get? b=lD o->h'.get? b=lD o)->R (.ok (.ret .none)) {s with heap:=h',toks:=l}):
  ∀(m i:Nat) (h:Heap) (l:Nat),Z.size - i=m->i<=Z.size->h.IsTupleIter I Y i->h.IsTuple Y Z->h.DictOf knd dd (merged [] (ks.take i))->(∀b o,b≠dd->b≠I->P.get? b=lD o->h.get? b=lD o)->
   codeAny (model prog w) A (.builtin "dict.update.loop" ⟨[.ref dd,.ref I,rawInt i,.none],[]⟩) R {s with heap:=h,toks:=l}:=by
 have W:=Walks.tuple (prog:=prog) (w:=w) (A:=A.in1) hh I Y YH Z;intro m
 induction m with
 |zero=>
  intro i h l hm hi B u t r;have e:i=Z.size:=by omega
  subst e;refine WX F.entry_upd_loop ?_;rw[Uk.under_plainId F.plain_upd_loop _];refine Ld (W.done _ _ _ ⟨B,u⟩ λh' f g=>?_);rw[Yk (by omega)]at t;refine Ld (Tr (Tr ?_));refine hR h' f (t.at λo e=>g dd o (by simp;exact λz=>O z.symm) e) λb o j a e=>g b o (by simp;exact a) (r b o j a e)
 |succ m ih=>
  intro i h l hm hi B u t r;have U:i<Z.size:=by omega
  refine WX F.entry_upd_loop ?_;rw[Uk.under_plainId F.plain_upd_loop _];refine Ld (W.item i _ _ _ U ⟨B,u⟩ λv h' f hv T g=>?_);obtain⟨q,key,k,x,rfl,G,n,J,H,ht⟩:=hp i v hv;have C:=ht.at λo e=>g q o (by simp;exact n) (r q o G n e);have S:=t.at λo e=>g dd o (by simp;exact λz=>O z.symm) e;have y:=λb o j a e=>g b o (by simp;exact a) (r b o j a e);obtain⟨oq,p,M,nq,L⟩:=C;obtain⟨cq,dq,dtq,X⟩:=oq;cases M;cases L;have hT:({s with heap:=h',toks:=f}:Tv).TypeIs (.ref q) "tuple":=⟨_,p,rfl⟩;refine Ld (UY (Ld ?_));refine Zp ?_;unfold Ul.Dict.pairItems;refine Ld (XU hT ?_);rw[av (by decide)];refine Ld ?_;unfold seqItems?;refine Ld (aeR p (Tr (Tr ?_)));refine UY (wpAny_dictSet_pairs H S (λa d2 s2=>?_) ?_)
  .refine Tr ⟨WU F.plain_upd_loop _,?_⟩;have Q:∀b o,b≠dd->h'.get? b=lD o->a.get? b=lD o:=λb o hb e=>(s2.2 b hb).trans e;refine ih (i+1) a (f+1) (by omega) U (T.1.at λo e=>Q I o O e) (T.2.at λo e=>Q Y o N e) ?_ λb o j a e=>Q b o j (y b o j a e);rw[merged_take_succ [] ks i (k,x) J];exact d2
  .have:(merged [] (ks.take i)).length<=(ks.take i).length:=AB _;rw[UI]at this;omega
end
end PySem
namespace PySem
open Sem (wp)
open PyProof.Rows
section
variable{prog:T5}{w:Uu}{A:Uk}{E:Ti->Tv->Prop}{s:Tv}{K:Type}[DecidableEq K]{knd:KeyKind prog w K}{Y:Tt}{Z:Array Ti}{ks:bg (K×Ti)}{R:aaG->Tv->Prop}
theorem rA(C:A.handled=Th)(B:s.heap.get? Y=lD ⟨.type "tuple",Th,.seq Z n,sl⟩)(I:ks.length=Z.size)(hz:Z.size<=TL)
  (J:∀(i:Nat) (v:Ti),Z[i]?=lD v->∃q key k x,v=.ref q/\ks[i]?=lD (k,x)/\knd.is k key=To/\s.heap.IsTuple q #[key,x])
  (h:∀h' tk,h'.DictOf knd s.heap.objs.size (merged [] ks)->(∀b o,s.heap.get? b=lD o->h'.get? b=lD o)->Q (.ref s.heap.objs.size) {s with heap:=h',toks:=tk}):
  wpAny (model prog w) A (call (.type "dict") [.ref Y]) Q E s:=by
 refine callType_codes (Q₁:=λobj f=>obj=.ref s.heap.objs.size/\f={s with heap:=s.heap.push {cls:=.type "dict",data:=.dict #[]}}) F.kt_called_dict (F.kt_typeCall_dict_1 _) F.entry_dict_init (kt_code_dict_new _ ⟨rfl,rfl⟩) ?_;rintro obj f ⟨rfl,rfl⟩;have a:(s.heap.push {cls:=.type "dict",data:=.dict #[]}).DictOf knd s.heap.objs.size []:=Heap.DictOf.new s.heap;have g:(s.heap.push {cls:=.type "dict",data:=.dict #[]}).get? Y=lD ⟨.type "tuple",Th,.seq Z n,sl⟩:=bt _ B;have L:({s with heap:=s.heap.push {cls:=.type "dict",data:=.dict #[]}}:Tv).TypeIs (.ref Y) "tuple":=⟨_,g,rfl⟩;refine⟨a.typeIs,F.args_dict_init_2 _ _,?_⟩;unfold Ul.«dict.__init__»;refine Ld ?_;unfold Ul.Dict.selfAndRest;refine Ld (Y9 a.typeIs ?_);refine Tr ?_;show wpAny _ _ (Ul.Dict.updateFrom "dict.__init__" s.heap.objs.size (.ref Y) [] .none) _ _ _;unfold Ul.Dict.updateFrom;refine Ld (XU L ?_);rw[av (by decide)];refine Ld (ra g C λh' G m=>?_);rw[av (show(Th:br Ti).isNone=To from rfl)];refine Ld (YT ?_);have l:=m _ _ g;have t:h'.IsTuple Y Z:=⟨_,l,rfl,n,rfl⟩;refine Ld (Y7 t ?_);refine Tr ⟨WU F.plain_upd_loop _,?_⟩;have P7:s.heap.objs.size<h'.objs.size:=by obtain⟨o,_,_,p,_⟩:=a;exact bP (m _ _ p)
 have j:=bP B;refine G3 (A:=A.in1) (knd:=knd) C (T8 (W0 j P7)) (U4 P7) (T8 j) (λi v e=>?_) I hz (λu r O H=>?_) Z.size 0 _ G (by omega) (Ur _) ⟨_,b5 _ rfl,rfl,rfl⟩ ⟨_,bt _ l,rfl,n,rfl⟩ ?_ λb o _ _ e=>e
 .obtain⟨q,key,k,x,rfl,N,u,o,p,M⟩:=J i v e;have y:=bP p;exact⟨q,key,k,x,rfl,T8 y,T8 (W0 y P7),N,u,o,bt _ (m _ _ (bt _ p)),M⟩
 .refine⟨rfl,h u r O λb o e=>?_⟩;have lb:=bP e;exact H b o (T8 lb) (T8 (W0 lb P7)) (bt _ (m _ _ (bt _ e)))
 .have:=a.at (h':=h'.push {cls:=.type "tuple_iterator",data:=.fields #[.ref Y,.int 0 0]}) λo e=>bt _ (m _ _ e);exact this
end
end PySem
namespace L10
open PySem PySem.Spec PyProof.Rows L2 L3
inductive aaE(K:Tg)(H:Hp):bg V->bg (cN×V)->Prop
 |nil:aaE K H [] []
 |cons {q:Tt} {k:cN} {v:V} {vs:bg V} {Ub:bg (cN×V)}:XY K H q [kV k,v]->aaE K H vs Ub->aaE K H (.ref q::vs) ((k,v)::Ub)
def Fy(K:Tg):bg V->Hp->VK->Prop:=λxs H Q=>∃p ys Ub,xs=[.ref p]/\XY K H p ys/\aaE K H ys Ub/\∀d,H d=Th->Q (.ref d) (bq H d (.dK (pM [] Ub)))
theorem Fi(I:Inv X pins σ H s):∀{ys:bg V} {Ub:bg (cN×V)} {us:bg Ti},aaE X.K H ys Ub->Vals ys us->∃ks:bg (cN×Ti),KV Ub ks/\ks.length=us.length/\∀(i:Nat) (v:Ti),us[i]?=lD v->∃q key k x,v=.ref q/\ks[i]?=lD (k,x)/\(cY X.prog X.w).is k key=To/\s.heap.IsTuple q #[key,x]
 |_,_,_,.nil,.nil=>⟨[],.nil,rfl,λi v e=>by simp at e⟩
 |_,_,_,.cons (q:=q) (k:=k) (v:=v) h t,.cons r rs=>by
  obtain⟨ks,o,n,m⟩:=Fi I t rs;obtain⟨p,rv,pl,_⟩:=I.tuple h;cases r;obtain⟨g,f,rfl,l,j⟩:∃g f,p=[g,f]/\RelV (kV k) g/\RelV v f:=by
   cases rv with
   |cons a b=>cases b with
    |cons b c=>cases c;exact⟨_,_,rfl,a,b⟩
  refine⟨(k,f)::ks,.cons ⟨rfl,j⟩ o,by rw[TR,TR,n],λi u e=>?_⟩;cases i with
  |zero=>cases e;exact⟨q,g,k,f,rfl,rfl,u8 l,pl⟩
  |succ i=>exact m i u (by simpa using e)
theorem Az(L:X.calm=To):Wj X (.type "dict") (Fy X.K):=by
 intro f s M H xs O Q I r h;obtain⟨p,N,Ub,rfl,A,B,q⟩:=h;obtain⟨u,rfl,j⟩:=iV r;cases j;obtain⟨Y,rv,⟨o,C,⟨b,n,J⟩,a⟩,y⟩:=I.afa A;obtain⟨T,g,w,t⟩:=Fi I B rv;obtain⟨S,R,m,l⟩:=o;cases b;cases J;cases a;have E:=rv.length;have F:=g.length;refine rA (I.ok.hd L) C (by rw[TU];exact w) (by rw[TU,<-E];exact y) (λi v e=>t i v (by simpa using e)) λU P dd G=>?_;refine⟨.ref s.heap.objs.size,_,I.laid G (TB _) ?_,rfl,q _ (I.UW.fresh (TB _))⟩;refine AF ?_ ?_ (KV.merge g .nil) dd
 .have:=mv Ub [];rw[Vq]at this;omega
 .exact beq_eq_false_iff_ne.mpr (U4 I.big)
end L10
namespace L10
open PySem PyProof.Rows L2 L3
theorem Pj:UT "dict"=lD (.type "dict"):=by left
section
variable{B O O':cg}{K:Tg}{E:XK}{H H' R P:Hp}{Y α' U T:bg Tt}{Z Z' Z1 X:a9}{S:L2.St}{ρ:bu}{v:V}
def uE:SV->br cN
 |.fz (.int i)=>lD (.inl i)
 |.fz (.str x)=>lD (.inr x)
 |_=>Th
theorem rL(e:uE x=lD k)(h:Ws O K H Y v x):v=kV k:=by
 unfold uE at e;split at e
 .cases e;cases h;rfl
 .cases e;cases h;rfl
 .cases e
abbrev wW(O:cg)(K:Tg)(H:Hp)(Y:bg Tt):bg (cN×V)->bg (cN×SV)->Prop:=Paired (λ(p:cN×V) (q:cN×SV)=>p.1=q.1/\Ws O K H Y p.2 q.2)
def iu(Z:a9):SV->br (Nat×bg (cN×SV))
 |.rf i=>match Z[i]? with
  |some (.Y4 Ub)=>lD (i,Ub)
  |_=>Th
 |_=>Th
theorem mL(s:StoOk B K H Y Z)(b:Ws (ow B Y Z) K H Y v x)(h:iu Z x=lD (i,Ub)):Z[i]?=lD (.Y4 Ub)/\∃a ws,Y[i]?=lD a/\v=.ref a/\H a=lD (.dK ws)/\wW (ow B Y Z) K H Y ws Ub:=by
 cases x with
 |fz d=>cases h
 |tp l=>cases h
 |rf j=>
  obtain⟨a,ha,rfl⟩:=b;unfold iu at h;dsimp only at h;cases q:Z[j]? with
  |none=>rw[q]at h;cases h
  |some c=>
   rw[q]at h;cases c with
   |Y4 m=>have e:=TQ h;cases e;obtain⟨ws,g,f⟩:=s.ZU i a _ ha q;exact⟨q,a,ws,ha,rfl,g,f⟩
   |_=>cases h
def j4(Ub:bg (cN×SV))(k:cN):br SV:=(Ub.find? λkv=>decide (kv.1=k)).map (·.2)
def ko(Ub:bg (cN×SV))(k:cN)(x:SV):bg (cN×SV):=
 if(Ub.any λkv=>decide (kv.1=k))=To then Ub.map (λkv=>if kv.1=k then(kv.1,x) else kv) else Ub++[(k,x)]
def nA(Ub:bg (cN×SV))(k:cN):bg (cN×SV):=Ub.filter λkv=>decide (kv.1≠k)
theorem rR:∀{ws:bg (cN×V)} {Ub:bg (cN×SV)},wW O K H Y ws Ub->(∀x,j4 Ub k=lD x->∃v,kz ws k=lD v/\Ws O K H Y v x)/\(j4 Ub k=Th->kz ws k=Th)
 |_,_,.nil=>⟨λx e=>(by cases e),λ_=>rfl⟩
 |(a,u)::ws,(b,y)::Ub,.cons ⟨h1,h2⟩ t=>by
  cases h1;unfold j4 kz;rw[Uw,Uw];by_cases e:a=k
  .simp only[aP e];exact⟨λx h=>⟨u,rfl,by cases h;exact h2⟩,λh=>by cases h⟩
  .simp only[a4 e];exact rR t
theorem Q2:∀{ws:bg (cN×V)} {Ub:bg (cN×SV)},wW O K H Y ws Ub->(ws.any λkv=>decide (kv.1=k))=Ub.any λkv=>decide (kv.1=k)
 |_,_,.nil=>rfl
 |(a,u)::ws,(b,y)::Ub,.cons ⟨h1,h2⟩ t=>by cases h1;rw[Xj,Xj,Q2 t]
theorem Nq(f:Ws O K H Y v x):∀{ws:bg (cN×V)} {Ub:bg (cN×SV)},wW O K H Y ws Ub->wW O K H Y (ws.map (λkv=>if kv.1=k then(kv.1,v) else kv)) (Ub.map (λkv=>if kv.1=k then(kv.1,x) else kv))
 |_,_,.nil=>.nil
 |(a,u)::ws,(b,y)::Ub,.cons ⟨h1,h2⟩ t=>by
  cases h1;rw[TX,TX];by_cases e:a=k
  .rw[av e,av e];exact .cons ⟨rfl,f⟩ (Nq f t)
  .rw[ax e,ax e];exact .cons ⟨rfl,h2⟩ (Nq f t)
theorem HC(h:wW O K H Y ws Ub)(r:p.1=q.1/\Ws O K H Y p.2 q.2):wW O K H Y (ws++[p]) (Ub++[q]):=by
 induction h with
 |nil=>exact .cons r .nil
 |cons a _ b=>exact .cons a b
theorem CO(a:Ws O K H Y v x)(h:wW O K H Y ws Ub):wW O K H Y (ju ws k v) (ko Ub k x):=by
 unfold ju ko;rw[Q2 h];split
 .exact Nq a h
 .exact HC h ⟨rfl,a⟩
theorem sd:∀{ws:bg (cN×V)} {Ub:bg (cN×SV)},wW O K H Y ws Ub->wW O K H Y (oX ws k) (nA Ub k)
 |_,_,.nil=>.nil
 |(a,u)::ws,(b,y)::Ub,.cons ⟨h1,h2⟩ t=>by
  cases h1;unfold oX nA;rw[Wv,Wv];by_cases e:a=k
  .have z:decide (a≠k)=Tw:=a4 λn=>n e;simp only[z];exact sd t
  .have z:=aP e;simp only[z];exact .cons ⟨rfl,h2⟩ (sd t)
def ym(neg:Bool)(a fd:cT):cT:=λρ Z=>(a ρ Z).bind λx Z1=>(fd ρ Z1).bind λo X=>(RS.UB X (uE x)).bind λk X=>(RS.UB X (iu X o)).bind λp X=>.ok (.fz (.bool ((j4 p.2 k).isSome !=neg))) X
theorem IU(h:wW O K H Y ws Ub):(kz ws k).isSome=(j4 Ub k).isSome:=by
 obtain⟨b,a⟩:=rR h;cases q:j4 Ub k with
 |none=>rw[a q];rfl
 |some x=>obtain⟨u,e,_⟩:=b x q;rw[e];rfl
theorem K7(p:cG K E tk fk)(hd:cG K E td fd):cG K E (Rf tk td) (ym Tw fk fd):=by intro B S H Y Z ρ Q s e w;refine p B S H Y Z ρ _ s e (w.bind.imp λx U Z1 R t h g v m=>?_);refine hd B S R U Z1 ρ _ h (e.VX t) (g.bind.imp λo T X P y f b u n=>?_);obtain⟨k,l,b⟩:=WS.UB b;obtain⟨⟨i,Ub⟩,j,b⟩:=WS.UB b;obtain⟨_,a,ws,ha,rfl,r,q⟩:=mL f n j;refine⟨a,kz ws k,rfl,by rw[rL l m];exact aaN.k r,?_⟩;rw[IU q];refine WS.now f b _ ?_;rw[aes];exact .bl _
def vC(fd a:cT):cT:=λρ Z=>(fd ρ Z).bind λo Z1=>(a ρ Z1).bind λx X=>(RS.UB X (uE x)).bind λk X=>(RS.UB X (iu X o)).bind λp X=>RS.UB X (j4 p.2 k)
theorem zg(hd:cG K E td fd)(t:cG K E tk fk):cG K E (MV td tk) (vC fd fk):=by
 intro B S H Y Z ρ Q s e w;refine hd B S H Y Z ρ _ s e (w.bind.imp λo U Z1 R G j g u r=>?_);refine t B S R U Z1 ρ _ j (e.VX G) (g.bind.imp λx T X P F f b v p=>?_);obtain⟨k,m,b⟩:=WS.UB b;obtain⟨⟨i,Ub⟩,l,b⟩:=WS.UB b;obtain⟨_,a,ws,ha,rfl,C,A⟩:=mL f (r.VX F) l;dsimp only at b;cases q:j4 Ub k with
 |none=>rw[q]at b;exact b.elim
 |some y=>rw[q]at b;obtain⟨z,n,h⟩:=(rR A).1 y q;exact⟨a,z,rfl,by rw[rL m p,<-n];exact aaN.k C,WS.now f b z h⟩
def zq(fd b fv:cT):eV:=λρ Z=>(fv ρ Z).bind λy Z1=>(fd ρ Z1).bind λo X=>(b ρ X).bind λx a=>(RS.UB a (uE x)).bind λk a=>(RS.UB a (iu a o)).bind λp a=>if p.2.length<1000000 then .ok (.nx ρ) (a.set p.1 (.Y4 (ko p.2 k y))) else .bad
theorem ER(hd:cG K E td fd)(hk:cG K E tk fk)(hv:cG K E tv fv):mq K E (Mg td tk tv) (zq fd fk fv):=by
 intro B S H Y Z ρ D s f w;refine hv B S H Y Z ρ _ s f (WS.imp (WS.bind w) λy U Z1 R q L I t m=>?_);refine hd B S R U Z1 ρ _ L (f.VX q) (WS.imp (WS.bind I) λo T X P p J G u hu=>?_);refine hk B S P T X ρ _ J (f.VX (q.trans p)) (WS.imp (WS.bind G) λx b g j n A e z Q=>?_);obtain⟨k,N,e⟩:=WS.UB e;obtain⟨⟨i,Ub⟩,M,e⟩:=WS.UB e;obtain⟨l,a,ws,ha,rfl,g1,C⟩:=mL A (hu.VX n) M;dsimp only at e;by_cases hn:Ub.length<1000000
 .rw[av hn]at e;have ev:Ev (ow B b g) j (ow B b g) (bq j a (.dK (ju ws k t))):=sJ ha l (by intro z;cases z);have F:Vd b g j b (g.set i (.Y4 (ko Ub k y))) (bq j a (.dK (ju ws k t))):=Vd.put ha l (by intro z;cases z) (by intro z;cases z);have hl:=Paired.length C;refine⟨a,_,rfl,by rw[rL N Q];exact ada.k g1 (uX (by omega)),?_⟩;exact e b _ F (A.put ha l (by intro z;cases z) (by intro z;cases z) ⟨_,aF,CO ((m.VX (p.trans n)).ev ev λ_ _ h=>h) (Paired.Xg C λ_ _ r=>⟨r.1,r.2.ev ev λ_ _ h=>h⟩)⟩) S ((f.VX (q.trans (p.trans n))).VX F)
 .rw[ax hn]at e;exact e.elim
def yU(fd a:cT):cT:=λρ Z=>(fd ρ Z).bind λo Z1=>(RS.UB Z1 (iu Z1 o)).bind λ_ Z1=>(a ρ Z1).bind λx X=>(RS.UB X (uE x)).bind λk X=>(RS.UB X (iu X o)).bind λp X=>(RS.UB X (j4 p.2 k)).bind λy X=>.ok y (X.set p.1 (.Y4 (nA p.2 k)))
theorem GV(hd:cG K E td fd)(L:cG K E tk fk):cG K E (Fd td tk) (yU fd fk):=by intro B S H Y Z ρ Q s j w;refine hd B S H Y Z ρ _ s j (w.bind.imp λo U Z1 R e1 m f u n=>?_);obtain⟨⟨i0,afe⟩,G,f⟩:=WS.UB f;obtain⟨_,a,e,_,rfl,N,_⟩:=mL m n G;refine⟨a,rfl,.inl ⟨e,.inl N⟩,?_⟩;refine L B S R U Z1 ρ _ m (j.VX e1) (f.bind.imp λx T X P e2 l b v J=>?_);obtain⟨k,F,b⟩:=WS.UB b;obtain⟨⟨i,Ub⟩,C,b⟩:=WS.UB b;obtain⟨g,a',ws,ha,ea,M,p⟩:=mL l (n.VX e2) C;cases ea;dsimp only at b;obtain⟨y,q,b⟩:=WS.UB b;obtain⟨z,I,A⟩:=(rR p).1 y q;have ev:Ev (ow B T X) P (ow B T X) (bq P a (.dK (oX ws k))):=sJ ha g (by intro z;cases z);have t:Vd T X P T (X.set i (.Y4 (nA Ub k))) (bq P a (.dK (oX ws k))):=Vd.put ha g (by intro z;cases z) (by intro z;cases z);refine⟨ws,k,z,M,rL F J,I,?_⟩;exact b T _ t (l.put ha g (by intro z;cases z) (by intro z;cases z) ⟨_,aF,sd (Paired.Xg p λ_ _ r=>⟨r.1,r.2.ev ev λ_ _ h=>h⟩)⟩) z (A.VX t)
theorem kX(s:StoOk B K H Y Z)(a:H p=Th)(w:WS K E B H Y Z (PQ B K Q) (.ok (.rf Z.length) (Z++[c])))(f:∀e:Vd Y Z H (Y++[p]) (Z++[c]) (bq H p o),COk (ow B (Y++[p]) (Z++[c])) K (bq H p o) (Y++[p]) p c):Q (.ref p) (bq H p o):=by have b:Vp H (bq H p o):=bO a _;have e:Vd Y Z H (Y++[p]) (Z++[c]) (bq H p o):=Vd.abh s.len b a;exact w _ _ e (s.abh b a (by rw[aF];simp) (f e)) _ ⟨p,by rw[<-s.len];exact bH,rfl⟩
def Dm(fd:cT):cT:=λρ Z=>(fd ρ Z).bind λo Z1=>(RS.UB Z1 (iu Z1 o)).bind λp Z1=>.ok (.rf Z1.length) (Z1++[.lst (p.2.map (·.2))])
theorem yJ:∀{ws:bg (cN×V)} {Ub:bg (cN×SV)},wW O K H Y ws Ub->VZ O K H Y (ws.map (·.2)) (Ub.map (·.2))
 |_,_,.nil=>.nil
 |_,_,.cons h t=>.cons h.2 (yJ t)
theorem zK(hd:cG K E td fd):cG K E (yG Gf (fy (QG K "dict" MP td) jK)) (Dm fd):=by intro B S H Y Z ρ Q s m w;refine hd B S H Y Z ρ _ s m (w.bind.imp λo U Z1 R G h f u t=>?_);obtain⟨⟨i,Ub⟩,q,f⟩:=WS.UB f;obtain⟨F,a,ws,ha,rfl,g,C⟩:=mL h t q;refine⟨.inr (.inr (.inl ⟨rfl,.inl ⟨ws,g⟩⟩)),a,ws,rfl,rfl,g,λp y=>?_⟩;have b:Vp R (bq R p (Rv p a)):=bO y _;have n:=h.grow b;have j:=WS.from (Vd.same b) f;refine⟨p,a,ws,rfl,aF,b _ _ g,λl A=>?_⟩;refine kX n A j λe=>⟨_,aF,yJ (Paired.Xg C λ_ _ r=>⟨r.1,(r.2.VX (Vd.same b)).VX e⟩)⟩
def Ar:cN->br Int
 |.inl i=>lD i
 |.inr _=>Th
def vV(fd:cT):cT:=λρ Z=>(fd ρ Z).bind λo Z1=>(RS.UB Z1 (iu Z1 o)).bind λp Z1=>(RS.UB Z1 (aL Ar (p.2.map (·.1)))).bind λa Z1=>if a.length<64 then .ok (.rf Z1.length) (Z1++[.lst ((lG a).map λi=>SV.fz (.int i))]) else .bad
theorem tS:∀{ks:bg cN} {a:bg Int},aL Ar ks=lD a->ks=a.map Sum.inl
 |[],_,e=>by cases e;rfl
 |k::r,a,e=>by
  unfold aL at e;cases k with
  |inr x=>cases e
  |inl i=>
   dsimp only[Ar]at e;cases q:aL Ar r with
   |none=>rw[q]at e;cases e
   |some b=>rw[q]at e;cases e;rw[TX,<-tS q]
theorem yf:∀{ws:bg (cN×V)} {Ub:bg (cN×SV)},wW O K H Y ws Ub->ws.map (·.1)=Ub.map (·.1)
 |_,_,.nil=>rfl
 |_,_,.cons h t=>by rw[TX,TX,h.1,yf t]
theorem CB(O:cg)(K:Tg)(H:Hp)(Y:bg Tt):∀ns:bg Int,VZ O K H Y (ns.map V.int) (ns.map λi=>SV.fz (.int i))
 |[]=>.nil
 |n::r=>.cons (.int n) (CB O K H Y r)
theorem yB(hd:cG K E td fd):cG K E (yG GF (fy td jK)) (vV fd):=by
 intro B S H Y Z ρ Q s h w;refine hd B S H Y Z ρ _ s h (w.bind.imp λo U Z1 R G g b u n=>?_);obtain⟨⟨i,Ub⟩,m,b⟩:=WS.UB b;obtain⟨C,a,ws,ha,rfl,y,t⟩:=mL g n m;obtain⟨f,j,b⟩:=WS.UB b;by_cases hn:f.length<64
 .rw[av hn]at b;refine⟨a,ws,f,rfl,y,by rw[yf t];exact tS j,hn,λl F r q p=>?_⟩;have A:=l4 (q.trans (fJ f).symm) p (eR f);subst A;exact kX g r b λe=>⟨_,aF,CB _ _ _ _ _⟩
 .rw[ax hn]at b;exact b.elim
def sU:D->br (cN×SV)
 |.tuple [.int i,d]=>lD (.inl i,.fz d)
 |.tuple [.str x,d]=>lD (.inr x,.fz d)
 |_=>Th
def wC:SV->br (bg (cN×SV))
 |.fz (.tuple ds)=>aL sU ds
 |_=>Th
theorem DT(e:wC x=lD ps):∃ds,x=.fz (.tuple ds)/\aL sU ds=lD ps:=by
 unfold wC at e;split at e
 .exact⟨_,rfl,e⟩
 .cases e
def nu(Ub a:bg (cN×SV)):bg (cN×SV):=a.foldl (λb kv=>ko b kv.1 kv.2) Ub
def zn(fe:cT):cT:=λρ Z=>(fe ρ Z).bind λx Z1=>(RS.UB Z1 (wC x)).bind λps Z1=>.ok (.rf Z1.length) (Z1++[.Y4 (nu [] ps)])
theorem zJ:∀{vs:bg V} {ds:bg D} {ps:bg (cN×SV)},L3.Vl O K H vs ds->aL sU ds=lD ps->∃Ub,aaE K H vs Ub/\wW O K H Y Ub ps
 |_,_,_,.nil,e=>by cases e;exact⟨[],.nil,.nil⟩
 |_,_,_,.cons (d:=d) (ds:=ds) h t,e=>by
  unfold aL at e;cases q:sU d with
  |none=>rw[q]at e;cases e
  |some p=>
   rw[q]at e;dsimp only at e;cases q2:aL sU ds with
   |none=>rw[q2]at e;cases e
   |some ps=>
    rw[q2]at e;cases e;obtain⟨Ub,i,g⟩:=zJ t q2;unfold sU at q;split at q
    .cases q
     cases h with
     |tup h f=>cases f with
      |cons a b=>cases b with
       |cons b c=>cases c;cases a;exact⟨(.inl _,_)::Ub,.cons h.1 i,.cons ⟨rfl,b⟩ g⟩
    .cases q
     cases h with
     |tup h f=>cases f with
      |cons a b=>cases b with
       |cons b c=>cases c;cases a;exact⟨(.inr _,_)::Ub,.cons h.1 i,.cons ⟨rfl,b⟩ g⟩
    .cases q
theorem BF:∀{e:bg (cN×V)} {f:bg (cN×SV)} {ws:bg (cN×V)} {Ub:bg (cN×SV)},wW O K H Y e f->wW O K H Y ws Ub->wW O K H Y (pM ws e) (nu Ub f)
 |_,_,_,_,.nil,h=>h
 |(a,u)::e,(b,y)::f,_,_,.cons r t,h=>by obtain⟨i,g⟩:=r;cases i;show wW O K H Y (pM (ju _ a u) e) (nu (ko _ a y) f);exact BF t (CO g h)
theorem GU(n:cG K E te fe):cG K E (yG (Fy K) (fy te jK)) (zn fe):=by
 intro B S H Y Z ρ Q s f w;refine n B S H Y Z ρ _ s f (w.bind.imp λx U Z1 R p g b u l=>?_);obtain⟨ps,q,a⟩:=WS.UB b;obtain⟨ds,rfl,q⟩:=DT q;have a:=a;cases l with
 |tup h m=>obtain⟨Ub,j,i⟩:=zJ m q;exact⟨_,_,Ub,rfl,h.1,j,λd o=>kX g o a λe=>⟨_,aF,BF (Paired.Xg i λ_ _ r=>⟨r.1,r.2.VX e⟩) .nil⟩⟩
end
end L10
namespace PySem
open PyProof.Rows
def kr:br Int->Int->br Int
 |none,x=>lD x
 |some m,x=>lD (if x>m then x else m)
def QM:br (Int×Tok)->Array Ti
 |none=> #[]
 |some (m,t)=> #[.int m t,.int m t]
def MJ(d:Ti):br (Int×Tok)->Ti
 |none=>d
 |some (m,t)=>.int m t
namespace F
theorem args_maxd(a b:Ti):checkBuiltinCall "max" ⟨[a],[("default",b)]⟩=pure ():=by kernel_rfl
end F
section
variable{prog:T5}{w:Uu}{A:Uk}{E:Ti->Tv->Prop}{R:aaG->Tv->Prop}{I l S:Tt}{vs:bg Ti}{d:Ti}
theorem LH(hh:A.handled=Th)(YH:l≠I)(r:S≠I)(T:S≠l){s:Tv}:
  ∀{C:bg Ti} {ns:bg Int},IntsAre C ns->∀(i:Nat) (h:Heap) (N:Nat) (b:br (Int×Tok)) (c:Nat),vs=vs.take i++C->i<=vs.length->h.IsListIter I l i->h.IsList l vs.toArray->h.get? S=lD {cls:=.type "list",dict:=Th,data:=.seq (QM b) c,slots:= #[]}->
  (∀h' N b',b'.map (·.1)=ns.foldl kr (b.map (·.1))->(∀a o,a≠I->a≠S->h.get? a=lD o->h'.get? a=lD o)->R (.ok (.ret (MJ d b'))) {s with heap:=h',toks:=N})->
  codeAny (model prog w) A (.builtin "max.loop" ⟨[.ref I,.none,.ref S],[("default",d)]⟩) R {s with heap:=h,toks:=N}:=by
 have W:=Walks.list (prog:=prog) (w:=w) (A:=A.in1) hh I l YH vs.toArray;intro C ns hi
 induction hi with
 |nil=>
  intro i h N b c u hi it li U M;have e:i=vs.toArray.size:=by rw[Uo]at u;have:=dw XT u;rw[UI]at this;rw[TU];omega
  refine WX F.entry_max_loop ?_;rw[Uk.under_plainId F.plain_max_loop _];refine Ld (Vf U rfl ?_);refine Ld (Zp (W.done _ _ _ (e▸⟨it,li⟩) λh' g y=>?_));have f:=y S _ (by simpa using r) U;cases b with
  |none=>refine Ld (YT (Tr ?_));exact M h' g Th rfl λa o j B e=>y a o (by simpa using j) e
  |some p=>obtain⟨m,t⟩:=p;refine Ld (aa9 f rfl (Ld (WH (Tr ?_))) (hz:=by show 2<=TL;decide));exact M _ g (lD (m,t)) rfl λa o j B e=>(b7 _ _ (db B)).trans (y a o (by simpa using j) e)
 | @cons n t aiI agV hr ih=>
  intro i h N b c u hi it li U M;have Xp:i<vs.toArray.size:=by have:=dw XT u;rw[Tz,UI,TR]at this;rw[TU];omega
  have Q:vs[i]?=lD (.int n t):=by rw[u,Um (by rw[UI];omega),UI,aet hi,ZO];rfl
  have G:vs=vs.take (i+1)++aiI:=by rw[WY,Q];rw[Ux];exact u
  have H:i+1<=vs.length:=by rw[TU]at Xp;exact Xp
  refine WX F.entry_max_loop ?_;rw[Uk.under_plainId F.plain_max_loop _];refine Ld (Vf U rfl ?_);refine Ld (Zp (W.item i _ _ _ Xp ⟨it,li⟩ λv h' g hP L y=>?_));have ev:v=.int n t:=by have X:=hP;rw[List.getElem?_toArray,Q]at X;exact(TQ X).symm
  subst ev;have f:=y S _ (by simpa using r) U;have K:(toString "max"++toString ".loop":String)= "max.loop":=by decide
  cases b with
  |none=>
   show wpAny _ A.in1 (updateSeq S (λ_=> #[Ti.int n t,Ti.int n t])>>=_) _ _ _;refine Ld (aa9 f rfl ?_);rw[K];refine Tr ⟨WU F.plain_max_loop _,ih (i+1) _ g (lD (n,t)) _ G H (L.1.at λo e=>?_) (L.2.at λo e=>?_) (b9 _ f rfl) λB q Z Y O=>M B q Z Y λa o j J e=>O a o j J ((b7 _ _ (db J)).trans (y a o (by simpa using j) e))⟩
   .exact(b7 _ _ r).trans e
   .exact(b7 _ _ T).trans e
  |some p=>
   obtain⟨m,t0⟩:=p;show wpAny _ A.in1 (tryCatch (holding [Ti.int n t,Ti.int n t] (richCompare .Gt (Ti.int n t) (Ti.int m t0)>>=_)) _>>=_) _ _ _;have ajO:=CmpOf.ints_gt (prog:=prog) (w:=w) (A:=A.in1) (P:=λ(k:Nat) v=>(k=0/\v=Ti.int n t)\/(k=1/\v=Ti.int m t0)) (λk=>if k=0 then n else m) λk v u=>by
    rcases u with⟨rfl,rfl⟩|⟨rfl,rfl⟩
    .exact⟨t,rfl⟩
    .exact⟨t0,rfl⟩
   refine Ld (Zp (UY (Ld (ajO 0 1 _ _ _ _ _ (.inl ⟨rfl,rfl⟩) (.inr ⟨rfl,rfl⟩) ?_))));refine Ld (UY (Wt ?_));refine Ld (WH (Tr ?_));show wpAny _ A.in1 (if decide (n>m)=To then _ else _) _ _ _;by_cases hb:n>m
   .rw[av (aP hb)]
    refine Ld (aa9 f rfl (Ld (WH ?_)) (hz:=by show 2<=TL;decide));rw[K];refine Tr ⟨WU F.plain_max_loop _,ih (i+1) _ g (lD (n,t)) _ G H (L.1.at λo e=>?_) (L.2.at λo e=>?_) (b9 _ f rfl) λB q Z Y O=>M B q Z ?_ λa o j J e=>O a o j J ((b7 _ _ (db J)).trans (y a o (by simpa using j) e))⟩
    .exact(b7 _ _ r).trans e
    .exact(b7 _ _ T).trans e
    .rw[Y];show _=agV.foldl kr (lD (if n>m then n else m));rw[av hb];rfl
   .rw[ax (by rw[a4 hb];exact TV)];refine Ld (WH ?_);rw[K];refine Tr ⟨WU F.plain_max_loop _,ih (i+1) _ g (lD (m,t0)) c G H L.1 L.2 f λB q Z Y O=>M B q Z ?_ λa o j J e=>O a o j J (y a o (by simpa using j) e)⟩;rw[Y];show _=agV.foldl kr (lD (if n>m then n else m));rw[ax hb];rfl
theorem Ez(n:A.handled=Th)(g:s.heap.IsList l vs.toArray)(hi:IntsAre vs ns)
  (q:∀h' tk b,b.map (·.1)=ns.foldl kr Th->(∀a o,s.heap.get? a=lD o->h'.get? a=lD o)->Q (MJ d b) {s with heap:=h',toks:=tk}):
  wpAny (model prog w) A (call (.builtin "max") [.ref l] [("default",d)]) Q E s:=by
 have j:l<s.heap.objs.size:=by obtain⟨_,e,_⟩:=g;exact bP e
 have h:(toString "max"++toString ".loop":String)= "max.loop":=by decide
 refine X7 (WI F.plain_max F.entry_max (Zn (F.args_maxd _ _) ?_));refine Ld (Zn (show Ul.Builtins.bindParams "max" ["key","default"] 0 ⟨[],[("default",d)]⟩=pure [Th,lD d] from rfl) ?_);refine Ld (Tr ?_);refine Ld (WT g ?_);refine Ld (UG ?_);rw[h];have f:(s.heap.push {cls:=.type "list_iterator",data:=.fields #[.ref l,.int 0 0]}).objs.size=s.heap.objs.size+1:=cn _ _;refine Tr ⟨WU F.plain_max_loop _,LH n (T8 j) (by rw[f];exact Nat.succ_ne_self _) (by rw[f];exact U4 (X2 j)) hi 0 _ s.toks Th 0 rfl (Ur _) ⟨_,bt _ (b5 _ rfl),rfl,rfl⟩ ((g.push _).push _) (b5 _ rfl) λh' tk b p m=>?_⟩;refine q h' tk b p λa o e=>?_;have i:=bP e;exact m a o (T8 i) (by rw[f];exact T8 (X2 i)) (bt _ (bt _ e))
end
end PySem
namespace L10
open PySem PySem.Spec PyProof.Rows L2 L3
def Mj(K:Tg)(i:Int):bg V->Hp->VK->Prop:=λxs H Q=>∃(p:Tt) (a:bg Int),xs=[.ref p]/\Ym K H p (a.map V.int)/\Q (.int ((a.foldl kr Th).getD i)) H
theorem Dh(E:X.calm=To)(C:Gl X "max")(hm:X.mg "max"=Th)(ha:PA X [l] ta)(g:QR l=Tw:=by rfl):
  PE X (.Call (.Name "max" p) [l] [⟨lD "default",.Constant (.int i) j p1,p2⟩] pos) (yG (Mj X.K i) ta):=by
 intro e s n H Q I h;refine Wf (pW I C hm MD (callWith_kw (cz (ha pos e s n H _ I h) λJ o ⟨vs,G,f,v,w⟩=>?_) (by rw[vk _ _ _ g];rfl) (by rw[vk _ _ _ g];rfl) rfl rfl));obtain⟨a,y,rfl,A,q⟩:=w;obtain⟨u,rfl,r⟩:=iV v;cases r;obtain⟨O,rv,pl,M⟩:=f.list A;refine ahs (aeP (aht ?_));have P:=f.tok (o.toks+1);refine Ez (f.ok.hd E) pl.isList (mY rv) λN L b F B=>?_;refine⟨.int ((y.foldl kr Th).getD i),G,f.kept B,?_,q⟩;rw[<-F];cases b with
 |none=>exact⟨_,rfl⟩
 |some p=>obtain⟨m,t⟩:=p;exact⟨t,rfl⟩
def IS(i:Int):bg D->br RV
 |[.list ds]=>(pI ds).map λa=>.fz (.int ((a.foldl kr Th).getD i))
 |_=>Th
theorem DQ{K:Tg}:EL K (Mj K i) (IS i):=by
 intro O H xs ds rv Q n f e q;unfold IS at e;split at e
 .rename_i m
  cases f with
  |cons l j=>
   cases j;cases qa:pI m with
   |none=>rw[qa]at e;cases e
   |some b=>rw[qa]at e;cases e;obtain⟨a,vs,rfl,h,g⟩:=BV l;obtain rfl:=rE g qa;exact⟨a,b,rfl,h.sq,q.at (.int _)⟩
 .cases e
end L10
namespace L10
open PySem L2 L3
section
variable{B O O':cg}{K:Tg}{E:XK}{H H' H1 H2:Hp}{X Y T α2:bg Tt}{Z U Z1 Z2:a9}{σ:L2.St}{ρ:bu}{v:V}
theorem io{l r:bg A}(h:(l++r)[i]?=lD y):l[i]?=lD y\/∃j,i=l.length+j/\r[j]?=lD y:=by
 by_cases hi:i<l.length
 .rw[TF hi]at h;exact .inl h
 .rw[Um (by omega)]at h;exact .inr ⟨i - l.length,by omega,h⟩
theorem Lb{l r:bg A}{i:Nat}(h:l[i]?=lD y):(l++r)[i]?=lD y:=by rw[TF (Tn.mp h).1];exact h
theorem HD{l r:bg A}(h:r[i]?=lD y):(l++r)[l.length+i]?=lD y:=by rw[Um (by omega),V4];exact h
theorem HL(g:X.length=Z.length)(h:Lv (X++ps) (Z++cs) b):Lv X Z b\/b∈ps:=by
 obtain⟨i,d,f,e,a⟩:=h;rcases io f with g1|⟨j,e1,g1⟩
 .rcases io e with g2|⟨k,e2,g2⟩
  .exact .inl ⟨i,d,g1,g2,a⟩
  .have:=(Tn.mp g1).1;omega
 .exact .inr (Ug g1)
theorem Vd.aaS(s:StoOk B K H X Z)(e:Vp H H')(f:∀p∈ps,H p=Th):Vd X Z H (X++ps) (Z++cs) H':=
 ⟨λi a h=>Lb h,λb u q _=>e b u q,λb z=>(HL s.len z).imp id λz=>f b z⟩
theorem StoOk.aaS(s:StoOk B K H X Z)(e:Vp H H')(f:∀p∈ps,H p=Th)(m:∀p∈ps,H' p≠Th)(nd:∀(i j:Nat) (a:Tt),ps[i]?=lD a->ps[j]?=lD a->i=j)(t:ps.length=cs.length)
  (new:∀(i:Nat) (a:Tt) (c:Cell),ps[i]?=lD a->cs[i]?=lD c->COk (ow B (X++ps) (Z++cs)) K H' (X++ps) a c):StoOk B K H' (X++ps) (Z++cs):=by
 have ev:Vd X Z H (X++ps) (Z++cs) H':=Vd.aaS s e f;have n:∀b,H b≠Th->H' b≠Th:=λb h z=>h (e.free z);refine⟨by rw[Tz,Tz,s.len,t],λi j a g l=>?_,λa h=>n a (s.bn a h),λa h i q=>?_,λi a h=>?_,λi a d g l=>?_⟩
 .rcases io g with g1|⟨i',e1,g1⟩<;>rcases io l with g2|⟨j',e2,g2⟩
  .exact s.nd i j a g1 g2
  .exact a6 (f a (Ug g2)) (s.al i a g1)
  .exact a6 (f a (Ug g1)) (s.al j a g2)
  .have:=nd i' j' a g1 g2;omega
 .rcases io q with q|⟨j,_,q⟩
  .exact s.ba a h i q
  .exact s.bn a h (f a (Ug q))
 .rcases io h with h|⟨j,_,h⟩
  .exact n a (s.al i a h)
  .exact m a (Ug h)
 .have r:=s.len
  rcases io l with g2|⟨j,e2,g2⟩
  .rcases io g with g1|⟨k,e1,g1⟩
   .exact(s.ZU i a d g1 g2).ev ev.ev ev.pre λo q=>e _ _ q
   .have:=(Tn.mp g2).1;omega
  .rcases io g with g1|⟨k,e1,g1⟩
   .have:=(Tn.mp g1).1;omega
   .have:k=j:=by omega
    subst this;exact new k a d g1 g2
def EN(U:a9):Nat->bg AV->br (bg AV×bg (bg D)×bg Nat)
 |_,[]=>lD ([],[],[])
 |n,.fz d::r=>match EN U n r with
  |some (l,cs,js)=>lD (.fz d::l,cs,js)
  |none=>Th
 |n,.rf i::r=>match sh U (.rf i) with
  |some (.list ds)=>(match EN U (n+1) r with
   |some (l,cs,js)=>lD (.rf n::l,ds::cs,i::js)
   |none=>Th)
  |_=>Th
def Rx(ds:bg D):Cell:=.lst (ds.map .fz)
def jW(x:SV)(U Z:a9):RS SV:=match x with
 |.fz d=>.ok (.fz d) Z
 |.rf i=>(match sh U (.rf i) with
  |some (.list ds)=>my Z (.ow ds)
  |_=>.bad)
 |.tp l=>(match EN U Z.length l with
  |some (l',cs,js)=>if js.Nodup then .ok (.tp l') (Z++cs.map Rx) else .bad
  |none=>.bad)
theorem wL(h:sh Z (.rf i)=lD (.list ds)):∃xs,Z[i]?=lD (.lst xs)/\aL wk xs=lD ds:=by
 unfold sh at h;dsimp only at h;cases q:Z[i]? with
 |none=>rw[q]at h;cases h
 |some c=>
  rw[q]at h;cases c with
  |lst xs=>
   dsimp only at h;cases q2:aL wk xs with
   |none=>rw[q2]at h;cases h
   |some a=>rw[q2]at h;cases h;exact⟨xs,rfl,q2⟩
  |_=>cases h
theorem nG(s:StoOk B K H X Z)(h:sh Z (.rf i)=lD (.list ds)):∃a vs,X[i]?=lD a/\H a=lD (.lst vs)/\L3.Vl (ow B X Z) K H vs ds/\ow B X Z a:=by obtain⟨xs,b,f⟩:=wL h;obtain⟨a,ha⟩:=s.at b;obtain⟨vs,j,g⟩:=s.ZU i a _ ha b;exact⟨a,vs,ha,j,kH (dz (R:=Ws (ow B X Z) K H X) (λv x y r e=>Aj r e) g f),.inr ⟨i,_,ha,b,by intro z;cases z⟩⟩
theorem Fs{o:cg}(s:StoOk o K H' Y U):∀{n:Nat} {l u:bg AV} {cs:bg (bg D)} {g:bg Nat} {xs:bg V},EN U n l=lD (u,cs,g)->Paired (AOk (ow o Y U) K H' Y) xs l->
  ∃ps:bg Tt,ps.length=g.length/\cs.length=g.length/\(∀(k j:Nat),g[k]?=lD j->∃a ds vs,ps[k]?=lD a/\cs[k]?=lD ds/\Y[j]?=lD a/\H' a=lD (.lst vs)/\L3.Vl (ow o Y U) K H' vs ds/\ow o Y U a)/\
   ∀(b:bg Tt),b.length=n->Paired (AOk (ow o Y U) K H' (b++ps)) xs u
 |_,[],_,_,_,_,e,.nil=>by cases e;exact⟨[],rfl,rfl,λk j h=>by simp at h,λb _=>.nil⟩
 |n,.fz d::r,u,cs,g,_,e,.cons h t=>by
  unfold EN at e;cases q:EN U n r with
  |none=>rw[q]at e;cases e
  |some p=>obtain⟨J,G,w⟩:=p;rw[q]at e;cases e;obtain⟨ps,F,C,A,y⟩:=Fs s q t;exact⟨ps,F,C,A,λb f=>.cons h (y b f)⟩
 |n,.rf i::r,u,cs,g,_,e,.cons h t=>by
  unfold EN at e;cases qs:sh U (.rf i) with
  |none=>rw[qs]at e;cases e
  |some d=>
   rw[qs]at e;cases d with
   |list ds=>
    dsimp only at e;cases q:EN U (n+1) r with
    |none=>rw[q]at e;cases e
    |some p=>
     obtain⟨J,G,w⟩:=p;rw[q]at e;cases e;obtain⟨ps,F,C,A,y⟩:=Fs s q t;obtain⟨a,vs,ha,L,N,M⟩:=nG s qs;refine⟨a::ps,by rw[TR,TR,F],by rw[TR,TR,C],λk j I=>?_,λb f=>?_⟩
     .cases k with
      |zero=>cases I;exact⟨a,ds,vs,rfl,rfl,ha,L,N,M⟩
      |succ k=>exact A k j (by simpa using I)
     .have P:b++a::ps=(b++[a])++ps:=by simp
      obtain⟨Q,m,rfl⟩:=h;rw[ha]at m;cases m;refine .cons ⟨a,by rw[<-f];exact HD (l:=b) (r:=a::ps) (i:=0) rfl,rfl⟩ ?_;rw[P];exact y (b++[a]) (by rw[Tz,f];rfl)
   |_=>cases e
theorem pS(s:StoOk B K H X Z)(w:WS K E B H X Z (PQ B K Q) (jW x U Z))(e':Vd [] [] H Y U H')(G:StoOk (ow B X Z) K H' Y U)(J:Ws (ow (ow B X Z) Y U) K H' Y v x):Q v H':=by
 have C:=λb o h=>e'.kp b o h λ⟨i,c,q,_⟩=>by simp at q
 have sub:∀b,ow B X Z b->ow (ow B X Z) Y U b:=λb z=>.inl z;have fr:=λi a c R h2 h3=>(e'.lv a ⟨i,c,R,h2,h3⟩).elim (λ⟨i,c,q,_⟩=>by simp at q) id;cases x with
 |fz d=>exact w X H' (Vd.same C) (s.grow C) v (DV.ev (Ev.sub sub) J)
 |rf i=>
  unfold jW at w;dsimp only at w;cases qs:sh U (.rf i) with
  |none=>rw[qs]at w;exact w.elim
  |some d=>
   rw[qs]at w;cases d with
   |list ds=>obtain⟨a,vs,ha,R,hd,M⟩:=nG G qs;obtain⟨xs,e,_⟩:=wL qs;obtain⟨a',F,rfl⟩:=J;rw[ha]at F;cases F;exact uw s w C (fr i a _ ha e (by intro z;cases z)) R hd sub M
   |_=>exact w.elim
 |tp l=>
  unfold jW at w;dsimp only at w;cases qg:EN U Z.length l with
  |none=>rw[qg]at w;exact w.elim
  |some p=>
   obtain⟨l',cs,I⟩:=p;rw[qg]at w;dsimp only at w;by_cases hn:I.Nodup
   .rw[av hn]at w
    obtain⟨a,xs,rfl,ht,hl⟩:=J;obtain⟨ps,g1,g2,g3,g4⟩:=Fs G qg hl;have A:∀(k:Nat) (b:Tt),ps[k]?=lD b->∃j ds vs,I[k]?=lD j/\cs[k]?=lD ds/\Y[j]?=lD b/\H' b=lD (.lst vs)/\L3.Vl (ow (ow B X Z) Y U) K H' vs ds/\ow (ow B X Z) Y U b:=λk b hb=>by
     have f:k<I.length:=by rw[<-g1];exact(Tn.mp hb).1
     obtain⟨b',ds,vs,e,y,u,m,t,g⟩:=g3 k _ (TK f);rw[hb]at e;cases e;exact⟨_,ds,vs,TK f,y,u,m,t,g⟩
    have nB:∀(j:Nat) (b:Tt),Y[j]?=lD b->ow (ow B X Z) Y U b->H b=Th:=λj b N M=>by
     rcases M with z|⟨i,c,z1,z2,z3⟩
     .exact a6 N (G.ba b z j)
     .exact fr i b c z1 z2 z3
    have fp:∀p∈ps,H p=Th:=λp L=>by obtain⟨k,f⟩:=UH.mp L;obtain⟨j,ds,vs,e,y,u,m,t,g⟩:=A k p f;exact nB j p u g
    have n:∀b,ow B (X++ps) (Z++cs.map Rx) b->ow (ow B X Z) Y U b:=λb z=>by
     rcases z with z|z
     .exact .inl (.inl z)
     .rcases HL s.len z with z|z
      .exact .inl (.inr z)
      .obtain⟨k,f⟩:=UH.mp z;obtain⟨j,ds,vs,e,y,u,m,t,g⟩:=A k b f;exact g
    have ev:=Vd.aaS (cs:=cs.map Rx) s C fp;refine w (X++ps) H' ev (s.aaS C fp (λp L=>?_) (λi j b hi N=>?_) (by rw[Tj,g1,g2]) λi b c hi hc=>?_) (.ref a) ⟨a,xs,rfl,ht.ev (Ev.sub n),Paired.Xg (g4 X s.len) λ_ _ r=>r.ev (Ev.sub n) λ_ _ h=>h⟩
    .obtain⟨k,f⟩:=UH.mp L;obtain⟨j,ds,vs,e,y,u,m,t,g⟩:=A k p f;rw[m];simp
    .obtain⟨j1,_,_,S,_,p3,_⟩:=A i b hi;obtain⟨j2,_,_,r1,_,r3,_⟩:=A j b N;have:=G.nd j1 j2 b p3 r3;subst this;have P:=(Tn.mp S).1;exact(ZA P hn).mp (S.trans r1.symm)
    .obtain⟨j,ds,vs,e,y,u,m,t,g⟩:=A i b hi;rw[TH,y]at hc;cases hc;exact⟨vs,m,kW _ _ (t.ev (Ev.sub n))⟩
   .rw[ax hn]at w;exact w.elim
def k6(F:jr)(n:Nat)(xs:bg SV)(Z:a9):RS SV:=if xs.length=n then(match aL wk xs with
 |some ds=>(match F (ds.map .fz) [] with
  |.ok x U=>jW x U Z
  |.er x _=>.er x Z
  |.bad=>.bad)
 |none=>.bad) else .bad
def vp(F:jr)(n:Nat)(fa:z4):cT:=λρ Z=>(fa ρ Z).bind λxs Z1=>jv (k6 F n xs Z1)
theorem FM(h:∀a,B a->H a≠Th):StoOk B K H [] []:=⟨rfl,λi j a h=>by simp at h,h,λa h i=>by simp,λi a h=>by simp at h,λi a c h=>by simp at h⟩
theorem xP:∀{xs:bg SV} {ds:bg D},aL wk xs=lD ds->xs=ds.map .fz
 |[],_,e=>by cases e;rfl
 |x::r,ds,e=>by
  unfold aL at e;cases x with
  |fz d=>
   dsimp only[wk]at e;cases q:aL wk r with
   |none=>rw[q]at e;cases e
   |some a=>rw[q]at e;cases e;rw[TX,<-xP q]
  |rf i=>cases e
  |tp l=>cases e
theorem zi(s:StoOk B K H X Z)(e:VZ (ow B X Z) K H X vs xs)(w:WS K E B H X Z (PQ B K Q) (k6 F n xs Z)):dR K n F vs H Q E:=by
 unfold k6 at w;by_cases hn:xs.length=n
 .rw[av hn]at w
  refine⟨e.length.trans hn,?_⟩;cases q:aL wk xs with
  |none=>rw[q]at w;exact w.elim
  |some ds=>
   rw[q]at w;dsimp only at w;have l:=xP q;refine⟨ow B X Z,[],[],ds.map .fz,FM s.owd,?_,?_⟩
   .rw[l]at e;exact kW _ _ ((A1 e).ev (Ev.sub λb z=>z.elim id λ⟨i,c,q,_⟩=>by simp at q))
   .cases qF:F (ds.map .fz) [] with
    |bad=>rw[qF]at w;exact w.elim
    |ok x U=>rw[qF]at w;exact λY H' f j v a=>pS s w f j a
    |er x U=>
     rw[qF]at w;intro c dx Y H' f j k;have g:=λb o h=>f.kp b o h λ⟨i,c,q,_⟩=>by simp at q
     exact w c dx X H' (Vd.same g) (s.grow g) (XOk.sub (λb z=>.inl z) k)
 .rw[ax hn]at w;exact w.elim
theorem vF(ha:x8 K E ta fa):cG K E (kg (dR K n F) [] E0 ta) (vp F n fa):=by intro B σ H X Z ρ Q s b w;refine ha B σ H X Z ρ _ s b (w.bind.imp λxs T Z1 H1 g e a vs f=>?_);rw[Uo];exact zi e f (WS.e0 a)
def Rg(F:jr):FN:=λds=>match F (ds.map .fz) [] with
 |.ok (.fz d) _=>.ok (.fz d)
 |.ok (.rf i) Z=>(match sh Z (.rf i) with
  |some (.list ds)=>.ok (.ow ds)
  |_=>.bad)
 |.ok (.tp _) _=>.bad
 |.er x _=>.er x
 |.bad=>.bad
theorem Oy(h:qC K n (Rg F) vs H Q E):dR K n F vs H Q E:=by
 obtain⟨u,B,ds,A,G,w⟩:=h;refine⟨u,B,[],[],ds.map .fz,FM A,kW _ _ (G.ev (Ev.sub λb z=>z.elim id λ⟨i,c,q,_⟩=>by simp at q)),?_⟩;unfold Rg at w;cases qF:F (ds.map .fz) [] with
 |bad=>rw[qF]at w;exact w.elim
 |er x U=>rw[qF]at w;intro c dx Y H' f j k;exact w c dx H' (λb o h=>f.kp b o h λ⟨i,c,q,_⟩=>by simp at q) (XOk.sub (λb z=>.inl z) k)
 |ok x U=>
  rw[qF]at w;intro Y H' f j v m;have g:=λb o h=>f.kp b o h λ⟨i,c,q,_⟩=>by simp at q
  cases x with
  |fz d=>exact w v H' g (DV.ev (Ev.sub λb z=>.inl z) m)
  |tp l=>exact w.elim
  |rf i=>
   dsimp only at w;cases qs:sh U (.rf i) with
   |none=>rw[qs]at w;exact w.elim
   |some d=>
    rw[qs]at w;cases d with
    |list I=>obtain⟨a,p,ha,C,y,t⟩:=nG j qs;obtain⟨xs,r,_⟩:=wL qs;obtain⟨J,e,rfl⟩:=m;rw[ha]at e;cases e;refine w a p H' g ((f.lv a ⟨i,_,ha,r,by intro z;cases z⟩).elim (λ⟨i,c,q,_⟩=>by simp at q) id) C (y.ev (Ev.sub λb z=>z.elim (λz=>.inl z) λz=>by rw[z];exact t))
    |_=>exact w.elim
end
def ci(P:T5)(w:Uu)(K:Tg)(mg:Str->br Ti)(base:Heap)(a:xC)(k:Nat)(C m:Str)(ps:bg Str)(sp:Sp):Prop:=
 ∃Ca f fd,T7 K TZ C=lD (lD (.ref Ca))/\Cls K Ca/\Meth K Ca m f/\FnOk P w K mg base a k f fd ps sp/\Binds K fd ps []
def zX(P:T5)(w:Uu)(K:Tg)(mg:Str->br Ti)(base:Heap)(a:xC)(k:Nat)(C:Str)(ps:bg Str)(sp:Sp):Prop:=
 ∃Ca f fd,T7 K TZ C=lD (lD (.ref Ca))/\mg C=lD (.ref Ca)/\Mk K Ca f/\FnOk P w K mg base a k f fd ps sp/\Binds K fd ps []
def xn(K:Tg)(C m:Str)(sp:Sp)(E:XK)(b:TE)(t:TA):TE:=λa H Q=>∃Ca,T7 K TZ C=lD (lD (.ref Ca))/\vT Ca m sp [] E b t a H Q
def Bj(K:Tg)(C:Str)(sp:Sp)(E:XK)(t:TA):TE:=λa H Q=>∃Ca,T7 K TZ C=lD (lD (.ref Ca))/\zB Ca sp [] E t a H Q
section
variable{X:Cx}{Y:xC}{E:XK}{k j:Nat}{C m:Str}{ps:bg Str}{sp:Sp}{o e:UD}{es:bg UD}{U:TE}{t:TA}{Z pos p:Pos}
theorem IE(M:ci X.prog X.w X.K X.mg X.base Y k C m ps sp)(l:gz Y X E)(q:VU j X.A)(r:PE X o U)(ha:PA X (e::es) t)(b:k<=j:=by decide)
  (dX:Uc (e::es) X.env=(Tw,eval e X.env)::Uc es X.env:=by rfl) (G:(backTo pos (Uc es X.env)).any (·.1)=Tw:=by rfl)
  (n:eval (.Call (.Attribute o m Z) (e::es) [] pos) X.env=(do
   let ov<-eval o X.env
   standAt Z.atName
   let(f,first)<-holding [ov] (getMethod ov m pl)
   callWith pos f first (backTo pos (Uc (e::es) X.env)) (backToKw pos (keywordEach [] X.env))):=by rfl):PE X (.Call (.Attribute o m Z) (e::es) [] pos) (xn X.K C m sp E U t):=by
 obtain⟨Ca,f,J,F,B,y,v,u⟩:=M;intro a s i H Q I ⟨L,g,h⟩;rw[F]at g;cases g;exact Jr r B y v (q.mono b) u .nil l ha dX G n a s i H Q I h
theorem HG(M:ci X.prog X.w X.K X.mg X.base Y k C m ps sp)(l:gz Y X E)(q:VU j X.A)(r:PE X o U)(b:k<=j:=by decide)
  (n:eval (.Call (.Attribute o m Z) [] [] pos) X.env=(do
   let ov<-eval o X.env
   standAt Z.atName
   let(f,first)<-holding [ov] (getMethod ov m pl)
   callWith pos f first (backTo pos (Uc [] X.env)) (backToKw pos (keywordEach [] X.env))):=by rfl):PE X (.Call (.Attribute o m Z) [] [] pos) (xn X.K C m sp E U jK):=by
 obtain⟨Ca,f,G,F,B,y,v,u⟩:=M;intro a s i H Q I ⟨J,g,h⟩;rw[F]at g;cases g;exact Fx r B y v (q.mono b) u .nil l n a s i H Q I h
theorem MC(M:zX X.prog X.w X.K X.mg X.base Y k C ps sp)(n:gz Y X E)(q:VU j X.A)(ha:PA X (e::es) t)(b:k+1<=j:=by decide)(r:Gl X C:=by rfl)
  (g:(C==("__debug__":Str))=Tw:=by decide) (u:Uc (e::es) X.env=(Tw,eval e X.env)::Uc es X.env:=by rfl) (J:(backTo pos (Uc es X.env)).any (·.1)=Tw:=by rfl):
  PE X (.Call (.Name C p) (e::es) [] pos) (Bj X.K C sp E t):=by
 obtain⟨Ca,f,L,G,F,B,y,v⟩:=M;intro a s l H Q I ⟨N,i,h⟩;rw[G]at i;cases i;exact Ma B y (q.mono b) r F v .nil n ha g u J a s l H Q I h
end
section
variable{K:Tg}{E:XK}{C m:Str}{F:jr}{n:Nat}{to:TE}{Y:TA}{fo:cT}{fa:z4}{L:bg Str}
theorem Gm(a:gS K C L)(f:cG K E to fo)(ha:x8 K E Y fa):cG K E (xn K C m (dR K n F) E to Y) (uj C m F n fo fa):=by obtain⟨Ca,a,_⟩:=a;exact λB b H α Z ρ Q s e w=>⟨Ca,a,Ih a f ha B b H α Z ρ Q s e w⟩
theorem Cw(a:gS K C L)(f:cG K E to fo)(ha:x8 K E Y fa):cG K E (xn K C m (dR K n F) E0 to Y) (bc C m F n fo fa):=by obtain⟨Ca,a,_⟩:=a;exact λB b H α Z ρ Q s e w=>⟨Ca,a,D8 a f ha B b H α Z ρ Q s e w⟩
theorem O8(a:gS K C L)(ha:x8 K E Y fa):cG K E (Bj K C (dR K n F) E Y) (HI C F n fa):=by obtain⟨Ca,a,_⟩:=a;exact λB b H α Z ρ Q s e w=>⟨Ca,a,LQ a ha B b H α Z ρ Q s e w⟩
theorem JJ(a:gS K C L)(ha:x8 K E Y fa):cG K E (Bj K C (dR K n F) E0 Y) (uV C F n fa):=by obtain⟨Ca,a,_⟩:=a;exact λB b H α Z ρ Q s e w=>⟨Ca,a,IG a ha B b H α Z ρ Q s e w⟩
end
section
variable{ρ ρ1 ρ2:bu}{Z Z1 Y Z3 Z4:a9}{x y z:SV}{i n:Nat}{d dx X:D}{ds:bg D}{b:Bool}
theorem bh(h:ρ[i]?=lD (lD x)):ay i ρ Z=.ok x Z:=by unfold ay;rw[h]
theorem ag(h:f (cD ρ)=.ok (.fz d,ρ')):ae f ρ Z=.ok (.fz d) Z:=by unfold ae;rw[h]
theorem gQ(h:f (cD ρ)=.ok (.ow ds,ρ')):ae f ρ Z=.ok (.rf Z.length) (Z++[.lst (ds.map .fz)]):=by unfold ae;rw[h];rfl
theorem bz(h:f (cD ρ)=.ok (b,ρ')):bT f ρ Z=.ok b Z:=by unfold bT;rw[h]
theorem sS(h:f (cD ρ)=.ok (ds,ρ')):qp f ρ Z=.ok ds Z:=by unfold qp;rw[h]
theorem jf(g:e ρ Z=.ok (.rf i) Z1)(h:Z1[i]?=lD (.obj C fs))(a:fs.lookup f=lD x):bx C f e ρ Z=.ok x Z1:=by unfold bx;rw[g,d0];dsimp only;rw[h];dsimp only;rw[av rfl,a];rfl
theorem cJ(ha:fa ρ Z=.ok x Z1)(e:fb ρ Z1=.ok y Y)(a:ub f x y Y=.ok z Z3):kA f fa fb ρ Z=.ok z Z3:=by unfold kA;rw[ha,d0,e,d0,a]
theorem bW(h:f dx X=lD (.fz d)):ub f (.fz dx) (.fz X) Z=.ok (.fz d) Z:=by unfold ub;show((RS.UB Z (f dx X)).bind λrv Z1=>my Z1 rv)=_;rw[h];rfl
theorem Am(e:sh Z x=lD dx)(a:sh Z y=lD X)(h:f dx X=lD (.fz d)):ub f x y Z=.ok (.fz d) Z:=by unfold ub;rw[e,a];show((RS.UB Z (f dx X)).bind λrv Z1=>my Z1 rv)=_;rw[h];rfl
theorem lV:∀ds:bg D,aL wk (ds.map .fz)=lD ds
 |[]=>rfl
 |d::r=>by rw[TX];unfold aL;rw[lV r];rfl
theorem iG(h:Z[i]?=lD (.lst (ds.map .fz))):sh Z (.rf i)=lD (.list ds):=by unfold sh;dsimp only;rw[h];dsimp only;rw[lV];rfl
theorem aV(h:fa ρ Z=.ok (.fz (.bool b)) Z1):bM fa ρ Z=.ok b Z1:=by unfold bM;rw[h];rfl
theorem jE(h:fa ρ Z=.ok To Z1)(k:fb ρ Z1=r):n9 fa fb ρ Z=r:=by unfold n9;rw[h,d0,av rfl,k]
theorem iq(h:fa ρ Z=.ok Tw Z1):n9 fa fb ρ Z=.ok Tw Z1:=by unfold n9;rw[h,d0,ax TV]
theorem ut(h:fa ρ Z=.ok To Z1):zh fa fb ρ Z=.ok To Z1:=by unfold zh;rw[h,d0,av rfl]
theorem fu(h:fa ρ Z=.ok Tw Z1)(k:fb ρ Z1=r):zh fa fb ρ Z=r:=by unfold zh;rw[h,d0,ax TV,k]
theorem on(h:fa ρ Z=.ok b Z1):uP fa ρ Z=.ok (!b) Z1:=by unfold uP;rw[h];rfl
theorem vJ(h:bM fa ρ Z=.ok To Z1)(k:fb ρ Z1=r):Bo fa fb ρ Z=r:=by unfold Bo;rw[h,d0,av rfl,k]
theorem Ef(h:bM fa ρ Z=.ok Tw Z1):Bo fa fb ρ Z=.ok (.fz (.bool Tw)) Z1:=by unfold Bo;rw[h,d0,ax TV]
theorem Co(h:c ρ Z=.ok To Z1)(k:fa ρ Z1=r):Jg c fa fb ρ Z=r:=by unfold Jg;rw[h,d0,av rfl,k]
theorem Cu(h:c ρ Z=.ok Tw Z1)(k:fb ρ Z1=r):Jg c fa fb ρ Z=r:=by unfold Jg;rw[h,d0,ax TV,k]
theorem aU:aX ρ Z=.ok [] Z:=rfl
theorem ar(ha:fa ρ Z=.ok x Z1)(a:fr ρ Z1=.ok xs Y):ao fa fr ρ Z=.ok (x::xs) Y:=by unfold ao;rw[ha,d0,a,d0]
theorem xG(ha:fa ρ Z=.ok (ds.map .fz) Z1)(a:ds.length<=1000):ph fa ρ Z=.ok (.fz (.tuple ds)) Z1:=by unfold ph;rw[ha,d0,Tj,av a];unfold RM;rw[lV];rfl
theorem Re(ha:fa ρ Z=.ok xs Z1)(a:xs.length<=1000)(f:aL wk xs=Th)(e:aL Rr xs=lD l):ph fa ρ Z=.ok (.tp l) Z1:=by unfold ph;rw[ha,d0,av a];unfold RM;rw[f];dsimp only;rw[e];rfl
theorem CH(ha:fa ρ Z=.ok xs Z1)(a:aL (sh Z1) xs=lD ds)(h:f ds=lD (.fz d)):Dx f fa ρ Z=.ok (.fz d) Z1:=by unfold Dx;rw[ha,d0];unfold OZ;rw[a];show((RS.UB Z1 (f ds)).bind λrv Z1=>my Z1 rv)=_;rw[h];rfl
theorem xk(ha:fa ρ Z=.ok (ds.map .fz) Z1)(hn:ds.length=n)(a:F ds=.ok (.fz d)):jo F n fa ρ Z=.ok (.fz d) Z1:=by unfold jo;rw[ha,d0];unfold yr;rw[Tj,av hn,lV];dsimp only;rw[a];rfl
theorem xq(ha:fa ρ Z=.ok (ds.map .fz) Z1)(hn:ds.length=n)(a:F ds=.ok (.ow es)):jo F n fa ρ Z=.ok (.rf Z1.length) (Z1++[.lst (es.map .fz)]):=by unfold jo;rw[ha,d0];unfold yr;rw[Tj,av hn,lV];dsimp only;rw[a];rfl
theorem za:jv (RS.ok a Z)=.ok a Z:=rfl
theorem JL(e:fo ρ Z=.ok (.rf i) Z1)(f:Z1[i]?=lD (.obj C fs))(hm:fs.lookup m=Th)(ha:fa ρ Z1=.ok xs Y)(hn:(SV.rf i::xs).length=n)(g:F (.rf i::xs) Y=.ok x Z3):bc C m F n fo fa ρ Z=.ok x Z3:=by
 have a:mn Z1 C m (.rf i)=To:=by unfold mn;dsimp only;rw[f];dsimp only;rw[hm,aP rfl];rfl
 unfold bc;rw[e,d0,av a,ha,d0,av hn,g];rfl
theorem OQ(ha:fa ρ Z=.ok xs Z1)(hn:(SV.rf Z1.length::xs).length=n)(a:F (.rf Z1.length::xs) (Z1++[.obj C []])=.ok (.fz .none) Y):uV C F n fa ρ Z=.ok (.rf Z1.length) Y:=by unfold uV;rw[ha,d0];unfold uS;rw[av hn,a,d0,av (show EF (.fz .none)=To from rfl)];rfl
theorem dj(ha:fa ρ Z=.ok (.fz dx) Z1)(a:fb ρ Z1=.ok (.fz X) Y)(h:bJ dx X=lD (.fz d)):ke fa fb ρ Z=.ok (.fz d) Y:=by unfold ke;rw[ha,d0,a,d0];exact bW h
theorem tT(a:fo ρ Z=.ok (.rf i) Z1)(h:Z1[i]?=lD (.lst xs))(f:fe ρ Z1=.ok x Y)(g:Y[i]?=lD (.lst ys))(e:ys.length<1000000):pX fo fe ρ Z=.ok (.fz .none) (Y.set i (.lst (ys++[x]))):=by
 have l:kE Z1 (.rf i)=lD (i,xs):=by unfold kE;dsimp only;rw[h]
 have j:kE Y (.rf i)=lD (i,ys):=by unfold kE;dsimp only;rw[g]
 unfold pX;rw[a,d0,l];show((fe ρ Z1).bind _)=_;rw[f,d0,j];show(if ys.length<1000000 then _ else _)=_;rw[av e]
theorem mK(h:Z[i]?=lD (.Y4 Ub)):iu Z (.rf i)=lD (i,Ub):=by unfold iu;dsimp only;rw[h]
theorem Bw(a:fk ρ Z=.ok x Z1)(hd:fd ρ Z1=.ok (.rf i) Y)(f:uE x=lD k)(e:Y[i]?=lD (.Y4 Ub)):ym neg fk fd ρ Z=.ok (.fz (.bool ((j4 Ub k).isSome !=neg))) Y:=by unfold ym;rw[a,d0,hd,d0,f];show((RS.UB Y (iu Y (.rf i))).bind _)=_;rw[mK e];rfl
theorem JE(hd:fd ρ Z=.ok (.rf i) Z1)(a:fk ρ Z1=.ok x Y)(g:uE x=lD k)(f:Y[i]?=lD (.Y4 Ub))(e:j4 Ub k=lD y):vC fd fk ρ Z=.ok y Y:=by unfold vC;rw[hd,d0,a,d0,g];show((RS.UB Y (iu Y (.rf i))).bind _)=_;rw[mK f];show RS.UB Y (j4 Ub k)=_;rw[e];rfl
theorem L8(a:fv ρ Z=.ok y Z1)(hd:fd ρ Z1=.ok (.rf i) Y)(f:fk ρ Y=.ok x Z3)(h:uE x=lD k)(g:Z3[i]?=lD (.Y4 Ub))(e:Ub.length<1000000):zq fd fk fv ρ Z=.ok (.nx ρ) (Z3.set i (.Y4 (ko Ub k y))):=by unfold zq;rw[a,d0,hd,d0,f,d0,h];show((RS.UB Z3 (iu Z3 (.rf i))).bind _)=_;rw[mK g];show(if Ub.length<1000000 then _ else _)=_;rw[av e]
theorem Kw(hd:fd ρ Z=.ok (.rf i) Z1)(h:Z1[i]?=lD (.Y4 afe))(a:fk ρ Z1=.ok x Y)(g:uE x=lD k)(f:Y[i]?=lD (.Y4 Ub))(e:j4 Ub k=lD y):yU fd fk ρ Z=.ok y (Y.set i (.Y4 (nA Ub k))):=by unfold yU;rw[hd,d0,mK h];show((fk ρ Z1).bind _)=_;rw[a,d0,g];show((RS.UB Y (iu Y (.rf i))).bind _)=_;rw[mK f];show((RS.UB Y (j4 Ub k)).bind _)=_;rw[e];rfl
theorem LL(hd:fd ρ Z=.ok (.rf i) Z1)(h:Z1[i]?=lD (.Y4 Ub)):Dm fd ρ Z=.ok (.rf Z1.length) (Z1++[.lst (Ub.map (·.2))]):=by unfold Dm;rw[hd,d0,mK h];rfl
theorem K3(hd:fd ρ Z=.ok (.rf i) Z1)(h:Z1[i]?=lD (.Y4 Ub))(e:aL Ar (Ub.map (·.1))=lD ns)(a:ns.length<64):vV fd ρ Z=.ok (.rf Z1.length) (Z1++[.lst ((lG ns).map λi=>SV.fz (.int i))]):=by unfold vV;rw[hd,d0,mK h];show((RS.UB Z1 (aL Ar (Ub.map (·.1)))).bind _)=_;rw[e];show(if ns.length<64 then _ else _)=_;rw[av a]
theorem KM(a:fe ρ Z=.ok x Z1)(h:wC x=lD ps):zn fe ρ Z=.ok (.rf Z1.length) (Z1++[.Y4 (nu [] ps)]):=by unfold zn;rw[a,d0,h];rfl
variable{fl:FlS}{r:RS FlS}
theorem de(h:f ρ Z=.ok (.nx ρ1) Z1)(k:g ρ1 Z1=r):aO f g ρ Z=r:=by unfold aO;rw[h,d0];exact k
theorem pE(h:f ρ Z=.ok (.rt x) Z1):aO f g ρ Z=.ok (.rt x) Z1:=by unfold aO;rw[h];rfl
theorem dW(h:c ρ Z=.ok To Z1)(k:f ρ Z1=r):cA c f g ρ Z=r:=by unfold cA;rw[h,d0,av rfl,k]
theorem fE(h:c ρ Z=.ok Tw Z1)(k:g ρ Z1=r):cA c f g ρ Z=r:=by unfold cA;rw[h,d0,ax TV,k]
theorem jh(h:f ρ Z=.ok x Z1):hJ f ρ Z=.ok (.rt x) Z1:=by unfold hJ;rw[h];rfl
theorem ia(h:f ρ Z=.ok x Z1):bV f ρ Z=.ok (.nx ρ) Z1:=by unfold bV;rw[h];rfl
theorem v8(h:f ρ Z=.ok x Z1)(e:ρ.set i (lD x)=ρ1):cO f (fK i) ρ Z=.ok (.nx ρ1) Z1:=by subst e;unfold cO;rw[h];rfl
theorem fH:cC ρ Z=.ok (.nx ρ) Z:=rfl
theorem p9(h:fe ρ Z=.ok x Z1)(a:fo ρ Z1=.ok (.rf i) Y)(j:Y[i]?=lD (.obj C fs))(g:fs.length<100):gc C f fo fe ρ Z=.ok (.nx ρ) (Y.set i (.obj C (eZ f x fs))):=by
 have e:FJ Y C (.rf i)=lD (i,fs):=by unfold FJ;dsimp only;rw[j];dsimp only;rw[av rfl]
 unfold gc;rw[h,d0,a,d0,e];show(if fs.length<100 then _ else _)=_;rw[av g]
theorem xg(h:f ρ Z=.ok x Z1)(k:frz 4 Z1 x=lD (d,Y)):uG f ρ Z=.ok (.fz d) Y:=by unfold uG;rw[h,d0];unfold Oo;rw[k]
theorem j8(e:xs.map lD++TJ (N - xs.length) Th=ρ)(h:g ρ Z=.ok (.rt x) Z1):dg N g xs Z=.ok x Z1:=by subst e;unfold dg;rw[h];rfl
theorem oV(e:xs.map lD++TJ (N - xs.length) Th=ρ)(h:g ρ Z=.ok (.nx ρ1) Z1):dg N g xs Z=.ok (.fz .none) Z1:=by subst e;unfold dg;rw[h];rfl
end
section
variable{ρ ρ1 ρ2:bu}{Z Z1 Y Z3 Z4:a9}{x y z:SV}{i n:Nat}{d dx dy:D}{ds:bg D}{b:Bool}
theorem pN(e:α->D)(f:α->SV)(Z:a9)(I:bu->Prop):∀(xs:bg α) (ρ:bu) (a:bg SV),I ρ->a.length+xs.length<=1000000->(∀x∈xs,∀ρ,I ρ->∃ρ',gt (.fz (e x)) ρ Z=.ok ρ' Z/\ft ρ' Z=.ok To Z/\fe ρ' Z=.ok (f x) Z/\I ρ')->eK gt ft fe (xs.map e) ρ Z a=.ok (a++xs.map f) Z
 |[],ρ,a,_,_,_=>by show RS.ok a Z=_;rw[Xx,Uo]
 |x::r,ρ,a,h0,hl,hs=>by obtain⟨ρ',m,l,j,h⟩:=hs x Ts ρ h0;rw[TR]at hl;show((gt (.fz (e x)) ρ Z).bind _)=_;rw[m,d0,l,d0,av rfl,j,d0,av (by omega),pN e f Z I r ρ' _ h (by rw[Tz,Xb];omega) λy g=>hs y (Tx _ g),Ux];rfl
theorem BQ(hi:fi ρ Z=.ok ds Z1)(a:eK gt ft fe ds (qL n fj ρ) Z1 []=.ok xs Y):ui n fj fi gt ft fe ρ Z=.ok (.rf Y.length) (Y++[.lst xs]):=by unfold ui;rw[hi,d0,a,za,d0]
theorem xB(m:Nat):∀(ds:bg D),rj (frz m) Z (ds.map .fz)=lD (ds,Z)
 |[]=>rfl
 |d::r=>by rw[TX];unfold rj;rw[show frz m Z (.fz d)=lD (d,Z) by cases m<;>rfl];dsimp only;rw[xB m r]
theorem rT(h:Z[i]?=lD (.lst (ds.map .fz))):frz 4 Z (.rf i)=lD (.list ds,Z.set i .dead):=by unfold frz;rw[h];dsimp only;rw[xB]
theorem xN(h:fe ρ Z=.ok (.rf i) Z1)(a:Z1[i]?=lD (.lst (ds.map .fz))):iB fe ρ Z=.ok ds (Z1.set i .dead):=by unfold iB;rw[h,d0,rT a];rfl
def Sx(N C:bu->a9->Prop)(T:SV->a9->Prop):RS FlS->Prop
 |.ok (.nx ρ) Z=>N ρ Z
 |.ok (.ct ρ) Z=>C ρ Z
 |.ok (.rt v) Z=>T v Z
 |_=>False
structure Xy(r:RS FlS)(N C:bu->a9->Prop)(T:SV->a9->Prop):Prop where
 out:Sx N C T r
variable{f g:eV}{fe:cT}{N C:bu->a9->Prop}{T:SV->a9->Prop}
theorem Xy.eq(e:r=r')(h:Xy r' N C T):Xy r N C T:=by rw[e];exact h
theorem tf(h:Xy (f ρ Z) (λr o=>Xy (g r o) N C T) C T):Xy (aO f g ρ Z) N C T:=by
 refine⟨?_⟩;have h:=h.out;unfold aO;cases q:f ρ Z with
 |bad=>rw[q]at h;exact h.elim
 |er x o=>rw[q]at h;exact h.elim
 |ok a o=>
  rw[q]at h;cases a with
  |nx r=>exact(show Xy (g r o) N C T from h).out
  |ct r=>exact h
  |rt v=>exact h
  |bk r=>exact h.elim
theorem yu(h:c ρ Z=.ok b Z1)(a:b=To->Xy (f ρ Z1) N C T)(e:b=Tw->Xy (g ρ Z1) N C T):Xy (cA c f g ρ Z) N C T:=by
 unfold cA;rw[h,d0];cases b with
 |true=>exact a rfl
 |false=>exact e rfl
theorem tG(e:c ρ Z=.ok To Z1)(a:Xy (f ρ Z1) N C T):Xy (cA c f g ρ Z) N C T:=yu e (λ_=>a) λh=>by cases h
theorem eB(e:c ρ Z=.ok Tw Z1)(a:Xy (g ρ Z1) N C T):Xy (cA c f g ρ Z) N C T:=yu e (λh=>by cases h) λ_=>a
theorem OG(e:fe ρ Z=.ok x Z1)(a:gt x ρ Z1=.ok ρ1 Y)(h:N ρ1 Y):Xy (cO fe gt ρ Z) N C T:=by refine⟨?_⟩;unfold cO;rw[e,d0,a,d0];exact h
theorem oG(a:f ρ Z=.ok (.nx ρ1) Z1)(h:N ρ1 Z1):Xy (f ρ Z) N C T:=⟨by rw[a];exact h⟩
theorem Qn(a:f ρ Z=.ok (.rt x) Z1)(h:T x Z1):Xy (f ρ Z) N C T:=⟨by rw[a];exact h⟩
theorem i6(a:fe ρ Z=.ok x Z1)(h:N ρ Z1):Xy (bV fe ρ Z) N C T:=oG (ia a) h
theorem PR(a:fe ρ Z=.ok x Z1)(h:T x Z1):Xy (hJ fe ρ Z) N C T:=Qn (jh a) h
theorem KP(h:T (.fz .none) Z):Xy (vB ρ Z) N C T:=⟨h⟩
theorem lR(h:N ρ Z):Xy (cC ρ Z) N C T:=⟨h⟩
theorem jN{gt:AH}(e:fe ρ Z=.ok x Z1)(a:gt x ρ Z1=.ok ρ1 Y)(h:Xy (g ρ1 Y) N C T):Xy (aO (cO fe gt) g ρ Z) N C T:=tf (OG e a h)
theorem BC(a:f ρ Z=.ok (.nx ρ1) Z1)(h:Xy (g ρ1 Z1) N C T):Xy (aO f g ρ Z) N C T:=tf (oG a h)
theorem lK(a:fe ρ Z=.ok x Z1)(h:Xy (g ρ Z1) N C T):Xy (aO (bV fe) g ρ Z) N C T:=tf (i6 a h)
theorem zA{h a:eV}(m:c ρ Z=.ok b Z1)(j:b=To->Xy (aO h g ρ Z1) N C T)(l:b=Tw->Xy (aO a g ρ Z1) N C T):Xy (aO (cA c h a) g ρ Z) N C T:=by
 have e:aO (cA c h a) g ρ Z=if b=To then aO h g ρ Z1 else aO a g ρ Z1:=by unfold aO cA;rw[m,d0];cases b<;>rfl
 refine .eq e ?_;cases b with
 |true=>exact j rfl
 |false=>exact l rfl
theorem wm{a l:eV}(j:c ρ Z=.ok To Z1)(e:Xy (aO a g ρ Z1) N C T):Xy (aO (cA c a l) g ρ Z) N C T:=zA j (λ_=>e) λh=>by cases h
theorem tZ{l a:eV}(j:c ρ Z=.ok Tw Z1)(e:Xy (aO a g ρ Z1) N C T):Xy (aO (cA c l a) g ρ Z) N C T:=zA j (λh=>by cases h) λ_=>e
theorem vX(h:T (.fz .none) Z):Xy (aO vB g ρ Z) N C T:=tf (KP h)
theorem oW(h:Xy (g ρ Z) N C T):Xy (aO cC g ρ Z) N C T:=tf (lR h)
theorem Pw{a e:eV}(h:Xy (aO a (aO e g) ρ Z) N C T):Xy (aO (aO a e) g ρ Z) N C T:=by
 refine .eq ?_ h;unfold aO;cases a ρ Z with
 |bad=>rfl
 |er x o=>rfl
 |ok j o=>cases j<;>rfl
theorem Pk(a:xs.map lD++TJ (n - xs.length) Th=ρ)(h:Xy (g ρ Z) (λ_ Z'=>T (.fz .none) Z') (λ_ _=>False) T):∃x Z',dg n g xs Z=.ok x Z'/\T x Z':=by
 have h:=h.out;unfold dg;rw[a];cases q:g ρ Z with
 |bad=>rw[q]at h;exact h.elim
 |er x o=>rw[q]at h;exact h.elim
 |ok e o=>
  rw[q]at h;cases e with
  |nx r=>exact⟨_,_,rfl,h⟩
  |ct r=>exact h.elim
  |rt v=>exact⟨_,_,rfl,h⟩
  |bk r=>exact h.elim
theorem jc{W:a9->Prop}(a:xs.map lD++TJ (n - xs.length) Th=ρ)(h:Xy (g ρ Z) (λ_ Z'=>SV.fz .none=v/\W Z') (λ_ _=>False) (λr Z'=>r=v/\W Z')):∃Z',dg n g xs Z=.ok v Z'/\W Z':=by obtain⟨x,Z',l,j,e⟩:=Pk (T:=λr Z'=>r=v/\W Z') a h;exact⟨Z',by rw[l,j],e⟩
end
end L10
namespace L10
open PySem PyProof.Rows L2 L3
section
variable{B O O':cg}{K:Tg}{E:XK}{H H' H1 H2:Hp}{α α' α1 α2:bg Tt}{Z Z' Z1 Y:a9}{σ:L2.St}{ρ:bu}{v:V}
theorem Be{fa fb:cT}{y z:SV}{i:Nat}{n:Int}{xs:bg SV}(ha:fa ρ Z=.ok (.rf i) Z1)(e:fb ρ Z1=.ok y Y)(hn:FD y=lD n)(a:Y[i]?=lD (.lst xs))(b:ng xs n=lD z):ke fa fb ρ Z=.ok z Y:=by unfold ke;rw[ha,d0,e,d0];unfold Op;simp only[a,hn];show RS.UB Y (ng xs n)=_;rw[b];rfl
end
end L10
namespace L10
open PySem PyProof.Rows L2 L3
section
variable{O Z:cg}{K:Tg}{H H':Hp}{a b:Tt}{xs:bg V}{Y:Heap->Prop}
def Ji(a:Tt)(O:cg)(H:Hp)(Z:cg)(H':Hp):Prop:=∀b o,b≠a->H b=lD o->¬O b->H' b=lD o/\¬Z b
theorem ZT.ZV(i:H a=lD (.ext Y))(h:ZT O K H b xs)(e:Ji a O H Z H'):ZT Z K H' b xs:=by
 obtain⟨h,k⟩:=h;by_cases z:O b
 .exact⟨Xz.same (l7 H') (k z),λ_=>k z⟩
 .rcases h with(h|⟨o,h⟩)|h
  .obtain⟨g,f⟩:=e b _ (λy=>by rw[y,i]at h;cases h) h z;exact⟨.inl (.inl g),λy=>a6 y f⟩
  .obtain⟨g,f⟩:=e b _ (λy=>by rw[y,i]at h;cases h) h z;exact⟨.inl (.inr ⟨o,g⟩),λy=>a6 y f⟩
  .exact⟨.inr h,λ_=>.inr h⟩
theorem Yh.ZV(i:H a=lD (.ext Y))(h:Yh O K H b xs)(e:Ji a O H Z H'):Yh Z K H' b xs:=by
 obtain⟨h,k⟩:=h;by_cases z:O b
 .exact⟨(l7 H').tup (k z),λ_=>k z⟩
 .rcases h with(h|⟨o,h⟩)|h
  .obtain⟨g,f⟩:=e b _ (λy=>by rw[y,i]at h;cases h) h z;exact⟨.inl (.inl g),λy=>a6 y f⟩
  .obtain⟨g,f⟩:=e b _ (λy=>by rw[y,i]at h;cases h) h z;exact⟨.inl (.inr ⟨o,g⟩),λy=>a6 y f⟩
  .exact⟨.inr h,λ_=>.inr h⟩
mutual
theorem DV.ZV(f:H a=lD (.ext Y))(e:Ji a O H Z H'):∀{v:V} {d:D},L3.DV O K H v d->L3.DV Z K H' v d
 |_,_,.V8=>.V8
 |_,_,.bl b=>.bl b
 |_,_,.int i=>.int i
 |_,_,.str x=>.str x
 |_,_,.tup h hs=>.tup (Yh.ZV f h e) (Vl.ZV f e hs)
 |_,_,.lst h hs=>.lst (ZT.ZV f h e) (Vl.ZV f e hs)
theorem Vl.ZV(f:H a=lD (.ext Y))(e:Ji a O H Z H'):∀{vs:bg V} {ds:bg D},L3.Vl O K H vs ds->L3.Vl Z K H' vs ds
 |_,_,.nil=>.nil
 |_,_,.cons h hs=>.cons (DV.ZV f e h) (Vl.ZV f e hs)
end
end
section
variable{B O X:cg}{K:Tg}{E:XK}{H H' H1 H2:Hp}{Y α' α1 α2:bg Tt}{Z Z' Z1 Z2:a9}{σ:L2.St}{ρ:bu}{v:V}{U:Heap->Prop}{a b:Tt}
theorem AOk.ZV{x:AV}(f:H a=lD (.ext U))(e:Ji a O H X H')(h:AOk O K H Y v x):AOk X K H' Y v x:=by
 cases x with
 |fz d=>exact DV.ZV f e h
 |rf i=>exact h
theorem Ws.ZV{x:SV}(f:H a=lD (.ext U))(e:Ji a O H X H')(h:Ws O K H Y v x):Ws X K H' Y v x:=by
 cases x with
 |fz d=>exact DV.ZV f e h
 |rf i=>exact h
 |tp l=>obtain⟨a,xs,m,j,g⟩:=h;exact⟨a,xs,m,Yh.ZV f j e,Paired.Xg g λ_ _ q=>AOk.ZV f e q⟩
theorem COk.ZV{c:Cell}(i:H a=lD (.ext U))(e:Ji a O H X H')(ha:∀o,H b=lD o->H' b=lD o)(h:COk O K H Y b c):COk X K H' Y b c:=by
 cases c with
 |lst xs=>obtain⟨vs,g,f⟩:=h;exact⟨vs,ha _ g,Paired.Xg f λ_ _ q=>Ws.ZV i e q⟩
 |Y4 Ub=>obtain⟨ws,g,f⟩:=h;exact⟨ws,ha _ g,Paired.Xg f λ_ _ q=>⟨q.1,Ws.ZV i e q.2⟩⟩
 |obj C fs=>obtain⟨Ca,dx,ws,j,g,f⟩:=h;exact⟨Ca,dx,ws,j,ha _ g,Paired.Xg f λ_ _ q=>⟨q.1,Ws.ZV i e q.2⟩⟩
 |dd Ub=>obtain⟨xs,g,f⟩:=h;exact⟨xs,ha _ g,Paired.Xg f λ_ _ q=>⟨q.1,DV.ZV i e q.2.1,DV.ZV i e q.2.2⟩⟩
 |dead=>trivial
theorem Vd.pin{i:Nat}{c:Cell}{o:HO}(ha:Y[i]?=lD a)(h:Z[i]?=lD c)(f:c≠.dead):Vd Y Z H Y (Z.set i .dead) (bq H a o):=
 ⟨λ_ _ h=>h,λb g q n=>by have z:b≠a:=λe=>n ⟨i,c,by rw[e];exact ha,h,f⟩;rw[az z];exact q,λb z=>.inl (rD z)⟩
theorem nU{o:HO}(h:H b≠Th):bq H a o b≠Th:=by
 by_cases z:b=a
 .subst z;rw[aF];simp
 .rw[az z];exact h
theorem StoOk.pin(s:StoOk B K H Y Z){i:Nat}{c:Cell}{o:HO}(ha:Y[i]?=lD a)(h:Z[i]?=lD c)(l:c≠.dead):StoOk B K (bq H a o) Y (Z.set i .dead):=by
 have e:Vd Y Z H Y (Z.set i .dead) (bq H a o):=Vd.pin ha h l;refine⟨by rw[UJ];exact s.len,s.nd,λb h=>nU (s.bn b h),s.ba,λj b h=>nU (s.al j b h),λj b d g f=>?_⟩;rcases b4 f with⟨rfl,rfl⟩|⟨m,f⟩
 .exact trivial
 .exact(s.ZU j b d g f).ev e.ev e.pre λu q=>by rw[az (λz=>m (s.nd j i a (by rw[<-z];exact g) ha))];exact q
theorem Gv{i:Nat}{c:Cell}(s:StoOk B K H Y Z)(ha:Y[i]?=lD a)(h:Lv Y (Z.set i c) b):b=a\/Lv Y Z b:=by
 obtain⟨j,d,f,e,g⟩:=h;rcases b4 e with⟨rfl,rfl⟩|⟨_,e⟩
 .rw[ha]at f;cases f;exact .inl rfl
 .exact .inr ⟨j,d,f,e,g⟩
theorem CU{i:Nat}{c:Cell}{o:HO}(s:StoOk B K H Y Z)(ha:Y[i]?=lD a):Ji a (ow B Y Z) H (ow B Y (Z.set i c)) (bq H a o):=λb u e h n=>by
 refine⟨by rw[az e];exact h,λz=>?_⟩;rcases z with z|z
 .exact n (.inl z)
 .rcases Gv s ha z with z|z
  .exact e z
  .exact n (.inr z)
end
end L10
namespace L10
open PySem PyProof.Rows L2 L3
section
variable{B O O':cg}{K:Tg}{E:XK}{H H' H1 H2:Hp}{Y α' X α2:bg Tt}{Z Z' Z1 Z2:a9}{σ:L2.St}{ρ:bu}{v:V}
def Jz(n:String)(fa:cT):cT:=λρ Z=>(fa ρ Z).bind λx Z1=>(RS.UB Z1 (uY 6 Z1 x)).bind λd Z1=>(RS.UB Z1 (zu d)).bind λt Z1=>.ok (.fz (.bool (BB n t))) Z1
theorem KQ(hn:n= "int"\/n= "bool"\/n= "str"\/n= "list"\/n= "tuple")(ha:cG K E ta fa):cG K E (yG (GR K) (fy ta (fy (tC (.ty n)) jK))) (Jz n fa):=by intro B σ H Y Z ρ Q s f w;refine ha B σ H Y Z ρ _ s f (w.bind.imp λx X Z1 H1 h b a v g=>?_);obtain⟨d,q,a⟩:=WS.UB a;obtain⟨t,e,a⟩:=WS.UB a;exact⟨v,n,t,BB n t,rfl,ME (DV.x (j6 b 6 g q)) e,DN hn e,WS.now b a (.bl _) (.bl _)⟩
theorem Pa(h:fa ρ Z=.ok x Z1)(hd:uY 6 Z1 x=lD d)(a:zu d=lD t):Jz n fa ρ Z=.ok (.fz (.bool (BB n t))) Z1:=by unfold Jz;rw[h,d0,hd];show((RS.UB Z1 (zu d)).bind _)=_;rw[a];rfl
theorem StoOk.ae0(s:StoOk (ck B p) K H Y Z)(m:c≠.dead)(l:H p≠Th)(g:COk (ow (ck B p) Y Z) K H Y p c)(r:¬B p):StoOk B K H (Y++[p]) (Z++[c]):=by
 have t:ow (ck B p) Y Z=ow B (Y++[p]) (Z++[c]):=yF s.len m;have hn:=s.ba p (.inr rfl);have ev:Ev (ow (ck B p) Y Z) H (ow B (Y++[p]) (Z++[c])) H:=by rw[t];exact λb o h n=>⟨h,n⟩
 refine⟨by rw[Tz,Tz,s.len];rfl,λi j a e f=>?_,λa h=>s.bn a (.inl h),λa h i z=>?_,λi a h=>?_,λi a u e f=>?_⟩
 .rcases bC e with g1|⟨e1,e2⟩<;>rcases bC f with g2|⟨e3,e4⟩
  .exact s.nd i j a g1 g2
  .rw[e4]at g1;exact a6 g1 (hn i)
  .rw[e2]at g2;exact a6 g2 (hn j)
  .omega
 .rcases bC z with z|⟨_,rfl⟩
  .exact s.ba a (.inl h) i z
  .exact r h
 .rcases bC h with h|⟨_,rfl⟩
  .exact s.al i a h
  .exact l
 .rcases bC f with f|⟨e2,rfl⟩
  .rcases bC e with e|⟨e1,rfl⟩
   .exact(s.ZU i a u e f).ev ev (λ_ _ h=>fD h) λ_ q=>q
   .have:=(Tn.mp f).1;rw[<-s.len]at this;omega
  .rcases bC e with e|⟨e1,rfl⟩
   .have:=(Tn.mp e).1;rw[s.len]at this;omega
   .exact g.ev ev (λ_ _ h=>fD h) λ_ q=>q
end
end L10
namespace L3
open PySem L2
structure NI(K:Tg)(f:Tt)(n:Str)(t:VH):Prop where
 a:T7 K TZ n=lD (lD (.ref f))
 F:∃fd,WL K n n t f fd
structure MI(K:Tg)(C f:Tt)(m q:Str)(t:VH):Prop where
 a:Us K (.ref C) m=lD (lD (.ref f))
 i:Wm K (.ref f)=To
 F:∃fd,WL K m q t f fd
structure CI(K:Tg)(C:Tt)(n:Str)(fs:bg Str):Prop where
 a:T7 K TZ n=lD (lD (.ref C))
 pg:WZ K C Str.empty=To
 hd:V9 K C=To
 po:Y6 K C=To
 sa:Us K (.ref C) "__setattr__"=lD (lD (.builtin "object.__setattr__"))
 mm:ZK K C=To
 kc:Vm K (.ref C)=To
 fl:∀x∈fs,XM K C x
def BA(n q:Str)(t:VH)(ps:bg Str):Prop:=∀(kV b e:Ti) (f:br Tt) (g ct:Ti) (a:bg Ti),a.length=ps.length->bindArgs (Va n q (gj t) (cr t) (aB t) .none kV b e f g ct) ⟨a,[]⟩=pure (ps.zip a)
section
variable{P:T5}{w:Uu}{K:Tg}{mg:Str->br Ti}{base h:Heap}{f C:Tt}{n m q:Str}{t:VH}{ps fs:bg Str}{Z k:Nat}{sp sp':Sp}
theorem CI.cls(c:CI K C n fs):Cls K C:=⟨c.pg,c.hd,c.po,c.sa⟩
theorem CI.cf(c:CI K C n fs):L10.gS K n fs:=⟨C,c.a,c.cls,c.fl⟩
theorem NI.cal(i:NI K f n t)(X:K.In h)(G:h.Ns TZ mg)(b:BA n n t ps)(ok:∀fd,WL K n n t f fd->FnOk P w K mg base dD Z f fd ps sp):yX P w K mg base Z n ps sp:=
 let⟨fd,z⟩:=i.F;⟨f,fd,ok fd z,z.binds b,z.kp,Vu X G i.a⟩
theorem NI.law(i:NI K f "law" t)(X:K.In h)(G:h.Ns TZ mg)(b:mg "law"=lD (.ref fa))(p:BA "law" "law" t [x])(ok:∀base fd,WL K "law" "law" t f fd->FnOk P w K mg base dD Z f fd [x] sp):∃fd:UO,(∀(s:Tv) (v:Ti),YS s fd ⟨[v],[]⟩ [(x,v)])/\∀base:Heap,K.In base->base.Ns TZ mg->FnOk P w K mg base dD Z fa fd [x] sp:=by have e:=b.symm.trans (Vu X G i.a);cases e;obtain⟨fd,z⟩:=i.F;obtain⟨A,y,kV,g,j,r,u,ct,l,rfl,B,o⟩:=z.ex;exact⟨_,λs v=>.of_eq (p kV g j r u ct [v] rfl),λbase _ _=>ok base _ z⟩
theorem CV(a:VU k A):A.units+65<cLine:=by have:=a.un;omega
theorem Eb(p:SO K E u g)(h:Zl X b u):∃t,Zl X b t/\SO K E t g:=⟨_,h,p⟩
theorem Dj(p:L10.mq K E u g)(h:Zl X b u):∃t,Zl X b t/\L10.mq K E t g:=⟨_,h,p⟩
theorem n6{x a:Str}{st:VH}{fd:UO}{N:bg Str}{n m:Nat}{g:FS}{i:FN}(F:WL K x a st f fd)(S:Wb N ps (aB st))(hn:ps.length=n)(hm:N.length=m)(j:i=gA m g)
  (l:∀(b:Ti) (A:Uk) (outer:bg Env) (s:Tv) (H:Hp) (E:XK),N.Nodup->VU k (A.deeper (Ud a (aB st) s.heap.objs.size f b))->(A.deeper (Ud a (aB st) s.heap.objs.size f b)).units+64<cLine->(A.deeper (Ud a (aB st) s.heap.objs.size f b)).units+1<cLine->(A.deeper (Ud a (aB st) s.heap.objs.size f b)).units+65<cLine->
   ∃t,Zl (gy dD P w K mg base N a (aB st) f b A outer s H E).nox (cr st) t/\SO K E t g):FnOk P w K mg base dD (k+1) f fd ps (qC K n i):=
 S8 F S hn hm j λb A outer s H E e=>l b A outer s H E S.nd e e.units (Cm e) (CV e)
theorem kq{n m:Nat}(F:WL K x qual st f fd)(S:Wb N ps (aB st))(hn:ps.length=n)(hm:N.length=m)(e:FF=L10.dg m g)
  (i:∀(a:Ti) (A:Uk) (outer:bg Env) (s:Tv) (H:Hp) (E:XK),N.Nodup->VU k (A.deeper (Ud qual (aB st) s.heap.objs.size f a))->(A.deeper (Ud qual (aB st) s.heap.objs.size f a)).units+64<cLine->(A.deeper (Ud qual (aB st) s.heap.objs.size f a)).units+1<cLine->(A.deeper (Ud qual (aB st) s.heap.objs.size f a)).units+65<cLine->
   ∃t,Zl (gy dD P w K mg base N qual (aB st) f a A outer s H E).nox (cr st) t/\L10.mq K E t g):FnOk P w K mg base dD (k+1) f fd ps (L10.dR K n FF):=
 L10.S6 F S hn hm e λa A outer s H E b=>i a A outer s H E S.nd b b.units (Cm b) (CV b)
theorem KH{W:Tt}{a:Array Ti}{g:Nat}{ss:Array (br Ti)}{xs:bg V}{ds:bg D}(l:K.lookup W=lD ⟨.type "tuple",Th,.seq a g,ss⟩)(e:a.size<=TL)(b:Vals xs a.toList)(hd:∀O H,Vl O K H xs ds):∀O H,DV O K H (.ref W) (.tuple ds):=λO H=>
 .tup (xs:=xs) ⟨.inr ⟨_,_,_,l,⟨rfl,rfl⟩,rfl,e,b⟩,λ_=>.inr ⟨_,_,_,l,⟨rfl,rfl⟩,rfl,e,b⟩⟩ (hd O H)
end
end L3
namespace L10
open PySem PySem.Spec PyProof.Rows L2 L3
section
variable{B O O':cg}{K:Tg}{E:XK}{H H' H1 H2:Hp}{α α' α1 α2:bg Tt}{Z Z' Z1 Z2:a9}{σ:L2.St}{ρ:bu}{v:V}
theorem Pu{i:Nat}{f:D->D->br RV}{fe:cT}{x y:SV}{z:SV}{Z3:a9}(a:ρ[i]?=lD (lD x))(e:fe ρ Z=.ok y Z1)(b:ub f x y Z1=.ok z Z2):Fu i f fe ρ Z=.ok (.nx (ρ.set i (lD z))) Z2:=by unfold Fu;rw[bh a,d0,e,d0,b,d0]
end
end L10
namespace L4
open PySem PySem.Spec PyProof.Rows L2 L3
def Qf(X:Cx)(st:bg VH)(b:L2.St)(t:TS):Prop:=∀(a:bg (Tt×Obj)) (s:Tv) (H:Hp) (D:Ends),L2.Inv X a b H s->t D b H->wpAny (model X.prog X.w) X.A (execs st X.env) (SP X a D) X.xe s
def wM(X:Cx)(b:L2.St)(E2:XK):Ti->Tv->Prop:=λx a=>∃H1 e c dx a0 T,x=.ref e/\L2.Inv X [] b H1 a/\Jh a.heap e c dx a0 (lD T)/\Apart X e/\Apart X T/\H1 e=Th/\H1 T=Th/\E2 c dx H1
end L4
namespace LD
open PySem PyProof.Rows L2 L3
def md(xs:bg (KD×Tt×V))(k:KD):br V:=(xs.find? λx=>decide (x.1=k)).map (·.2.2)
def mP(xs:bg (KD×Tt×V))(k:KD)(b:Tt)(v:V):bg (KD×Tt×V):=
 if(xs.find? λx=>decide (x.1=k)).isSome=To then xs.map (λx=>if x.1=k then(x.1,x.2.1,v) else x) else xs++[(k,b,v)]
abbrev RX:bg (KD×Tt×V)->bg (KD×Tt×Ti)->Prop:=Paired λx y=>x.1=y.1/\x.2.1=y.2.1/\RelV x.2.2 y.2.2
theorem xE:∀{xs:bg (KD×Tt×V)} {ys:bg (KD×Tt×Ti)},RX xs ys->xs.map (·.1)=ys.map (·.1)
 |_,_,.nil=>rfl
 |_,_,.cons h t=>by rw[TX,TX,h.1,xE t]
theorem pZ:∀{xs:bg (KD×Tt×V)} {ys:bg (KD×Tt×Ti)},RX xs ys->Xn (md xs k) ((atKey ys k).map (·.2))
 |_,_,.nil=>by unfold md atKey;exact trivial
 |x::xs,y::ys,.cons h t=>by
  unfold md atKey;rw[Uw,Uw,h.1];by_cases e:y.1=k
  .rw[aP e];exact h.2.2
  .rw[a4 e];exact pZ t
theorem B7:∀{xs:bg (KD×Tt×V)} {ys:bg (KD×Tt×Ti)},RX xs ys->(xs.find? λx=>decide (x.1=k)).isSome=(atKey ys k).isSome
 |_,_,.nil=>rfl
 |x::xs,y::ys,.cons h t=>by
  unfold atKey;rw[Uw,Uw,h.1];by_cases e:y.1=k
  .rw[aP e];rfl
  .rw[a4 e];exact B7 t
theorem Hv(r:RelV v u):∀{xs:bg (KD×Tt×V)} {ys:bg (KD×Tt×Ti)},RX xs ys->RX (xs.map λx=>if x.1=k then(x.1,x.2.1,v) else x) (ys.map (putAt k u))
 |_,_,.nil=>.nil
 |x::xs,y::ys,.cons h t=>by
  rw[TX,TX];refine .cons ?_ (Hv r t);unfold putAt;by_cases e:y.1=k
  .rw[av (h.1.trans e),av e];exact⟨h.1,h.2.1,r⟩
  .rw[ax (by rw[h.1];exact e),ax e];exact h
theorem CZ(h:x.1=y.1/\x.2.1=y.2.1/\RelV x.2.2 y.2.2):∀{xs:bg (KD×Tt×V)} {ys:bg (KD×Tt×Ti)},RX xs ys->RX (xs++[x]) (ys++[y])
 |_,_,.nil=>.cons h .nil
 |_,_,.cons g t=>.cons g (CZ h t)
theorem HN(r:RelV v u)(h:RX xs ys):RX (mP xs k b v) (storedH ys k b u):=by
 unfold mP storedH;rw[B7 h];split
 .exact Hv r h
 .exact CZ ⟨rfl,rfl,r⟩ h
theorem qJ(xs:bg (KD×Tt×V))(k:KD)(b:Tt)(v:V):(mP xs k b v).length<=xs.length+1:=by
 unfold mP;split
 .rw[Tj];omega
 .rw[Tz];exact TB _
def oA(K:Tg)(H:Hp)(xs:bg (KD×Tt×V)):Prop:=∀x∈xs,L2.DV K H (.ref x.2.1) x.1.1
section
variable{X:Cx}{Z:bg (Tt×Obj)}{Y:L2.St}{H:Hp}{s:Tv}{a b:Tt}{xs:bg (KD×Tt×V)}{k:KD}{v:V}{u r:Ti}{A:Uk}{E:Ti->Tv->Prop}
theorem Nd:∀{xs:bg (KD×Tt×V)} {es:bg VN},Paired (λ(x:KD×Tt×V) (e:VN)=>e.hash=tL w x.1.1/\e.key=.ref x.2.1/\RelV x.2.2 e.val) xs es->∃ys,RX xs ys/\es=ys.map (entryOfKey (gJ P w))
 |_,_,.nil=>⟨[],.nil,rfl⟩
 |x::_,e::_,.cons ⟨h1,h2,h3⟩ t=>by obtain⟨ys,g,f⟩:=Nd t;refine⟨(x.1,x.2.1,e.val)::ys,.cons ⟨rfl,rfl,h3⟩ g,?_⟩;rw[TX,<-f];obtain⟨i,h,ev⟩:=e;dsimp only at h1 h2;subst h1 h2;rfl
theorem Mm:∀{xs:bg (KD×Tt×V)} {ys:bg (KD×Tt×Ti)},RX xs ys->Paired (λ(x:KD×Tt×V) (e:VN)=>e.hash=tL w x.1.1/\e.key=.ref x.2.1/\RelV x.2.2 e.val) xs (ys.map (entryOfKey (gJ P w)))
 |_,_,.nil=>.nil
 |_,_,.cons h t=>.cons ⟨by rw[h.1];rfl,by rw[h.2.1];rfl,h.2.2⟩ (Mm t)
theorem mM(I:L2.Inv X Z Y H s)(h:L2.DV X.K H (.ref b) k.1):(gJ X.prog X.w).is s.heap k b:=L2.DV.reads I h rfl
theorem nY(I:L2.Inv X Z Y H s)(e:H a=lD (DkO a xs))(j:oA X.K H xs):xs.length<=TL/\(a==U3)=Tw/\∃ys,RX xs ys/\s.heap.DictOfH (gJ X.prog X.w) a ys:=by
 obtain⟨⟨⟨z,n,nd⟩,o,L,M,G,F,C,B⟩,_⟩:=(show ObjOk X.prog X.w H s.heap a (DkO a xs) from I.UW a _ e);obtain⟨ys,h,J⟩:=Nd B;refine⟨z,n,ys,h,o,L,M,G,F,C,J,?_,by rw[<-xE h];exact nd⟩;have all:∀{l:bg (KD×Tt×V)} {m:bg (KD×Tt×Ti)},RX l m->(∀x∈l,L2.DV X.K H (.ref x.2.1) x.1.1)->∀y∈m,(gJ X.prog X.w).is s.heap y.1 y.2.1:=by
  intro l m q
  induction q with
  |nil=>intro _ y f;exact nomatch f
  | @cons p q ps qs hq t ih=>
   intro g y f;rcases T1.mp f with e|f
   .subst e;have:=mM I (g p (Ts ..));rw[hq.1,hq.2.1]at this;exact this
   .exact ih (λx i=>g x (Tx _ i)) y f
 exact all h j
theorem xp(z:xs.length<=TL)(hd:(a==U3)=Tw)(e:RX xs ys)(dd:h'.DictOfH (gJ P w) a ys):ObjOk P w H' h' a (DkO a xs):=by obtain⟨o,f,g,h,n,m,l,y,j⟩:=dd;refine⟨⟨⟨z,hd,by rw[xE e];exact j⟩,o,f,g,h,n,m,by rw[l];exact Mm e⟩,⟨o,h⟩,?_⟩;rintro C B ⟨q,o,f,g,t,p⟩ i;exact⟨q,o,f,g,i o t,p⟩
theorem lU(e:A.units+64<cLine):(gJ X.prog X.w).room A.in1:=by show A.in1.units+8<cLine;rw[Uk.in1_units];omega
theorem Ps(m:A.units+64<cLine)(I:L2.Inv X Z Y H s)(e:H a=lD (DkO a xs))(o:oA X.K H xs)(q:L2.DV X.K H (.ref b) k.1)(g:md xs k=lD v)(h:∀w' s',L2.Inv X Z Y H s'->RelV v w'->Q w' s'):
  wpAny (model X.prog X.w) A (getItem (.ref a) (.ref b)) Q E s:=by
 obtain⟨z,y,t,i,dd⟩:=nY I e o;obtain⟨w',l,f⟩:=Xn.some_of (by rw[<-g];exact pZ i);obtain⟨p,n,j⟩:=Yc.mp l;refine aeT (lU m) (mM I q) dd n ?_;rw[j];exact h w' _ (I.tok _) f
theorem Qk(g:A.units+64<cLine)(I:L2.Inv X Z Y H s)(e:H a=lD (DkO a xs))(i:oA X.K H xs)(l:L2.DV X.K H (.ref b) k.1)(h:∀s',L2.Inv X Z Y H s'->Q (.bool (md xs k).isSome) s'):
  wpAny (model X.prog X.w) A (Vw .In (.ref b) (.ref a)) Q E s:=by
 obtain⟨z,j,m,f,dd⟩:=nY I e i;refine aks (lU g) (mM I l) j dd ?_;have q:=(pZ (k:=k) f).XX;rw[XH]at q;rw[<-q];exact h _ (I.tok _)
theorem OW(g:A.units+64<cLine)(I:L2.Inv X Z Y H s)(e:H a=lD (DkO a xs))(i:oA X.K H xs)(l:L2.DV X.K H (.ref b) k.1)(h:∀s',L2.Inv X Z Y H s'->Q (.bool (!(md xs k).isSome)) s'):
  wpAny (model X.prog X.w) A (Vw .NotIn (.ref b) (.ref a)) Q E s:=by
 obtain⟨z,j,m,f,dd⟩:=nY I e i;refine wpAny_notIn_heap (lU g) (mM I l) j dd ?_;have q:=(pZ (k:=k) f).XX;rw[XH]at q;rw[<-q];exact h _ (I.tok _)
theorem Pi(m:A.units+64<cLine)(I:L2.Inv X Z Y H s)(e:H a=lD (DkO a xs))(o:oA X.K H xs)(y:L2.DV X.K H (.ref b) k.1)(rv:RelV v r)(C:xs.length<TL)(h:∀s',L2.Inv X Z Y (bq H a (DkO a (mP xs k b v))) s'->Q () s'):
  wpAny (model X.prog X.w) A (setItem (.ref a) (.ref b) r) Q E s:=by
 obtain⟨z,t,j,f,dd⟩:=nY I e o;have l:j.length<=TL:=by rw[<-Paired.length f];exact z
 have i:(mP xs k b v).length<=TL:=by have:=qJ xs k b v;omega
 refine aeU (hsz:=l) (lU m) (mM I y) dd λB g n=>h _ ?_;have p:∃q,B.get? a=lD q:=let⟨q,_,_,hq,_⟩:=g;⟨q,hq⟩
 exact oE I (by rw[e];exact True.intro) n p (xp i t (HN rv f) g)
theorem Kd(n:A.units+64<cLine)(I:L2.Inv X Z Y H s)(e:H a=lD (DkO a xs))(j:oA X.K H xs)(m:L2.DV X.K H (.ref b) k.1)(i:RelV d r)(h:∀w' s',L2.Inv X Z Y H s'->RelV ((md xs k).getD d) w'->Q w' s'):
  wpAny (model X.prog X.w) A (call (.builtin "dict.get") [.ref a,.ref b,r]) Q E s:=by
 obtain⟨z,l,g,f,dd⟩:=nY I e j;refine aav aa1 dd.typeIs PySem.F.entry_dict_get (PySem.F.args_dict_get_3 _ _ _) (meetsH_dict_get_default (gJ X.prog X.w) a b l r) ⟨lU (by omega),k,g,mM I m,dd,h _ _ (I.tok _) ?_⟩;exact(pZ f).getD i
theorem BS(I:L2.Inv X Z Y H s)(e:H a=lD (DkO a xs)):s.TypeIs (.ref a) "dict"/\(∀b,Ti.ref a=.ref b->∃ob,s.heap.get? b=lD ob/\ob.dict=Th)/\(a==U3)=Tw:=by obtain⟨⟨⟨z,h,nd⟩,o,l,m,g,f,j,i⟩,_⟩:=(show ObjOk X.prog X.w H s.heap a (DkO a xs) from I.UW a _ e);refine⟨⟨o,g,f.1⟩,λb q=>?_,h⟩;cases q;exact⟨o,g,f.2.1⟩
end
section
variable(K:Tg)
def HB(neg:Bool)(ty g:TE):TE:=λf H Q=>ty f H λy h=>g f h λx e=>∃a b xs k,x=.ref a/\y=.ref b/\e a=lD (DkO a xs)/\oA K e xs/\L2.DV K e (.ref b) k.1/\Q (.bl ((md xs k).isSome !=neg)) e
def Gj(g ty:TE):TE:=λf H Q=>g f H λx h=>ty f h λy e=>∃a b xs k v,x=.ref a/\y=.ref b/\e a=lD (DkO a xs)/\oA K e xs/\L2.DV K e (.ref b) k.1/\md xs k=lD v/\Q v e
def Ib(h ty g:TE):TS:=λD e H=>g e H λv j=>h e j λx i=>ty e i λy f=>∃a b xs k,x=.ref a/\y=.ref b/\f a=lD (DkO a xs)/\oA K f xs/\L2.DV K f (.ref b) k.1/\xs.length<TL/\D.nx e (bq f a (DkO a (mP xs k b v)))
def BL(i ty h:TE):TE:=λf H Q=>i f H λx g=>∃a xs0,x=.ref a/\g a=lD (DkO a xs0)/\ty f g λy j=>h f j λz e=>∃b xs k,y=.ref b/\e a=lD (DkO a xs)/\oA K e xs/\L2.DV K e (.ref b) k.1/\Q ((md xs k).getD z) e
def G1:TE:=λ_ H Q=>∀p,H p=Th->Q (.ref p) (bq H p (DkO p []))
end
section
variable{X:Cx}{o i e f Z:UD}{U Y tx tv:TE}{pos T S WJ:Pos}
theorem ad7(v:X.A.units+64<cLine)(hi:PE X i Y)(w:PE X o U):PC X .In i o (HB X.K Tw Y U):=by intro g s j H Q I h;refine cz (hi g s j H _ I h) λN m ⟨y,J,F,n,q⟩=>cz (w g m j J _ F q) λu M ⟨x,G,E,p,a,b,xs,k,C,B,e,r,t,l⟩=>?_;subst C B;obtain rfl:=p;obtain rfl:=n;rw[aes]at l;exact Qk v E e r t λL I3=>⟨.bl _,G,I3,rfl,l⟩
theorem adt(v:X.A.units+64<cLine)(hi:PE X i Y)(w:PE X o U):PC X .NotIn i o (HB X.K To Y U):=by intro g s j H Q I h;refine cz (hi g s j H _ I h) λN m ⟨y,J,F,n,q⟩=>cz (w g m j J _ F q) λu M ⟨x,G,E,p,a,b,xs,k,C,B,e,r,t,l⟩=>?_;subst C B;obtain rfl:=p;obtain rfl:=n;rw[Bool.bne_true]at l;exact OW v E e r t λL I3=>⟨.bl _,G,I3,rfl,l⟩
theorem aan(E:X.A.units+64<cLine)(G:PE X o U)(hi:PE X i Y)(F:PZ i):PE X (.Subscript o i pos) (Gj X.K U Y):=by intro j s m H Q I h;refine Dr aar.lookup F (cz (G j s m H _ I h) λu p ⟨x,O,M,r,w⟩=>cz (hi j p m O _ M w) λiv s2 ⟨y,N,n,q,a,b,xs,k,v,L,J,e,B,C,g,t⟩=>?_);subst L J;obtain rfl:=r;obtain rfl:=q;exact⟨(BS n e).1,Ps E n e B C g λP R I3 l=>⟨v,N,I3,l,t⟩⟩
theorem aaj(F:X.A.units+64<cLine)(J:PE X o U)(hi:PE X i Y)(E:PE X Z tv)(G:Vg Z (lD (.Subscript o i T)) pos.line X.env=pure Tw):
  PS X (.Assign [.Subscript o i T] Z pos) (Ib X.K U Y tv):=by
 intro g s j H D I h;refine ac4 (cz (E g s j H _ I h) λr m ⟨v,H1,Q,rv,w⟩=>cz (J g m j H1 _ Q w) λu l ⟨x,R,P,p,t⟩=>cz (hi g l j R _ P t) λiv s3 ⟨y,H3,I3,n,a,b,xs,k,N,M,e,B,C,L,q⟩=>?_) G;subst N M;obtain rfl:=p;obtain rfl:=n;exact Pi F I3 e B C rv L λs4 O=>⟨j,_,O,q⟩
theorem acG(N:X.A.units+64<cLine)(O:PE X o U)(R:PE X e Y)(P:PE X f tx)(m:M2 X o "get" S e f WJ):PE X (.Call (.Attribute o "get" S) [e,f] [] WJ) (BL X.K U Y tx):=by
 intro g s j H Q I h;refine afE m.base m.few m.line WK aa1 PySem.F.type_dict_get (cz (O g s j H _ I h) λu v ⟨x,H1,n,C,a,p,ex,e0,J⟩=>?_);subst ex;obtain rfl:=C;obtain⟨r,q,_⟩:=BS n e0;refine⟨r,q,?_⟩;rw[m.trees];refine Calls.callWith_builtin rfl (Calls.evalArgs_plain (Calls.spliced_cons (cz (R g v j H1 _ n J) λiv t ⟨y,H2,I2,B,G⟩=>
  Calls.spliced_cons (cz (P g t j H2 _ I2 G) λfv s3 ⟨z,H3,I3,w,b,xs,k,ey,e3,L,M,E⟩=>Calls.spliced_nil ?_))))
 subst ey;obtain rfl:=B;exact Kd N I3 e3 L M w λw' s4 I4 l=>⟨_,H3,I4,l,E⟩
theorem abr:PE X (.Dict [] [] pos) G1:=λa s b H Q I h=>
 wpAny_Dict_empty ⟨.ref s.heap.objs.size,_,I.laid (λ_ _ q=>bt _ q) (TB _) (xp (Ur _) (beq_eq_false_iff_ne.mpr (db (T8 I.big))) .nil (Heap.DictOfH.new s.heap)),rfl,h _ (I.UW.fresh (TB _))⟩
end
mutual
def P7:Tu->Tu->br Bool
 |.int i,.int j=>lD (decide (i<j))
 |.str x,.str y=>lD (decide (x.cps.toList<y.cps.toList))
 |.tuple xs,.tuple ys=>Qx xs ys
 |_,_=>Th
def Qx:bg Tu->bg Tu->br Bool
 |[],[]=>lD Tw
 |[],_::_=>lD To
 |_::_,[]=>lD Tw
 |x::xs,y::ys=>if Tu.eqv x y=To then Qx xs ys else P7 x y
end
end LD
namespace LD
open PySem PyProof.Rows
structure VE(es:bg VN)(Ub:bg (Unit×Ti)):Prop where
 vals:es.map (·.val)=Ub.map (·.2)
end LD
namespace L10
open PySem PyProof.Rows L2 L3 LD
def hG:SV->br D
 |.fz d=>if keyD d=To then lD d else Th
 |_=>Th
def P8:SV->br D
 |.fz d=>lD d
 |_=>Th
def jg(Z:a9):SV->br (Nat×bg (D×D))
 |.rf i=>match Z[i]? with
  |some (.dd Ub)=>lD (i,Ub)
  |_=>Th
 |_=>Th
def eF(Ub:bg (D×D))(k:D):br D:=(Ub.find? λkv=>Tu.eqv kv.1 k).map (·.2)
def g9(Ub:bg (D×D))(k v:D):bg (D×D):=if(Ub.find? λkv=>Tu.eqv kv.1 k).isSome=To then Ub.map (λkv=>if Tu.eqv kv.1 k=To then(kv.1,v) else kv) else Ub++[(k,v)]
section
variable{B O O':cg}{K:Tg}{E:XK}{H H' R P:Hp}{T α' X S:bg Tt}{Z Z' Z1 Y:a9}{U:L2.St}{ρ:bu}{v:V}{k:KD}
theorem kG(e:hG x=lD d)(h:Ws O K H T v x):∃(k:KD) (b:Tt),k.1=d/\v=.ref b/\L3.DV O K H (.ref b) d:=by
 cases x with
 |fz z=>
  have e:(if keyD z=To then lD z else Th)=lD d:=e;by_cases a:keyD z=To
  .rw[av a]at e
   cases e;have h:=h;cases d with
   |tuple xs=>cases h with
    |tup g f=>exact⟨⟨_,a⟩,_,rfl,rfl,.tup g f⟩
   |_=>simp[keyD]at a
  .rw[ax a]at e;cases e
 |rf i=>cases e
 |tp l=>cases e
theorem nK(s:StoOk B K H T Z)(b:Ws (ow B T Z) K H T v x)(h:jg Z x=lD (i,Ub)):Z[i]?=lD (.dd Ub)/\∃a xs,T[i]?=lD a/\v=.ref a/\H a=lD (DkO a xs)/\PrD (ow B T Z) K H xs Ub:=by
 cases x with
 |fz d=>cases h
 |tp l=>cases h
 |rf j=>
  obtain⟨a,ha,rfl⟩:=b;unfold jg at h;dsimp only at h;cases q:Z[j]? with
  |none=>rw[q]at h;cases h
  |some c=>
   rw[q]at h;cases c with
   |dd m=>have e:=TQ h;cases e;obtain⟨ws,g,f⟩:=s.ZU i a _ ha q;exact⟨q,a,ws,ha,rfl,g,f⟩
   |_=>cases h
theorem qI:∀{xs:bg (KD×Tt×V)} {Ub:bg (D×D)},PrD O K H xs Ub->oA K H xs
 |_,_,.nil=>λ_ h=>nomatch h
 |x::xs,kv::Ub,.cons h t=>λy a=>by
  rcases T1.mp a with e|a
  .subst e;rw[h.1];exact h.2.1.plain
  .exact qI t y a
theorem wB{x:KD×Tt×V}{kv:D×D}(h:x.1.1=kv.1):decide (x.1=k)=Tu.eqv kv.1 k.1:=by
 rw[<-h]
 haveI:Decidable (x.1.1=k.1):=Classical.propDecidable _
 rw[Gc (keyD_kd x.1.2).1 (keyD_kd k.2).1];by_cases e:x.1=k
 .rw[aP e,aP (dw Subtype.val e)]
 .rw[a4 e,a4 λz=>e (Subtype.ext z)]
theorem kO:∀{xs:bg (KD×Tt×V)} {Ub:bg (D×D)},PrD O K H xs Ub->(∀d,eF Ub k.1=lD d->∃v,md xs k=lD v/\L3.DV O K H v d)/\(eF Ub k.1=Th->md xs k=Th)
 |_,_,.nil=>⟨λx e=>(by cases e),λ_=>rfl⟩
 |x::xs,kv::Ub,.cons h t=>by
  unfold eF md;rw[Uw,Uw,wB h.1];cases Tu.eqv kv.1 k.1 with
  |true=>exact⟨λd e=>⟨x.2.2,rfl,by cases e;exact h.2.2⟩,λe=>by cases e⟩
  |false=>exact kO t
theorem Bi(h:PrD O K H xs Ub):(md xs k).isSome=(eF Ub k.1).isSome:=by
 obtain⟨b,a⟩:=kO h;cases q:eF Ub k.1 with
 |none=>rw[a q];rfl
 |some x=>obtain⟨u,e,_⟩:=b x q;rw[e];rfl
theorem E8:∀{xs:bg (KD×Tt×V)} {Ub:bg (D×D)},PrD O K H xs Ub->(xs.find? λx=>decide (x.1=k)).isSome=(Ub.find? λkv=>Tu.eqv kv.1 k.1).isSome
 |_,_,.nil=>rfl
 |x::xs,kv::Ub,.cons h t=>by
  rw[Uw,Uw,wB h.1];cases Tu.eqv kv.1 k.1 with
  |true=>rfl
  |false=>exact E8 t
theorem Mi(a:L3.DV O K H v d):∀{xs:bg (KD×Tt×V)} {Ub:bg (D×D)},PrD O K H xs Ub->PrD O K H (xs.map λx=>if x.1=k then(x.1,x.2.1,v) else x) (Ub.map λkv=>if Tu.eqv kv.1 k.1=To then(kv.1,d) else kv)
 |_,_,.nil=>.nil
 |x::xs,kv::Ub,.cons h t=>by
  rw[TX,TX];refine .cons ?_ (Mi a t);have e:=wB (k:=k) h.1;by_cases z:x.1=k
  .rw[av z,av (by rw[<-e];exact aP z)];exact⟨h.1,h.2.1,a⟩
  .rw[ax z,ax (by rw[<-e,a4 z];simp)];exact h
theorem yQ(r:x.1.1=kv.1/\L3.DV O K H (.ref x.2.1) kv.1/\L3.DV O K H x.2.2 kv.2):∀{xs:bg (KD×Tt×V)} {Ub:bg (D×D)},PrD O K H xs Ub->PrD O K H (xs++[x]) (Ub++[kv])
 |_,_,.nil=>.cons r .nil
 |_,_,.cons g t=>.cons g (yQ r t)
theorem zF(e:L3.DV O K H (.ref b) k.1)(a:L3.DV O K H v d)(h:PrD O K H xs Ub):PrD O K H (mP xs k b v) (g9 Ub k.1 d):=by
 unfold mP g9;rw[E8 h];split
 .exact Mi a h
 .exact yQ ⟨rfl,e,a⟩ h
theorem Pb(e:Ev O H O' H')(h:PrD O K H xs Ub):PrD O' K H' xs Ub:=Paired.Xg h λ_ _ q=>⟨q.1,q.2.1.ev e,q.2.2.ev e⟩
def zc(neg:Bool)(a fd:cT):cT:=λρ Z=>(a ρ Z).bind λx Z1=>(fd ρ Z1).bind λo Y=>(RS.UB Y (hG x)).bind λk Y=>(RS.UB Y (jg Y o)).bind λp Y=>.ok (.fz (.bool ((eF p.2 k).isSome !=neg))) Y
theorem zy(r:cG K E tk fk)(hd:cG K E td fd):cG K E (HB K neg tk td) (zc neg fk fd):=by intro B U H T Z ρ Q s f w;refine r B U H T Z ρ _ s f (w.bind.imp λx X Z1 R C l j v p=>?_);refine hd B U R X Z1 ρ _ l (f.VX C) (j.bind.imp λo S Y P A g e u q=>?_);obtain⟨d,n,e⟩:=WS.UB e;obtain⟨⟨i,Ub⟩,m,e⟩:=WS.UB e;obtain⟨_,a,xs,ha,rfl,y,h⟩:=nK g q m;obtain⟨k,b,rfl,rfl,t⟩:=kG n (p.VX A);refine⟨a,b,xs,k,rfl,rfl,y,qI h,t.plain,?_⟩;rw[Bi h];exact WS.now g e _ (.bl _)
def mQ(fd a:cT):cT:=λρ Z=>(fd ρ Z).bind λo Z1=>(a ρ Z1).bind λx Y=>(RS.UB Y (hG x)).bind λk Y=>(RS.UB Y (jg Y o)).bind λp Y=>(RS.UB Y (eF p.2 k)).bind λd Y=>.ok (.fz d) Y
theorem pH(hd:cG K E td fd)(C:cG K E tk fk):cG K E (Gj K td tk) (mQ fd fk):=by intro B U H T Z ρ Q s f w;refine hd B U H T Z ρ _ s f (w.bind.imp λo X Z1 R J m j u A=>?_);refine C B U R X Z1 ρ _ m (f.VX J) (j.bind.imp λx S Y P I g e v t=>?_);obtain⟨d,q,e⟩:=WS.UB e;obtain⟨⟨i,Ub⟩,p,e⟩:=WS.UB e;obtain⟨_,a,xs,ha,rfl,G,h⟩:=nK g (A.VX I) p;obtain⟨k,b,rfl,rfl,F⟩:=kG q t;obtain⟨y,n,e⟩:=WS.UB e;obtain⟨z,r,l⟩:=(kO h).1 y n;exact⟨a,b,xs,k,z,rfl,rfl,G,qI h,F.plain,r,WS.now g e z l⟩
def pB(fd b fv:cT):eV:=λρ Z=>(fv ρ Z).bind λy Z1=>(fd ρ Z1).bind λo Y=>(b ρ Y).bind λx a=>(RS.UB a (hG x)).bind λk a=>(RS.UB a (jg a o)).bind λp a=>(RS.UB a (P8 y)).bind λd a=>if p.2.length<1000000 then .ok (.nx ρ) (a.set p.1 (.dd (g9 p.2 k d))) else .bad
theorem F4(e:P8 x=lD d)(h:Ws O K H T v x):L3.DV O K H v d:=by
 cases x with
 |fz z=>cases e;exact h
 |rf i=>cases e
 |tp l=>cases e
theorem pJ(hd:cG K E td fd)(hk:cG K E tk fk)(hv:cG K E tv fv):mq K E (Ib K td tk tv) (pB fd fk fv):=by
 intro B U H T Z ρ D s g w;refine hv B U H T Z ρ _ s g (WS.imp (WS.bind w) λy X Z1 R r L I t m=>?_);refine hd B U R X Z1 ρ _ L (g.VX r) (WS.imp (WS.bind I) λo S Y P q J G u hu=>?_);refine hk B U P S Y ρ _ J (g.VX (r.trans q)) (WS.imp (WS.bind G) λx e h j p A f z hz=>?_);obtain⟨kd,Q,f⟩:=WS.UB f;obtain⟨⟨i,Ub⟩,N,f⟩:=WS.UB f;obtain⟨d,M,f⟩:=WS.UB f;obtain⟨l,a,xs,ha,rfl,g1,n⟩:=nK A (hu.VX p) N;obtain⟨k,b,rfl,rfl,C⟩:=kG Q hz;have hy:=F4 M (m.VX (q.trans p));dsimp only at f;by_cases hn:Ub.length<1000000
 .rw[av hn]at f;have ev:Ev (ow B e h) j (ow B e h) (bq j a (DkO a (mP xs k b t))):=sJ ha l (by intro z;cases z);have F:Vd e h j e (h.set i (.dd (g9 Ub k.1 d))) (bq j a (DkO a (mP xs k b t))):=Vd.put ha l (by intro z;cases z) (by intro z;cases z);have hl:=Paired.length n;refine⟨a,b,xs,k,rfl,rfl,g1,qI n,C.plain,uX (by omega),?_⟩;exact f e _ F (A.put ha l (by intro z;cases z) (by intro z;cases z) ⟨_,aF,zF (C.ev ev) (hy.ev ev) (Pb ev n)⟩) U ((g.VX (r.trans (q.trans p))).VX F)
 .rw[ax hn]at f;exact f.elim
def rK(fd e b:cT):cT:=λρ Z=>(fd ρ Z).bind λo Z1=>(RS.UB Z1 (jg Z1 o)).bind λ_ Z1=>(e ρ Z1).bind λx Y=>(b ρ Y).bind λz a=>(RS.UB a (hG x)).bind λk a=>(RS.UB a (jg a o)).bind λp a=>.ok (match eF p.2 k with|some d=>.fz d|none=>z) a
theorem Bv(hd:cG K E td fd)(hk:cG K E tk fk)(hx:cG K E tx fx):cG K E (BL K td tk tx) (rK fd fk fx):=by
 intro B U H T Z ρ Q s l w;refine hd B U H T Z ρ _ s l (w.bind.imp λo X Z1 R C n j u p=>?_);obtain⟨⟨i0,afe⟩,M,j⟩:=WS.UB j;obtain⟨_,a,g,_,rfl,g0,_⟩:=nK n p M;refine⟨a,g,rfl,g0,?_⟩;refine hk B U R X Z1 ρ _ n (l.VX C) (j.bind.imp λx S Y P A I G v hv=>?_);refine hx B U P S Y ρ _ I (l.VX (C.trans A)) (G.bind.imp λz F Z3 H3 t m f vz N=>?_);obtain⟨d,L,f⟩:=WS.UB f;obtain⟨⟨i,Ub⟩,J,f⟩:=WS.UB f;obtain⟨_,a',xs,ha,ea,g1,r⟩:=nK m (p.VX (A.trans t)) J;cases ea;obtain⟨k,b,rfl,rfl,hb⟩:=kG L (hv.VX t);refine⟨b,xs,k,rfl,g1,qI r,hb.plain,WS.now m f _ ?_⟩;obtain⟨h1,h2⟩:=kO r;dsimp only;cases q:eF Ub k.1 with
 |none=>rw[h2 q];exact N
 |some y=>obtain⟨u,e,h⟩:=h1 y q;rw[e];exact h
def wY:cT:=λ_ Z=>.ok (.rf Z.length) (Z++[.dd []])
theorem vA:cG K E G1 wY:=by intro B U H T Z ρ Q s b w;exact λp a=>kX s a w λ_=>⟨[],aF,.nil⟩
end
end L10
namespace L3
open PySem PyProof.Rows L2
structure aaR(K:Tg)(x qual:Str)(st:VH)(f:Tt)(fd:UO)(T:Tt)(Uz:Array Ti):Prop where
 ex:∃(oc:Ti) (od:br Tt) (kV doc pm:Ti) (an:br Tt) (U8 ct:Ti) (osl:Array (br Ti)),
  fd=Va x qual (gj st) (cr st) (aB st) (.ref T) kV doc pm an U8 ct/\K.lookup f=lD ⟨oc,od,.func fd,osl⟩/\Xs K U8 qual=To
 kp:Vm K (.ref f)=To
 tp:∃o n,K.lookup T=lD o/\o.data=.seq Uz n
section
variable{P:T5}{w:Uu}{K:Tg}{mg:Str->br Ti}{base:Heap}{x Z:Str}{st:VH}{f:Tt}{fd:UO}{T:Tt}{Uz:Array Ti}{N ps:bg Str}{k n m:Nat}{sp:Sp}{ds:bg Ti}
theorem aaR.binds(F:aaR K x Z st f fd T Uz)
  (h:∀(kV a b:Ti) (e:br Tt) (g ct:Ti) (us:bg Ti),(us++ds).length=ps.length->∃k:br (Array Ti)->Sem (bg (Str×Ti)),bindArgs (Va x Z (gj st) (cr st) (aB st) (.ref T) kV a b e g ct) ⟨us,[]⟩=seqItems? (.ref T)>>=k/\k (lD Uz)=pure (ps.zip (us++ds))):Binds K fd ps ds:=by
 obtain⟨v,u,kV,a,b,e,g,ct,i,rfl,y,l⟩:=F.ex;obtain⟨o,n,q,p⟩:=F.tp;intro s us X j;obtain⟨k,t,r⟩:=h kV a b e g ct us j;exact YS.of_defaults (fd:=Va x Z (gj st) (cr st) (aB st) (.ref T) kV a b e g ct) rfl (X _ _ q) p t r
def si(P:T5)(w:Uu)(K:Tg)(mg:Str->br Ti)(base:Heap)(a:xC)(k:Nat)(x:Str)(ps:bg Str)(dvs:bg V)(sp:Sp):Prop:=
 ∃(f:Tt) (fd:UO) (ds:bg Ti),FnOk P w K mg base a k f fd ps sp/\Binds K fd ps ds/\Vals dvs ds/\Vm K (.ref f)=To/\mg x=lD (.ref f)
theorem xD(C:si X.prog X.w X.K X.mg X.base CX k x ps dvs sp)(l:VU j X.A)(i:gz CX X E)(ha:PA X (e::es) t)(a:k<=j:=by decide)(o:Gl X x:=by rfl)
  (g:(x==("__debug__":Str))=Tw:=by decide) (q:Uc (e::es) X.env=(Tw,eval e X.env)::Uc es X.env:=by rfl) (r:(backTo pos (Uc es X.env)).any (·.1)=Tw:=by rfl):
  PE X (.Call (.Name x p) (e::es) [] pos) (kg sp dvs E t):=by
 obtain⟨f,fd,ds,F,b,v,h,m⟩:=C;exact Ch F (l.mono a) o m h b v i ha g q r
end
end L3
namespace L10
open PySem PyProof.Rows L2 L3
section
variable{P:T5}{w:Uu}{K:Tg}{mg:Str->br Ti}{base:Heap}{x Z:Str}{st:VH}{f:Tt}{fd:UO}{T:Tt}{Uz:Array Ti}{N ps:bg Str}{k n m:Nat}{g:eV}{FF:jr}
theorem QW(F:aaR K x Z st f fd T Uz)(S:Wb N ps (aB st))(hn:ps.length=n)(hm:N.length=m)(q:FF=dg m g)
  (u:∀(a:Ti) (A:Uk) (outer:bg Env) (s:Tv) (H:Hp) (E:XK),VU k (A.deeper (Ud Z (aB st) s.heap.objs.size f a))->
   ∃t,Zl (gy (L4.lB P w) P w K mg base N Z (aB st) f a A outer s H E) (cr st) t/\mq K E t g):FnOk P w K mg base (L4.lB P w) (k+1) f fd ps (dR K n FF):=by
 subst q hm;obtain⟨B,y,kV,r,v,C,a,ct,i,rfl,j,e⟩:=F.ex;refine FL j e S (λvs H Q E h=>h.1.trans hn.symm) λA outer s H vs Q E p b=>?_;obtain⟨t,l,o⟩:=u a A outer s H E p;exact⟨t,l,Aa (xs:=[]) o b⟩
end
section
variable{K:Tg}{E:XK}
def Dn(F:jr)(n:Nat)(es:bg D)(fa:z4):cT:=λρ Z=>(fa ρ Z).bind λxs a=>if(xs++es.map SV.fz).length=n then F (xs++es.map SV.fz) a else .bad
theorem Av:∀{vs ws:bg V} {xs ys:bg SV},VZ O K H α vs xs->VZ O K H α ws ys->VZ O K H α (vs++ws) (xs++ys)
 |_,_,_,_,.nil,h=>h
 |_,_,_,_,.cons a t,h=>.cons a (Av t h)
theorem Ei(hd:∀O H,L3.Vl O K H dvs es)(ha:x8 K E ta fa):cG K E (kg (dR K n F) dvs E ta) (Dn F n es fa):=by
 intro B g H α Z ρ Q s h w;refine ha B g H α Z ρ _ s h (w.bind.imp λxs a f l m i e vs j=>?_);by_cases hn:(xs++es.map SV.fz).length=n
 .rw[av hn]at e;have b:=Av j (kW (ow B a f) a (hd (ow B a f) l));exact⟨b.length.trans hn,B,a,f,_,i,b,e⟩
 .rw[ax hn]at e;exact e.elim
end
end L10
namespace L3
open PySem L2
section
variable{P:T5}{w:Uu}{K:Tg}{mg:Str->br Ti}{base h:Heap}{f C:Tt}{n m q:Str}{t:VH}{ps fs:bg Str}{Z k:Nat}{sp sp':Sp}{Y:xC}
theorem MI.ag8(i:MI K C f m q t)(c:CI K C n fs)(b:BA m q t ps)(ok:∀fd,WL K m q t f fd->FnOk P w K mg base Y Z f fd ps sp):L10.ci P w K mg base Y Z n m ps sp:=
 let⟨fd,z⟩:=i.F;⟨C,f,fd,c.a,c.cls,⟨i.a,i.i,z.kp⟩,ok fd z,z.binds b⟩
theorem MI.aiL(i:MI K C f "__init__" q t)(c:CI K C n fs)(X:K.In h)(G:h.Ns TZ mg)(b:BA "__init__" q t ps)(ok:∀fd,WL K "__init__" q t f fd->FnOk P w K mg base Y Z f fd ps sp):L10.zX P w K mg base Y Z n ps sp:=
 let⟨fd,z⟩:=i.F;⟨C,f,fd,c.a,Vu X G c.a,⟨c.mm,i.a,i.i,c.kc⟩,ok fd z,z.binds b⟩
end
end L3
namespace L10
open PySem PySem.Spec PyProof.Rows L2 L3
section
variable{B O O':cg}{K:Tg}{E:XK}{H H' X H2:Hp}{α α' Y α2:bg Tt}{Z Z' Z1 Z2:a9}{σ:L2.St}{ρ:bu}{v:V}
def rN(c f:Str)(fe:cT):eV:=λρ Z=>(fe ρ Z).bind λx Z1=>match x with
 |.fz d=>if L9.Qy d=To then .er ⟨c,[(f,d)]⟩ Z1 else .bad
 |_=>.bad
theorem Bl(M:T7 K TZ c=lD (lD (.ref C)))(L:cG K E te fe):mq K E (L9.BO C (L9.xJ C f) E (fy te jK)) (rN c f fe):=by
 intro B σ H α Z ρ D s G w;refine L B σ H α Z ρ _ s G (WS.imp (WS.bind w) λx Y Z1 X Q I a v h=>?_)
 match x,h,a with
 |.fz d,h,a=>
  have h:=h;dsimp only at a;by_cases r:L9.Qy d=To
  .rw[av r]at a
   have j:L9.RK v/\∀(O':cg) (H':Hp),L3.DV O' K H' v d:=by
    cases d with
    |none=>cases h;exact⟨.inl rfl,λ_ _=>.V8⟩
    |int i=>cases h;exact⟨.inr ⟨i,rfl,a5 r⟩,λ_ _=>.int i⟩
    |_=>cases r
   refine⟨by show 1<=TL;decide,λe hn=>⟨e,v,rfl,j.1,aF,λp F g=>⟨rfl,p,?_,?_⟩⟩⟩
   .rw[az (db g),aF]
   .have u:X p=Th:=by rw[az g]at F;exact F
    have A:Vp X (L9.P4 (bq (bq (bq X e (.ext (L9.JK C e))) e (.ext (L9.QS C e p))) p (.xd [(f,v)])) e):=λb o z=>by
     have t:b≠e:=λy=>by rw[y,hn]at z;cases z
     have J:b≠p:=λy=>by rw[y,u]at z;cases z
     rw[L9.jI t,az J,az t,az t];exact z
    refine a (.ref C) (lD p) Y _ (Vd.same A) (I.grow A) ⟨⟨C,rfl,M⟩,[(f,v)],λP q=>?_,λm N l=>⟨(λz=>nomatch z),?_⟩⟩
    .cases q;rw[L9.jI g,aF]
    .have n:(match m==f with|true=>lD d|false=>V7 m [])=lD N:=l
     cases hb:m==f with
     |true=>rw[hb]at n;cases n;refine⟨v,?_,j.2 _ _⟩;show(match m==f with|true=>lD v|false=>V7 m [])=lD v;rw[hb]
     |false=>rw[hb]at n;cases n
  .rw[ax r]at a;exact a.elim
 |.rf _,_,a=>exact a.elim
 |.tp _,_,a=>exact a.elim
end
end L10
namespace L10
open PySem L2 L3
section
variable{P:T5}{w:Uu}{K:Tg}{mg:Str->br Ti}{base:Heap}{x Z:Str}{st:VH}{f:Tt}{fd:UO}{T:Tt}{Uz:Array Ti}{N ps:bg Str}{k n m:Nat}{g:eV}{Y:jr}
theorem Jc(F:WL K x Z st f fd)(S:Wb N ps (aB st))(hn:ps.length=n)(hm:N.length=m)(e:Y=dg m g)
  (h:∀(a:Ti) (A:Uk) (outer:bg Env) (s:Tv) (H:Hp) (E:XK),N.Nodup->VU k (A.deeper (Ud Z (aB st) s.heap.objs.size f a))->(A.deeper (Ud Z (aB st) s.heap.objs.size f a)).units+64<cLine->(A.deeper (Ud Z (aB st) s.heap.objs.size f a)).units+1<cLine->(A.deeper (Ud Z (aB st) s.heap.objs.size f a)).units+65<cLine->
   ∃t,Zl (gy (L4.lB P w) P w K mg base N Z (aB st) f a A outer s H E) (cr st) t/\mq K E t g):FnOk P w K mg base (L4.lB P w) (k+1) f fd ps (dR K n Y):=
 Si F S hn hm e λa A outer s H E b=>h a A outer s H E S.nd b b.units (Cm b) (CV b)
theorem On(F:aaR K x Z st f fd T Uz)(S:Wb N ps (aB st))(hn:ps.length=n)(hm:N.length=m)(e:Y=dg m g)
  (h:∀(a:Ti) (A:Uk) (outer:bg Env) (s:Tv) (H:Hp) (E:XK),N.Nodup->VU k (A.deeper (Ud Z (aB st) s.heap.objs.size f a))->(A.deeper (Ud Z (aB st) s.heap.objs.size f a)).units+64<cLine->(A.deeper (Ud Z (aB st) s.heap.objs.size f a)).units+1<cLine->(A.deeper (Ud Z (aB st) s.heap.objs.size f a)).units+65<cLine->
   ∃t,Zl (gy (L4.lB P w) P w K mg base N Z (aB st) f a A outer s H E) (cr st) t/\mq K E t g):FnOk P w K mg base (L4.lB P w) (k+1) f fd ps (dR K n Y):=
 QW F S hn hm e λa A outer s H E b=>h a A outer s H E S.nd b b.units (Cm b) (CV b)
end
end L10
namespace LD
open PySem PySem.Spec PyProof.Rows L2
def Qc(K:Tg)(g f:TE):TE:=λe H Q=>∀p,H p=Th->g e (bq H p (DkO p [])) λy h=>f e h λv a=>∃b k,y=.ref b/\a p=lD (DkO p [])/\L2.DV K a (.ref b) k.1/\Q (.ref p) (bq a p (DkO p (mP [] k b v)))
theorem afc(U:X.A.units+64<cLine)(G:PE X k tk)(E:PE X v tv):PE X (.Dict [lD k] [v] pos) (Qc X.K tk tv):=by
 intro a s m H Q I q;have hn:=I.UW.fresh (TB s.heap.objs.size);have O:=I.laid (t':=s.toks) (λ_ _ q=>bt _ q) (TB _) (xp (Ur _) (beq_eq_false_iff_ne.mpr (db (T8 I.big))) .nil (Heap.DictOfH.new s.heap));refine wpAny_Dict_any rfl rfl (List.cons_ne_nil _ _) (show 1<=15 by decide) (pairTrees_cons_walk (cz (G a _ m _ _ O (q _ hn)) λu p ⟨x,P,l,t,B⟩=>cz (E a p m P _ l B) λR S ⟨y,Y,j,r,b,n,N,e,C,w⟩=>pairTrees_nil_walk ?_));subst N;obtain rfl:=t;obtain⟨z,L,o,f,dd⟩:=nY j e (λ_ h=>nomatch h);have T:o.length<=TL:=by rw[<-Paired.length f];exact z
 have i:(mP [] n b y).length<=TL:=by have:=qJ [] n b y;rw[Vr];simp only[Vq]at this;omega
 unfold storeAll;simp only[Xo,YK];refine Ld (Ld (wpAny_dictSet_heap (show X.A.units+8<cLine by omega) (mM j C) dd λM g F=>Tr (Tr ?_)));have J:∃q,M.get? s.heap.objs.size=lD q:=let⟨q,_,_,hq,_⟩:=g;⟨q,hq⟩
 exact⟨.ref s.heap.objs.size,_,oE j (by rw[e];exact True.intro) F J (xp i L (HN r f) g),rfl,w⟩
end LD
namespace L10
open PySem PyProof.Rows L2 L3 LD
section
variable{B O O':cg}{K:Tg}{E:XK}{H H' H1 H2:Hp}{Y α' α1 α2:bg Tt}{Z Z' Z1 X:a9}{U:L2.St}{ρ:bu}{v:V}
def Oc(a fv:cT):cT:=λρ Z=>(jv (a ρ Z)).bind λx Z1=>(jv (fv ρ Z1)).bind λy X=>match hG x,P8 y with
 |some k,lD d=>.ok (.rf X.length) (X++[.dd (g9 [] k d)])
 |_,_=>.bad
theorem J8(hk:cG K E tk fk)(hv:cG K E tv fv):cG K E (Qc K tk tv) (Oc fk fv):=by
 intro B U H Y Z ρ Q s P w p g;have hB:=λz=>s.bn p z g;have R:StoOk (ck B p) K (bq H p (DkO p [])) Y Z:=s.hide g;have l:Wn (ow (ck B p) Y Z) K (bq H p (DkO p [])) Y U ρ:=by
  have ev:Ev (ow B Y Z) H (ow (ck B p) Y Z) (bq H p (DkO p [])):=λb o h n=>by
   have r:b≠p:=λz=>by rw[z,g]at h;cases h
   refine⟨by rw[az r];exact h,λz=>?_⟩;rcases z with(z|z)|z
   .exact n (.inl z)
   .exact r z
   .exact n (.inr z)
  exact⟨P.1,λj x hx=>let⟨v,h1,h2⟩:=P.2 j x hx;⟨v,h1,h2.ev ev λ_ _ h=>h⟩⟩
 unfold Oc at w;refine hk (ck B p) U _ Y Z ρ _ R l ?_;cases qk:fk ρ Z with
 |er x f=>rw[qk]at w;exact w.elim
 |bad=>rw[qk]at w;exact w.elim
 |ok x L=>
  rw[qk]at w;intro t Hk G T v0 F;refine hv (ck B p) U Hk t L ρ _ T (l.VX G) ?_;have w:WS K E B H Y Z (PQ B K Q) ((jv (fv ρ L)).bind λy X=>match hG x,P8 y with|some k,lD d=>.ok (.rf X.length) (X++[.dd (g9 [] k d)])|_,_=>.bad):=w;cases qv:fv ρ L with
  |er x f=>rw[qv]at w;exact w.elim
  |bad=>rw[qv]at w;exact w.elim
  |ok y f=>
   rw[qv]at w;intro e M I u N C;have w:WS K E B H Y Z (PQ B K Q) (match hG x,P8 y with|some k,lD d=>.ok (.rf f.length) (f++[.dd (g9 [] k d)])|_,_=>.bad):=w;cases q1:hG x with
   |none=>rw[q1]at w;exact w.elim
   |some kd=>
    cases q3:P8 y with
    |none=>rw[q1,q3]at w;exact w.elim
    |some d=>rw[q1,q3]at w;obtain⟨k,b,rfl,rfl,r⟩:=kG q1 (F.VX I);have hy:=F4 q3 C;have m:=(G.trans I).kp p _ aF λ⟨i,c,q,_⟩=>R.ba p (.inr rfl) i q;refine⟨b,k,rfl,m,r.plain,?_⟩;have S:Ev (ow (ck B p) e f) M (ow (ck B p) e f) (bq M p (DkO p (mP [] k b N))):=Ev.mut (.inl (.inr rfl)) _;have A:=zF (r.ev S) (hy.ev S) .nil;have s3:=(u.ahc m).ae0 (c:=.dd (g9 [] k.1 d)) (by intro z;cases z) (by rw[aF];simp) ⟨_,aF,A⟩ hB;have J:Vd Y Z H e f (bq M p (DkO p (mP [] k b N))):=((Vd.same (bO g _)).trans (G.trans I)).dd g;exact w (e++[p]) _ ⟨λi a h=>fD (J.pre i a h),J.kp,λb z=>(uv u.len z).elim (J.lv b) λz=>.inr (by rw[z];exact g)⟩ s3 (.ref p) ⟨p,by rw[<-u.len];exact bH,rfl⟩
end
end L10
namespace L3
open PySem L2
theorem HK{X:Cx}{P:T5}{w:Uu}:gz (L4.lB P w) X E0:=λ_ _ _ _ _ _ _ ⟨_,_,_,_,_,_,_,_,_,_,_,_,_,_,_,_,h⟩=>h.elim
end L3
namespace L10
open PySem PyProof.Rows L2 L3
section
variable{B O O':cg}{K:Tg}{E:XK}{H H' H1 H2:Hp}{α α' Y α2:bg Tt}{Z Z' Z1 Z2:a9}{σ:L2.St}{ρ:bu}{v:V}
def tI(F:jr)(n:Nat)(es:bg D)(fa:z4):cT:=λρ Z=>(fa ρ Z).bind λxs Z1=>if(xs++es.map SV.fz).length=n then jv (F (xs++es.map SV.fz) Z1) else .bad
theorem tU(hd:∀O H,L3.Vl O K H dvs es)(ha:x8 K E ta fa):cG K E (kg (dR K n F) dvs E0 ta) (tI F n es fa):=by
 intro B σ H α Z ρ Q s e w;refine ha B σ H α Z ρ _ s e (w.bind.imp λxs Y Z1 H1 h f b vs g=>?_);by_cases hn:(xs++es.map SV.fz).length=n
 .rw[av hn]at b;have a:=Av g (kW (ow B Y Z1) Y (hd (ow B Y Z1) H1));exact⟨a.length.trans hn,B,Y,Z1,_,f,a,WS.e0 b⟩
 .rw[ax hn]at b;exact b.elim
end
end L10
namespace L10
open PySem L2 L3
def R9(T:A->a9->Prop)(X:Xc->Prop):RS A->Prop
 |.ok a Z=>T a Z
 |.er x _=>X x
 |.bad=>False
structure Out{A:Type}(r:RS A)(T:A->a9->Prop)(X:Xc->Prop):Prop where
 out:R9 T X r
section
variable{A B:Type}{r r':RS A}{T T':A->a9->Prop}{U:B->a9->Prop}{X:Xc->Prop}{Z:a9}
theorem Out.eq(e:r=r')(h:Out r' T X):Out r T X:=by rw[e];exact h
theorem Out.imp(h:Out r T X)(k:∀a Z,T a Z->T' a Z):Out r T' X:=by
 refine⟨?_⟩;have h:=h.out;cases r with
 |bad=>exact h
 |er x o=>exact h
 |ok a o=>exact k a o h
theorem Out.bind(h:Out r (λa o=>Out (f a o) U X) X):Out (r.bind f) U X:=by
 refine⟨?_⟩;have h:=h.out;cases r with
 |bad=>exact h
 |er x o=>exact h
 |ok a o=>exact(show Out (f a o) U X from h).out
theorem Out.all(h:Out r T λ_=>False):∃a o,r=.ok a o/\T a o:=by
 have h:=h.out;cases r with
 |bad=>exact h.elim
 |er x o=>exact h.elim
 |ok a o=>exact⟨a,o,rfl,h⟩
theorem Out.er(h:Out r (λ_ _=>False) X):∃x o,r=.er x o/\X x:=by
 have h:=h.out;cases r with
 |bad=>exact h.elim
 |er x o=>exact⟨x,o,rfl,h⟩
 |ok a o=>exact h.elim
end
section
variable{ρ ρ1 Y:bu}{Z Z1 U Z3:a9}{x y z:SV}{i n:Nat}{d:D}{ds:bg D}{b:Bool}{f g:eV}{fe:cT}{N:bu->a9->Prop}{T:SV->a9->Prop}{X:Xc->Prop}
def S1(N:bu->a9->Prop)(T:SV->a9->Prop):FlS->a9->Prop
 |.nx ρ,Z=>N ρ Z
 |.rt v,Z=>T v Z
 |_,_=>False
abbrev nI(r:RS FlS)(N:bu->a9->Prop)(T:SV->a9->Prop)(X:Xc->Prop):Prop:=Out r (S1 N T) X
theorem lj(h:nI (f ρ Z) (λr o=>nI (g r o) N T X) T X):nI (aO f g ρ Z) N T X:=by
 refine Out.bind (h.imp λa o k=>?_);cases a with
 |nx r=>exact k
 |rt v=>exact⟨k⟩
 |ct r=>exact k.elim
 |bk r=>exact k.elim
theorem BP(a:f ρ Z=.ok (.nx ρ1) Z1)(h:nI (g ρ1 Z1) N T X):nI (aO f g ρ Z) N T X:=lj (.eq a ⟨h⟩)
theorem Af(a:f ρ Z=.ok (.nx ρ1) Z1)(h:N ρ1 Z1):nI (f ρ Z) N T X:=.eq a ⟨h⟩
theorem cP(e:fe ρ Z=.ok x Z1)(a:gt x ρ Z1=.ok ρ1 U)(h:nI (g ρ1 U) N T X):nI (aO (cO fe gt) g ρ Z) N T X:=BP (by unfold cO;rw[e,d0,a,d0]) h
theorem Lj(a:Out (fe ρ Z) (λx Z1=>nI (g (ρ.set i (lD x)) Z1) N T X) X):nI (aO (cO fe (fK i)) g ρ Z) N T X:=lj (Out.bind (a.imp λ_ _ k=>⟨k⟩))
theorem Fp(a:Out (fe ρ Z) (λ_ Z1=>N ρ Z1) X):nI (bV fe ρ Z) N T X:=Out.bind (a.imp λ_ _ k=>⟨k⟩)
theorem tD{j a:eV}(e:c ρ Z=.ok Tw Z1)(h:nI (aO a g ρ Z1) N T X):nI (aO (cA c j a) g ρ Z) N T X:=by refine .eq ?_ h;unfold aO cA;rw[e,d0,ax TV]
theorem oP(h:nI (g ρ Z) N T X):nI (aO cC g ρ Z) N T X:=lj ⟨h⟩
theorem sN(a:fe ρ Z=.ok x Z1)(h:T x Z1):nI (hJ fe ρ Z) N T X:=.eq (jh a) ⟨h⟩
theorem sI(a:xs.map lD++TJ (n - xs.length) Th=ρ)(h:nI (g ρ Z) (λ_ Z'=>T (.fz .none) Z') T X):Out (dg n g xs Z) T X:=by
 unfold dg;rw[a];refine Out.bind (h.imp λe o k=>?_);cases e with
 |nx r=>exact⟨k⟩
 |rt v=>exact⟨k⟩
 |ct r=>exact k.elim
 |bk r=>exact k.elim
theorem E6{b:eV}(I:Nat->bu->a9->Prop)(M:Nat)(j:∀n ρ Z,I n ρ Z->(∃Z1,c ρ Z=.ok Tw Z1/\N ρ Z1)\/(n<M/\∃Z1,c ρ Z=.ok To Z1/\nI (b ρ Z1) (I (n+1)) T X)):∀(m n:Nat) (ρ:bu) (Z:a9),M - n<m->I n ρ Z->nI (uH c b m ρ Z) N T X
 |0,n,_,_,h,_=>by omega
 |m+1,n,ρ,Z,h,h0=>by
  rcases j n ρ Z h0 with⟨Z1,e,p⟩|⟨hn,Z1,e,l⟩
  .refine .eq (show uH c b (m+1) ρ Z=.ok (.nx ρ) Z1 from ?_) ⟨p⟩;show((c ρ Z).bind _)=_;rw[e,d0,ax TV]
  .refine .eq (show uH c b (m+1) ρ Z=(b ρ Z1).bind λa U=>match a with
    |.nx Y=>uH c b m Y U
    |.ct Y=>uH c b m Y U
    |.bk Y=>.ok (.nx Y) U
    |.rt x=>.ok (.rt x) U from ?_) (Out.bind (l.imp λa o k=>?_))
   .show((c ρ Z).bind _)=_
    rw[e,d0,av rfl]
    all_goals (cases b ρ Z1 with
     |bad=>rfl
     |er x o=>rfl
     |ok a o=>cases a<;>rfl)
   .cases a with
    |nx r=>exact E6 I M j m (n+1) r o (by omega) k
    |rt v=>exact⟨k⟩
    |ct r=>exact k.elim
    |bk r=>exact k.elim
theorem Fo{b:eV}(I:Nat->bu->a9->Prop)(M:Nat)(h:M<1000000)(e:I 0 ρ Z)(a:∀n ρ Z,I n ρ Z->(∃Z1,c ρ Z=.ok Tw Z1/\N ρ Z1)\/(n<M/\∃Z1,c ρ Z=.ok To Z1/\nI (b ρ Z1) (I (n+1)) T X)):nI (AD c b ρ Z) N T X:=E6 I M a 1000000 0 ρ Z (by omega) e
theorem rM{b:eV}(I:Nat->bu->a9->Prop):∀(ds:bg D) (k:Nat) (ρ:bu) (Z:a9),I k ρ Z->(∀i d ρ Z,ds[i]?=lD d->I (k+i) ρ Z->∃ρ1 Z1,gt (.fz d) ρ Z=.ok ρ1 Z1/\nI (b ρ1 Z1) (I (k+i+1)) T X)->nI (gP gt b ds ρ Z) (I (k+ds.length)) T X
 |[],k,ρ,Z,h0,_=>⟨h0⟩
 |d::r,k,ρ,Z,h0,hs=>by
  obtain⟨ρ1,Z1,w,u⟩:=hs 0 d ρ Z rfl h0;have l:∀a p,I (k+1) a p->nI (gP gt b r a p) (I (k+(r.length+1))) T X:=λa p h=>by
   have e:k+(r.length+1)=k+1+r.length:=by omega
   rw[e];refine rM I r (k+1) a p h λi A j q hi t=>?_;have e:k+1+i=k+(i+1):=by omega
   rw[e]at t⊢;exact hs (i+1) A j q (by simpa using hi) t
  refine .eq (show gP gt b (d::r) ρ Z=(b ρ1 Z1).bind λm U=>match m with
   |.nx Y=>gP gt b r Y U
   |.ct Y=>gP gt b r Y U
   |.bk Y=>.ok (.nx Y) U
   |.rt x=>.ok (.rt x) U from ?_) (Out.bind (u.imp λm o k=>?_))
  .show((gt (.fz d) ρ Z).bind _)=_
   rw[w,d0]
   all_goals (cases b ρ1 Z1 with
    |bad=>rfl
    |er x o=>rfl
    |ok m o=>cases m<;>rfl)
  .cases m with
   |nx r=>exact l _ _ k
   |rt v=>exact⟨k⟩
   |ct r=>exact k.elim
   |bk r=>exact k.elim
theorem Br{b:eV}(I:Nat->bu->a9->Prop)(hi:fi ρ Z=.ok ds Z1)(h:I 0 ρ Z1)(a:∀i d ρ Z,ds[i]?=lD d->I i ρ Z->∃ρ1 Z1,gt (.fz d) ρ Z=.ok ρ1 Z1/\nI (b ρ1 Z1) (I (i+1)) T X)(e:∀ρ' Z',I ds.length ρ' Z'->N ρ' Z'):nI (uD fi gt b ρ Z) N T X:=by
 have:=rM I ds 0 ρ Z1 h (by simpa using a);rw[Wx]at this;refine .eq ?_ (this.imp λj o k=>?_)
 .unfold uD;rw[hi,d0]
 .cases j with
  |nx r=>exact e _ _ k
  |rt v=>exact k
  |ct r=>exact k.elim
  |bk r=>exact k.elim
theorem CN(a:fo ρ Z=.ok (.rf i) Z1)(h:Z1[i]?=lD (.obj C fs))(hm:fs.lookup m=Th)(ha:fa ρ Z1=.ok xs U)(hn:(SV.rf i::xs).length=n):uj C m F n fo fa ρ Z=F (.rf i::xs) U:=by
 have e:mn Z1 C m (.rf i)=To:=by unfold mn;dsimp only;rw[h];dsimp only;rw[hm];simp
 unfold uj;rw[a,d0,av e,ha,d0,av hn]
theorem Nx(ha:fa ρ Z=.ok xs Z1)(hn:(SV.rf Z1.length::xs).length=n):HI C F n fa ρ Z=(F (.rf Z1.length::xs) (Z1++[.obj C []])).bind λr U=>(if EF r=To then .ok (.rf Z1.length) U else .bad):=by unfold HI;rw[ha,d0];unfold uS;rw[av hn]
theorem Fv(ha:fa ρ Z=.ok xs Z1)(hn:(xs++es.map SV.fz).length=n):Dn F n es fa ρ Z=F (xs++es.map SV.fz) Z1:=by unfold Dn;rw[ha,d0,av hn]
theorem vD(ha:fa ρ Z=.ok xs Z1)(hn:(xs++es.map SV.fz).length=n)(a:F (xs++es.map SV.fz) Z1=.ok x U):tI F n es fa ρ Z=.ok x U:=by unfold tI;rw[ha,d0,av hn,a];rfl
theorem Ee{c f:Str}(h:fe ρ Z=.ok (.fz d) Z1)(hd:L9.Qy d=To):rN c f fe ρ Z=.er ⟨c,[(f,d)]⟩ Z1:=by unfold rN;rw[h,d0];dsimp only;rw[av hd]
end
end L10
namespace L3
open PySem PyProof.Rows L2
section
variable{P:T5}{w:Uu}{K:Tg}{mg:Str->br Ti}{base h:Heap}{f T:Tt}{n:Str}{t:VH}{ps:bg Str}{Y:Nat}{sp:Sp}{U:xC}{Z:Array Ti}
theorem NI.aiS(i:NI K f n t)(X:K.In h)(G:h.Ns TZ mg)(b:BA n n t ps)(ok:∀fd,WL K n n t f fd->FnOk P w K mg base U Y f fd ps sp):si P w K mg base U Y n ps [] sp:=
 let⟨fd,z⟩:=i.F;⟨f,fd,[],ok fd z,z.binds b,.nil,z.kp,Vu X G i.a⟩
structure DI(K:Tg)(f T:Tt)(n:Str)(t:VH)(Z:Array Ti):Prop where
 a:T7 K TZ n=lD (lD (.ref f))
 F:∃fd,aaR K n n t f fd T Z
theorem J4{x a:Str}{st:VH}{q:Ti}{p:br Tt}{kV b i:Ti}{j:br Tt}{g ct:Ti}{e:Array (br Ti)}{o:Ti}{m:br Tt}{k:Nat}{l:Array (br Ti)}
  (r:K.lookup f=lD ⟨q,p,.func (Va x a (gj st) (cr st) (aB st) (.ref T) kV b i j g ct),e⟩) (v:Xs K g a=To) (u:Vm K (.ref f)=To) (lt:K.lookup T=lD ⟨o,m,.seq Z k,l⟩):aaR K x a st f (Va x a (gj st) (cr st) (aB st) (.ref T) kV b i j g ct) T Z:=
 ⟨⟨_,_,_,_,_,_,_,_,_,rfl,r,v⟩,u,_,_,lt,rfl⟩
def BD(n:Str)(t:VH)(T:Tt)(Z:Array Ti)(ps:bg Str)(ds:bg Ti):Prop:=∀(kV b e:Ti) (g:br Tt) (i ct:Ti) (a:bg Ti),(a++ds).length=ps.length->∃k:br (Array Ti)->Sem (bg (Str×Ti)),bindArgs (Va n n (gj t) (cr t) (aB t) (.ref T) kV b e g i ct) ⟨a,[]⟩=seqItems? (.ref T)>>=k/\k (lD Z)=pure (ps.zip (a++ds))
theorem DI.cal{ds:bg Ti}{dvs:bg V}(i:DI K f T n t Z)(X:K.In h)(G:h.Ns TZ mg)(e:BD n t T Z ps ds)(b:Vals dvs ds)(ok:∀fd,aaR K n n t f fd T Z->FnOk P w K mg base U Y f fd ps sp):si P w K mg base U Y n ps dvs sp:=
 let⟨fd,z⟩:=i.F;⟨f,fd,ds,ok fd z,z.binds e,b,z.kp,Vu X G i.a⟩
end
structure Tp(P:T5)(w:Uu)(K:Tg)(mg:Str->br Ti)(base h:Heap):Prop where
 X:K.In h
 G:h.Ns TZ mg
section
variable{P:T5}{w:Uu}{K:Tg}{mg:Str->br Ti}{base h:Heap}{f C T:Tt}{n m q:Str}{t:VH}{ps fs:bg Str}{Z:Nat}{sp:Sp}{Y:xC}{U:Array Ti}
theorem NI.c(i:NI K f n t)(W:Tp P w K mg base h)(ok:∀fd,WL K n n t f fd->FnOk P w K mg base dD Z f fd ps sp)(a:BA n n t ps:=by fail "ba"):yX P w K mg base Z n ps sp:=i.cal W.X W.G a ok
theorem NI.d(i:NI K f n t)(W:Tp P w K mg base h)(ok:∀fd,WL K n n t f fd->FnOk P w K mg base Y Z f fd ps sp)(a:BA n n t ps:=by fail "ba"):si P w K mg base Y Z n ps [] sp:=i.aiS W.X W.G a ok
theorem MI.mt(i:MI K C f m q t)(c:CI K C n fs)(W:Tp P w K mg base h)(ok:∀fd,WL K m q t f fd->FnOk P w K mg base Y Z f fd ps sp)(a:BA m q t ps:=by fail "ba"):L10.ci P w K mg base Y Z n m ps sp:=i.ag8 c a ok
theorem MI.k(i:MI K C f "__init__" q t)(c:CI K C n fs)(W:Tp P w K mg base h)(ok:∀fd,WL K "__init__" q t f fd->FnOk P w K mg base Y Z f fd ps sp)(a:BA "__init__" q t ps:=by fail "ba"):L10.zX P w K mg base Y Z n ps sp:=i.aiL c W.X W.G a ok
theorem DI.c{ds:bg Ti}{dvs:bg V}(i:DI K f T n t U)(W:Tp P w K mg base h)(a:Vals dvs ds)(ok:∀fd,aaR K n n t f fd T U->FnOk P w K mg base Y Z f fd ps sp)(b:BD n t T U ps ds:=by fail "bd"):si P w K mg base Y Z n ps dvs sp:=i.cal W.X W.G b a ok
end
end L3
namespace LD
open PySem PySem.Spec PyProof.Rows L2 L3
section
variable{prog:T5}{w:Uu}{K:Type}[DecidableEq K]{knd:aiA prog w K}{A:Uk}{E:Ti->Tv->Prop}{s:Tv}
theorem Ay(d:Tt)(hd:(d==U3)=Tw):MeetsIn prog w (Ul.«dict.__len__» ⟨[.ref d],[]⟩) (λ_ R s=>∃xs,s.heap.DictOfH knd d xs/\R (.ok (.ret (.int xs.length s.toks))) {s with toks:=s.toks+1}):=
 .of_wp λA R s ⟨xs,hm,h⟩=>by obtain⟨o,i,j,b,g,a,f,e,hn⟩:=hm;show wpAny _ _ (dictSize d>>=_) _ _ s;refine Ld (Ld (Vy b a (Tr ?_)));refine Ld (wpAny_pendingCount_other hd ?_);refine wpAny_ret_mkInt ?_;rw[Nat.add_zero,aba f];exact h
theorem FX(hd:(d==U3)=Tw)(hm:s.heap.DictOfH knd d xs)(a:(xs.length:Int)<2^63)
  (h:Q (.int xs.length (s.toks+1)) {s with toks:=s.toks+1+1}):wpAny (model prog w) A (call (.builtin "len") [.ref d]) Q E s:=by
 refine Calls.call_function_entry kind_len plain_len entry_len (args_len1 _) ?_;refine Ld (Tr ?_);refine Ld (UR hm.typeIs aa2
  (aav aa2 hm.typeIs PySem.F.entry_dict_len (PySem.F.args_dict_len_1 _) (Ay d hd) ⟨xs,hm,?_⟩))
 refine Ld (UY (Tr ?_));refine Ld (WH ?_);rw[ax (by omega)];rw[ax (by omega)];exact Ld (adW (Tr ⟨_,rfl,h⟩))
end
def Je(K:Tg):bg V->Hp->(V->Hp->Prop)->Prop:=λxs H Q=>∃a Ub,xs=[V.ref a]/\H a=lD (DkO a Ub)/\oA K H Ub/\Q (.int Ub.length) H
theorem aal:Wj X (.builtin "len") (Je X.K):=by intro e s j H xs m Q I r h;obtain⟨a,Ub,rfl,ha,g,q⟩:=h;obtain⟨u,rfl,f⟩:=iV r;cases f;obtain⟨z,i,l,b,dd⟩:=nY I ha g;refine FX i dd (by rw[<-Paired.length b];rw[Vr]at z;omega) ?_;rw[<-Paired.length b];exact⟨.int Ub.length,H,I.tok _,⟨_,rfl⟩,q⟩
end LD
namespace L10
open PySem PyProof.Rows L2 L3 LD
section
variable{B O O':cg}{K:Tg}{E:XK}
def rY(fd:cT):cT:=λρ Z=>(fd ρ Z).bind λo a=>(RS.UB a (jg a o)).bind λp a=>.ok (.fz (.int p.2.length)) a
theorem vv(hd:cG K E td fd):cG K E (yG (Je K) (fy td jK)) (rY fd):=by intro B h H α Z ρ Q s j w;refine hd B h H α Z ρ _ s j (w.bind.imp λo b q r p f e u m=>?_);obtain⟨⟨i,Ub⟩,l,e⟩:=WS.UB e;obtain⟨_,a,xs,ha,rfl,n,g⟩:=nK f m l;refine⟨a,xs,rfl,n,qI g,?_⟩;rw[Paired.length g];exact e b _ .refl f _ (.int _)
end
end L10
namespace LD
open PySem PyProof.Rows L2 L3 L10
section
variable{prog:T5}{w:Uu}{A:Uk}{E:Ti->Tv->Prop}{s:Tv}
theorem Lu{d:Tt}{o:Obj}{es:Array VN}{a:Nat}{Q:Ti->Tv->Prop}(nd:(d==U3)=Tw)(g:s.heap.get? d=lD o)(c:o.ExactDict)(e:o.data=.dict es a)
  (q:Q (.ref s.heap.objs.size) {s with heap:=s.heap.push {cls:=.type "dict_keyiterator",data:=.fields #[.ref d,.int 0 0,.int es.size 0,.int a 0]}}):wpAny (model prog w) A (pyIter (.ref d)) Q E s:=by
 have ty:s.TypeIs (.ref d) "dict":=⟨o,g,c.1⟩;refine wpAny_pyIter_slot ty F.slot_dict_iter (UZ F.slot_dict_iter ty F.entry_dict_iter ?_ (F.args_dict_iter_1 _));unfold Ul.«dict.__iter__» Ul.Dict.dictSlotNone;refine Ld (Ld (Y9 ty (Tr ?_)));show wpAny _ _ (Ul.Dict.showsAll d>>=_) _ _ s;unfold Ul.Dict.showsAll;rw[ax (by rw[nd];exact TV)];refine Ld (Tr (Ld (Vy g e (Ld (XJ g e ?_)))));refine Ld (UG (Tr ⟨_,rfl,"dict_keyiterator",_,⟨_,b5 _ rfl,rfl⟩,F.slot_dict_keyiterator_next.lookup,?_⟩))
 simpa [rawInt] using q
theorem Lk{a d:Tt}{o:Obj}{es:Array VN}{i h:Nat}{x:VN}{Q:br Ti->Tv->Prop}(b:s.heap.IsKeyIter a d i es.size h)(g:s.heap.get? d=lD o)(e:o.data=.dict es h)(n:es[i]?=lD x)
  (q:∀h',h'.IsKeyIter a d (i+1) es.size h->Heap.SameBut a s.heap h'->Q (lD x.key) {s with heap:=h'}):wpAny (model prog w) A (pyNext (.ref a)) Q E s:=by
 obtain⟨t,j,p,f⟩:=id b;unfold pyNext;refine Ld (ZY (UR (name:=Str.ofString "__next__") b.typeIs F.slot_dict_keyiterator_next (UZ F.slot_dict_keyiterator_next b.typeIs F.entry_dict_keyiterator_next ?_ (F.args_dict_keyiterator_next_1 _))));refine Ld (Tr (Ld (Ld ?_)));refine Ld (Wd b.typeIs (Tr (Ld (aiB j f ?_))));have m:Ul.Dict_items.ownsTuple "dict_keyiterator"=Tw:=by decide
 simp only[m,Vh,if_false];show wpAny _ _ (if(Ti.ref d==Ti.none)=To then _ else _) _ _ s;rw[ax (show¬((Ti.ref d==Ti.none)=To) from TV)];refine Ld (Tr (Ld (Vy g e ?_)));rw[ax (by simp)];refine Ld (Tr (Ld (XJ g e ?_)));rw[ax (by simp)];refine Tr ?_;simp only[show¬((i:Int)<0) from by omega,if_false,UX,n];refine Ld (Ld (Wd b.typeIs (Tr ?_)));refine Ld (adL b.typeIs ?_);show wpAny _ _ (setField (.ref a) 1 (rawInt ((i:Int)+1))>>=_) _ _ s;refine Ld (Vt j f (by simp) ?_)
 have l:(s.heap.update a (Obj.mapFields (·.setIfInBounds 1 (rawInt ((i:Int)+1))))).IsKeyIter a d (i+1) es.size h:=
  ⟨_,b9 _ j (da (c9 f _)),(Obj.cls_mapFields ..).trans p,by rw[c9 f];simp[rawInt]⟩
 refine Ld (UY (Ld (adL (s:={s with heap:=s.heap.update a (Obj.mapFields (·.setIfInBounds 1 (rawInt ((i:Int)+1))))}) l.typeIs ?_)));show wpAny _ _ (pure x.key) _ _ _;exact Tr (Tr ⟨_,rfl,Tr (q _ l (Heap.SameBut.update ..))⟩)
theorem PD{h d:Tt}{o:Obj}{es:Array VN}{i n:Nat}{Q:br Ti->Tv->Prop}(u:A.handled=Th)(f:s.heap.IsKeyIter h d i es.size n)(g:s.heap.get? d=lD o)(e:o.data=.dict es n)(r:es.size<=i)
  (q:∀h',Heap.ExtBut h s.heap h'->Q Th {s with heap:=h'}):wpAny (model prog w) A (pyNext (.ref h)) Q E s:=by
 obtain⟨t,l,v,j⟩:=id f;unfold pyNext;refine Ld (ZY (UR (name:=Str.ofString "__next__") f.typeIs F.slot_dict_keyiterator_next (UZ F.slot_dict_keyiterator_next f.typeIs F.entry_dict_keyiterator_next ?_ (F.args_dict_keyiterator_next_1 _))));refine Ld (Tr (Ld (Ld ?_)));refine Ld (Wd f.typeIs (Tr (Ld (aiB l j ?_))));have p:Ul.Dict_items.ownsTuple "dict_keyiterator"=Tw:=by decide
 simp only[p,Vh,if_false];show wpAny _ _ (if(Ti.ref d==Ti.none)=To then _ else _) _ _ s;rw[ax (show¬((Ti.ref d==Ti.none)=To) from TV)];refine Ld (Tr (Ld (Vy g e ?_)));rw[ax (by simp)];refine Ld (Tr (Ld (XJ g e ?_)));rw[ax (by simp)];refine Tr ?_;simp only[show¬((i:Int)<0) from by omega,if_false,UX,Array.getElem?_eq_none r];refine Ld (Ld (Wd f.typeIs (Tr ?_)));show wpAny _ _ (setField (.ref h) 0 .none>>=_) _ _ s;refine Ld (Vt l j (by simp) ?_);show wpAny _ _ (newExc (.type "StopIteration") []>>=_) _ _ _;simp only[newExc,newTuple];refine Ld (Ld (UG ?_ (by size_fits)));refine Ld (m:=firstArgMember _ _) (Zn (a:=Ti.none) (by first|rfl|(simp only[firstArgMember];rfl)) ?_);refine UG ?_ (by size_fits);simp only[raiseNew];refine Ld (akr ?_);rw[show A.in1.handled=Th from u];refine Ld (Tr (wpAny_throw ?_));refine Ld (Xt (T:= "StopIteration") (b:=To) ⟨_,b5 _ rfl,rfl⟩ aiy ?_);exact Tr (q _ (((Heap.SameBut.update ..).extBut.push _).push _))
end
theorem sM{α a:Type}{R:α->a->Prop}:∀{xs:bg α} {ys:bg a} {i:Nat} {x:α},Paired R xs ys->xs[i]?=lD x->∃y,ys[i]?=lD y/\R x y
 |_,_,_,_,.nil,e=>by simp at e
 |_,_,0,_,.cons h _,e=>by simp at e;subst e;exact⟨_,rfl,h⟩
 |_,_,i+1,_,.cons _ t,e=>by obtain⟨y,f,b⟩:=sM (i:=i) t (by simpa using e);exact⟨y,by simpa using f,b⟩
def x5(a:Tt)(vs:bg V):HO:=.ext λh=>vs.length<=TL/\∃(b:bg Ti) (n:Nat),Vals vs b/\h.get? a=lD {cls:=.type "list",data:=.seq b.toArray n}
theorem Qp{P:T5}{w:Uu}{H H':Hp}{h:Heap}{a:Tt}{vs:bg V}(o:ObjOk P w H' h a (.lst vs)):ObjOk P w H h a (x5 a vs):=by obtain⟨z,b,n,r,g⟩:=o;refine⟨⟨z,b,n,r,g⟩,⟨_,g⟩,?_⟩;rintro f e ⟨z,b,n,r,g⟩ k;exact⟨z,b,n,r,k _ g⟩
theorem OC{P:T5}{w:Uu}{H H':Hp}{h:Heap}{a:Tt}{vs:bg V}(o:ObjOk P w H h a (x5 a vs)):ObjOk P w H' h a (.lst vs):=o.1
def Sk(a:Tt)(vs:bg V):It:=
 ⟨λi H=>H a=lD (x5 a vs)/\i<vs.length,λi H x b=>b=H/\vs[i]?=lD x,λi H=>H a=lD (x5 a vs)/\vs.length<=i⟩
theorem Kk{P:T5}{w:Uu}{K:Tg}{T:UD}(a l:Tt)(vs:bg V):Turn P w K T (Sk a vs) [l] l (λi h=>h.IsListIter l a i) where
 mem:=by simp
 obj:=λi h f b m=>by
  have e:b=l:=by simpa using m
  subst e;obtain⟨o,e,c,d⟩:=f;exact⟨o,e,λv z=>by rw[d]at z;cases z⟩
 keep:=λi h t f k=>f.at λo e=>k l (by simp) o e
 item:=by intro X C y F R i j s O H E I q f A;subst C y F;obtain⟨B,hi⟩:=A;obtain⟨⟨z,S,n,r,g⟩,_,_⟩:=(show ObjOk X.prog X.w H s.heap a (x5 a vs) from I.UW a _ B);obtain⟨x,Q⟩:∃x,vs[i]?=lD x:=⟨vs[i],TK hi⟩;obtain⟨u,Z,Y⟩:=r.get Q;obtain⟨N,M,f2,L,J,G⟩:=q l (by simp);refine acY f ⟨_,g,rfl,n,rfl⟩ (by simpa using Z) λt p U=>?_;have I1:Inv X j O H {s with heap:=t}:=I.turned (t':=s.toks) (λb o m e=>(U.2 b m).trans e) N M L J G;obtain⟨o,e,c,d⟩:=id p;exact⟨u,rfl,DC (s:={s with heap:=t}) e c d (by decide) ⟨x,H,I1,Y,⟨rfl,Q⟩,p,λb m=>(q b m).1⟩⟩
 done:=by intro X C y F R i j s O H E I q f A;subst C y F;obtain⟨B,hi⟩:=A;obtain⟨⟨z,S,n,r,g⟩,_,_⟩:=(show ObjOk X.prog X.w H s.heap a (x5 a vs) from I.UW a _ B);obtain⟨N,M,f2,L,J,G⟩:=q l (by simp);have hl:=r.length;exact adD (I.ok.hd R) f ⟨_,g,rfl,n,rfl⟩ (by simp;omega) λt eb=>⟨rfl,I.turned (t':=s.toks) (λb o m e=>eb b o m e) N M L J G⟩
 self:=λ_ _ _ _ _ f h=>adE f h
def M3(f:TE):TI:=λe H R=>f e H λx b=>∃a vs,x=.ref a/\b a=lD (.lst vs)/\R (Sk a vs) (bq b a (x5 a vs))
def MY(t:TS):TS:=λD f H=>t {nx:=λe b=>∃a vs,b a=lD (x5 a vs)/\D.nx e (bq b a (.lst vs)),rt:=λv b=>∃a vs,b a=lD (x5 a vs)/\D.rt v (bq b a (.lst vs)),bk:=λ_ _=>False,ct:=λ_ _=>False} f H
section
variable{X:Cx}{tg:UD}
theorem yp{f:bg (Tt×Obj)}{h:L2.St}{H:Hp}{s:Tv}{a:Tt}{vs:bg V}(I:Inv X f h H s)(hd:H a=lD (x5 a vs)):Inv X f h (bq H a (.lst vs)) s:=by have o:=(show ObjOk X.prog X.w H s.heap a (x5 a vs) from I.UW a _ hd);obtain⟨⟨z,i,n,r,g⟩,_,_⟩:=id o;exact I.write (x:=a) (e:=a) (o:=.lst vs) (t':=s.toks) (h':=s.heap) (by rw[hd];trivial) (.inl rfl) (λb u _ e=>e) ⟨_,g⟩ (OC o)
theorem ad5{l:UD}{p:TE}(F:PE X l p):PI X tg l (M3 p):=by
 intro i s A H R I h;refine cz (F i s A H _ I h) λv f ⟨x,y,m,B,C⟩=>?_;obtain⟨a,vs,e,j,q⟩:=C;subst e;cases B;have E:ObjOk X.prog X.w y f.heap a (.lst vs):=m.UW a _ j;obtain⟨z,J,n,r,g⟩:=id E;refine WT ⟨_,g,rfl,n,rfl⟩ ?_;have k:∀b o,f.heap.get? b=lD o->(f.heap.push {cls:=.type "list_iterator",data:=.fields #[.ref a,.int 0 0]}).get? b=lD o:=λb o e=>bt _ e;have t:=m.kept (t':=f.toks) k;have I3:=t.write (x:=a) (e:=a) (o:=x5 a vs) (t':=f.toks) (h':=f.heap.push {cls:=.type "list_iterator",data:=.fields #[.ref a,.int 0 0]}) (by rw[j];trivial) (.inl rfl) (λb u _ e=>e) ⟨_,k _ _ g⟩ (Qp (show ObjOk X.prog X.w y _ a (.lst vs) from t.UW a _ j));refine⟨f.heap.objs.size,[f.heap.objs.size],_,_,_,rfl,I3,Kk a _ vs,⟨_,b5 _ rfl,rfl,rfl⟩,λb G=>?_,q⟩;have e:b=f.heap.objs.size:=by simpa using G
 subst e;have hn:=m.UW.fresh (TB f.heap.objs.size);refine m.abN (TB _) ?_;rw[az (λz=>by rw[z,j]at hn;cases hn)];exact hn
theorem ad4{st:VH}{t:TS}(h:PS X st t):PS X st (MY t):=by
 intro e s j H D I w;refine cz (h e s j H _ I w) λf m q=>?_;cases f with
 |next=>obtain⟨b,l,i,a,vs,g,q⟩:=q;exact⟨b,_,yp i g,q⟩
 |brk=>obtain⟨_,_,_,q⟩:=q;exact q.elim
 |cont=>obtain⟨_,_,_,q⟩:=q;exact q.elim
 |ret u=>obtain⟨v,b,l,i,r,a,vs,g,q⟩:=q;exact⟨v,b,_,yp i g,r,q⟩
end
def ady(Z:a9):SV->br (Nat×bg SV)
 |.rf i=>match Z[i]? with
  |some (.lst xs)=>lD (i,xs)
  |_=>Th
 |_=>Th
section
variable{B O O':cg}{K:Tg}{E:XK}{H H' U N:Hp}{Q T Y X:bg Tt}{Z M Z1 S:a9}{P:L2.St}{ρ:bu}{v:V}{a:Tt}{φ:Heap->Prop}
theorem JA{x:SV}{i:Nat}{xs:bg SV}(s:StoOk B K H Q Z)(b:Ws (ow B Q Z) K H Q v x)(h:ady Z x=lD (i,xs)):Z[i]?=lD (.lst xs)/\∃a vs,Q[i]?=lD a/\v=.ref a/\H a=lD (.lst vs)/\VZ (ow B Q Z) K H Q vs xs:=by
 cases x with
 |fz d=>cases h
 |tp l=>cases h
 |rf j=>
  obtain⟨a,ha,rfl⟩:=b;unfold ady at h;dsimp only at h;cases q:Z[j]? with
  |none=>rw[q]at h;cases h
  |some c=>
   rw[q]at h;cases c with
   |lst g=>have z:=TQ h;cases z;obtain⟨ws,f,e⟩:=s.ZU i a _ ha q;exact⟨q,a,ws,ha,rfl,f,e⟩
   |_=>cases h
theorem LP(s:StoOk B K H Q Z){i:Nat}{vs:bg V}{xs:bg SV}(ha:Q[i]?=lD a)(l:H a=lD (.ext φ))(m:VZ (ow B Q Z) K H Q vs xs):StoOk B K (bq H a (.lst vs)) Q (Z.set i (.lst xs)):=by
 have e:Ji a (ow B Q Z) H (ow B Q (Z.set i (.lst xs))) (bq H a (.lst vs)):=CU s ha;refine⟨by rw[UJ];exact s.len,s.nd,λb h=>nU (s.bn b h),s.ba,λj b h=>nU (s.al j b h),λj b d f g=>?_⟩;rcases b4 g with⟨rfl,rfl⟩|⟨n,g⟩
 .rw[ha]at f;cases f;exact⟨vs,aF,Paired.Xg m λ_ _ q=>Ws.ZV l e q⟩
 .exact(s.ZU j b d f g).ZV l e λu q=>by rw[az (λz=>n (s.nd j i a (by rw[<-z];exact f) ha))];exact q
theorem IP{i:Nat}{ws:bg V}{xs ys:bg SV}(ha:Y[i]?=lD a)(r:Z1[i]?=lD (.lst xs))(m:Vd Y Z1 U Y (Z1.set i .dead) N)(e:Vd Y (Z1.set i .dead) N T M H')(p:StoOk B K H' T M)(l:T[i]?=lD a):Vd Y Z1 U T (M.set i (.lst ys)) (bq H' a (.lst ws)):=by
 have f:Lv Y Z1 a:=⟨i,_,ha,r,by intro z;cases z⟩;refine⟨e.pre,λb o h g=>?_,λb z=>?_⟩
 .have j:b≠a:=λz=>g (by rw[z];exact f);rw[az j];exact e.kp b o (m.kp b o h g) λz=>g (rD z)
 .rcases Gv p l z with rfl|z
  .exact .inl f
  .rcases e.lv b z with z|z
   .exact .inl (rD z)
   .by_cases j:b=a
    .rw[j];exact .inl f
    .cases q:U b with
     |none=>exact .inr rfl
     |some o=>refine .inl (Classical.byContradiction λn=>?_);rw[m.kp b o q n]at z;cases z
theorem OB{i:Nat}{vs:bg V}{xs:bg SV}{ds:bg D}(g:StoOk B K U Y Z1)(ha:Y[i]?=lD a)(h:Z1[i]?=lD (.lst xs))(r:VZ (ow B Y Z1) K U Y vs (ds.map .fz)):
  StoOk B K (bq U a (x5 a vs)) Y (Z1.set i .dead)/\Vd Y Z1 U Y (Z1.set i .dead) (bq U a (x5 a vs))/\wo K (Sk a vs) (ow B Y (Z1.set i .dead)) (bq U a (x5 a vs)) ds:=by
 have nd:(Cell.lst xs)≠.dead:=by intro z;cases z
 have n:StoOk B K (bq U a (x5 a vs)) Y (Z1.set i .dead):=g.pin ha h nd;have m:Vd Y Z1 U Y (Z1.set i .dead) (bq U a (x5 a vs)):=Vd.pin ha h nd;have q:¬ow B Y (Z1.set i .dead) a:=g.ab7 ha;have b:L3.Vl (ow B Y (Z1.set i .dead)) K (bq U a (x5 a vs)) vs ds:=A1 (VZ.VX m r);refine⟨n,m,?_⟩;intro O' H' e u;have l:=(e a _ aF q).1;have f:=b.ev e;have w:vs.length=ds.length:=b.length;refine⟨λj A=>⟨⟨l,by omega⟩,?_⟩,l,by omega⟩;rintro y t ⟨rfl,hy⟩;obtain⟨d,p,o⟩:=f.aef hy;exact⟨Vp.refl _,d,p,o⟩
theorem Ii{g:TG}{gt:AH}{tb:TS}{b:eV}{J:It}{ds:bg D}{D:Ends}(hg:JP K E g gt)(hb:mq K E tb b)(s1:StoOk B K U Y Z1)(I:Wn (ow B Y Z1) K U Y P ρ)(it:wo K J (ow B Y Z1) U ds)(w1:WS K E B U Y Z1 (ml B K D) (gP gt b ds ρ Z1)):Gx (λP H R=>R J H) g tb D P U:=by
 refine⟨λi m f H'=>m=ds.length - i/\i<=ds.length/\∃X S ρ2,Vd Y Z1 U X S H'/\StoOk B K H' X S/\Wn (ow B X S) K H' X f ρ2/\WS K E B H' X S (ml B K D) (gP gt b (ds.drop i) ρ2 S),⟨_,rfl,Ur _,Y,Z1,ρ,.refl,s1,I,w1⟩,?_⟩;rintro i m n N ⟨rfl,hi,X,S,ρ2,e2,s2,sl2,w2⟩;obtain⟨go,o⟩:=it (ow B X S) N e2.ev s2.noO;by_cases u:i<ds.length
 .obtain⟨g1,g2⟩:=go i u
  refine .inr ⟨g1,λf H'=>i+1<=ds.length/\∃X S ρ2,Vd Y Z1 U X S H'/\StoOk B K H' X S/\Wn (ow B X S) K H' X f ρ2/\WS K E B H' X S (ml B K D) (gP gt b (ds.drop (i+1)) ρ2 S),λf H' ⟨h1,h2⟩=>⟨ds.length - (i+1),by omega,rfl,h1,h2⟩,λx H3 y=>?_⟩;obtain⟨s3,d,hd,dv⟩:=g2 x H3 y;have ed:ds.drop i=d::ds.drop (i+1):=by obtain⟨_,q⟩:=Tn.mp hd;rw[Ve u,q]
  rw[ed]at w2;have L:Vd X S N X S H3:=Vd.same s3;refine hg B n H3 X S ρ2 x (.fz d) _ (s2.grow s3) (sl2.VX L) dv (WS.imp (WS.bind (WS.from L w2)) λC F Z4 H4 e4 s4 w3 A G=>?_);refine hb B A H4 F Z4 C _ s4 G (WS.imp (WS.bind w3) λfl j Z5 H5 e5 t r=>?_);have p:Vd Y Z1 U j Z5 H5:=e2.trans (L.trans (e4.trans e5));cases fl with
  |nx h=>exact λw l=>⟨u,j,Z5,h,p,t,l,r⟩
  |ct h=>exact λw l=>⟨u,j,Z5,h,p,t,l,r⟩
  |bk h=>exact WS.now (E:=E) t r
  |rt x=>exact WS.now (E:=E) t r
 .have e:i=ds.length:=by omega
  subst e;rw[Vc (TB _)]at w2;exact .inl ⟨o,WS.now (E:=E) s2 w2 n sl2⟩
def ack(fd:cT)(gt:AH)(b:eV):eV:=λρ Z=>(fd ρ Z).bind λo Z1=>(RS.UB Z1 (ady Z1 o)).bind λp Z1=>(RS.UB Z1 (aL wk p.2)).bind λds Z1=>(gP gt b ds ρ (Z1.set p.1 .dead)).bind λe S=>match e with
 |.nx ρ2=>.ok (.nx ρ2) (S.set p.1 (.lst p.2))
 |.rt x=>.ok (.rt x) (S.set p.1 (.lst p.2))
 |_=>.bad
theorem adf{C:TE}{g:TG}{tb:TS}{fd:cT}{gt:AH}{b:eV}(hd:cG K E C fd)(hg:JP K E g gt)(hb:mq K E tb b):mq K E (MY (Gx (M3 C) g tb)) (ack fd gt b):=by
 intro B P H Q Z ρ D s F w;refine hd B P H Q Z ρ _ s F (WS.imp (WS.bind w) λo Y Z1 U e1 A f u hu=>?_);obtain⟨⟨i,ys⟩,q2,f⟩:=WS.UB f;obtain⟨ds,qd,f⟩:=WS.UB f;obtain⟨G,a,vs,ha,rfl,g1,I⟩:=JA A hu q2;refine⟨a,vs,rfl,g1,?_⟩;have g3:VZ (ow B Y Z1) K U Y vs (ds.map .fz):=by rw[<-xP qd];exact I
 obtain⟨R,t,it⟩:=OB A ha G g3;have na:¬ow B Y (Z1.set i .dead) a:=A.ab7 ha;refine Ii hg hb R ((F.VX e1).VX t) it ?_;dsimp only at f;cases qr:gP gt b ds ρ (Z1.set i .dead) with
 |bad=>rw[qr]at f;exact f.elim
 |er x r=>rw[qr]at f;exact λc dx T H' e q L=>f c dx T H' (t.trans e) q L
 |ok fl r=>
  rw[qr]at f;intro T H' e q;have l:=e.kp a _ aF λz=>na (.inr z);have n:=e.pre i a ha;have bk:=IP (ws:=vs) (ys:=ys) ha G t e q n;have rv:=LP q n l ((VZ.VX t I).VX e);have J:Ji a (ow B T r) H' (ow B T (r.set i (.lst ys))) (bq H' a (.lst vs)):=CU q n;cases fl with
  |nx m=>have f:WS K E B U Y Z1 (ml B K D) (.ok (.nx m) (r.set i (.lst ys))):=f;exact λy p=>⟨a,vs,l,f T _ bk rv y ⟨p.1,λj x h=>let⟨v,h1,h2⟩:=p.2 j x h;⟨v,h1,Ws.ZV l J h2⟩⟩⟩
  |rt x=>have f:WS K E B U Y Z1 (ml B K D) (.ok (.rt x) (r.set i (.lst ys))):=f;exact λv hv=>⟨a,vs,l,f T _ bk rv v (Ws.ZV l J hv)⟩
  |bk m=>exact f.elim
  |ct m=>exact f.elim
end
end LD
namespace L10
open PySem PySem.Spec PyProof.Rows L2 L3
def Qj:D->D->br RV:=fI λi j=>i+j
def Ms:R2:=SG λi j=>i+j
theorem Ls{X:Cx}:Sr X .Add Ms:=NP
theorem Es{K:Tg}:ri K Ms Qj:=by intro O H x y dx f rv Q n b a e q;obtain⟨i,j,rfl,rfl,rfl⟩:=yz e;cases b;cases a;exact⟨_,_,rfl,rfl,q.at (.int _)⟩
end L10
namespace L4
open PySem PySem.Spec PyProof.Rows L2 L3
def MZ(E2:XK)(i:Nat)(tb g:TS):TS:=λD f H=>tb D f H/\∀c dx H1,E2 c dx H1->∀(e:Tt) (a:Obj),H1 e=Th->a.cls=c->a.dict=dx->ac5 a=To->
 g {nx:=λb h=>D.nx (b.set i Th) h,rt:=D.rt} (f.set i (lD (.ref e))) (bq H1 e (.frz a (.own e)))
theorem KF{X:Cx}{body aeF:bg VH}{b0:VH}{tb ts:TS}{E2:XK}{U:Tt}{x n:Str}{i:Nat}{np aiO pos:Pos}{mU:bg Ti}
  (hex:X.ex=[]) (hN:X.N.Nodup) (dX:X.stack=X.env::X.outer) (hfr:X.env.frame=lD X.env.locals) (hg:Gl X x) (hm:X.mg x=lD (.ref U)) (hU:BI X.K U mU) (hbU:mU.contains (.type "BaseException")=To)
  (hi:X.N[i]?=lD n) (hlo:X.env.kindOf n=lD .local) (hb:∀l σ,Qf ((Cx.pinned X l).YI (wM (Cx.pinned X l) σ E2)) body σ tb) (hs:∀l e,Zl (Cx.marked (Cx.pinned X l) e) (b0::aeF) ts)
  (hE:∀c dx H,E2 c dx H->∃C m,c=.ref C/\BI X.K C m/\(Ti.ref C::m).contains (.ref U)=To) (hdb:(x==("__debug__":Str))=Tw:=by decide):
  PS X (.Try body [.ExceptHandler (lD (.Name x np)) (lD n) (b0::aeF) aiO] [] [] pos) (MZ E2 i tb ts):=by
 intro pins s σ H D I ⟨h,hc⟩;have IY:=Kr I;have afu:(Cx.pinned X (X.pn++pins)).ex=[]:=hex;refine wpAny_Try_except (wpAny_mono (hb (X.pn++pins) σ [] s H D (IY.YI _) h) (λf s1 hf=>?_) (λv s1 hx=>?_))
 .have hf:=SP.Xw hf
  cases f with
  |next=>obtain⟨σ1,H1,I1,q1⟩:=hf;exact XG ⟨σ1,H1,ip I.ok I1,q1⟩
  |brk=>obtain⟨σ1,H1,I1,q1⟩:=hf;exact⟨σ1,H1,ip I.ok I1,q1⟩
  |cont=>obtain⟨σ1,H1,I1,q1⟩:=hf;exact⟨σ1,H1,ip I.ok I1,q1⟩
  |ret u=>obtain⟨v,σ1,H1,I1,r,q1⟩:=hf;exact⟨v,σ1,H1,ip I.ok I1,r,q1⟩
 .obtain⟨H1,e,c,dx,a0,T,rfl,I1,F,aE,aT,ne,nT,q⟩:=hx
  obtain⟨C,mC,hcC,⟨n1,q1,N1,b1,d1,t1,u1,a1,l1,x1,i0,i1,i2,i3,i5,id1,kC⟩,hup⟩:=hE c dx H1 q;obtain⟨n2,q2,N2,b2,d2,t2,u2,a2,l2,x2,j0,j1,j2,j3,j5,id2,kU⟩:=hU;have fr:X.A.frames=lD (X.env::X.outer):=by rw[<-dX];exact I.ok.frames
  have ff:s1.heap.FunFrames X.base (X.env::X.outer):=by rw[<-dX];exact I1.stack
  refine JG fr ff hfr F λh2 T2 z2 F2 L2'=>?_
  have I2:L2.Inv (Cx.pinned X (X.pn++pins)) [] σ H1 {s1 with heap:=h2}:=zb I1 (λb=>b=e\/b=T) afu (λp hp y=>y.elim (aE.nP p hp) (aT.nP p hp))
   (λb o z nS nf=>L2'.keep b o z (λy=>nS (.inl y)) (λy=>nS (.inr (TQ y).symm)) (by rw[<-dX];exact nf))
   (λb o z nS=>L2'.slot b o z (λy=>nS (.inl y)) (λy=>nS (.inr (TQ y).symm))) L2'.here
   (λb y=>y.elim (λy=>by rw[y];exact aE.n0) (λy=>by rw[y];exact aT.n0)) (λy=>y.elim (λy=>aE.nL y.symm) (λy=>aT.nL y.symm))
   (λy k z w=>w.elim (aE.nC y k z) (aT.nC y k z)) (λb y=>y.elim (λy=>by rw[y];exact ne) (λy=>by rw[y];exact nT))
  have aT2:Apart (Cx.pinned X (X.pn++pins)) T2:=tE I1 afu (cv z2);have nT2:H1 T2=Th:=I1.UW.fresh z2;refine wpAny_handleBy_cons (codeAny_handlers_test (jM (X:=Cx.marked (Cx.pinned X (X.pn++pins)) e) (t6 I2 e) hg hm ?_ hdb)) (by intro y;cases y);have F2':=F2;obtain⟨ob,fs,qe,cE,dE,dF,_⟩:=F2';refine Gy (I2.Yu _ _ kC) (I2.Yu _ _ kU) qe (cE.trans hcC) hbU hup ?_;refine codeAny_handlers_suite_as (Pn F2 λh3 F3 oth hT3=>?_);have neT:e≠T2:=λy=>by obtain⟨_,_,_,_,_,_,_,_,w,_⟩:=F2;exact w y.symm
  have I3:L2.Inv (Cx.pinned X (X.pn++pins)) [] σ H1 {s1 with heap:=h3}:=zb (s:={s1 with heap:=h2}) I2 (λb=>b=T2) afu (λp hp y=>aT2.nP p hp y)
   (λb o z nS _=>(oth b nS).trans z) (λb o z nS=>⟨o.slots,(oth b nS).trans z⟩)
   (λb o z=>(Classical.em (b=T2)).elim (λy=>by rw[y];exact hT3) (λy=>⟨o,(oth b y).trans z⟩)) (λb y=>by rw[y];exact aT2.n0) (λy=>aT2.nL y.symm) (λy k z w=>aT2.nC y k z w) (λb y=>by rw[y];exact nT2)
  have I4:=ED I3 aE.nP ((oth e neT).trans qe) ne aE.n0 aE.nL aE.nC;refine nZ (X:=Cx.marked (Cx.pinned X (X.pn++pins)) e) (t6 I4 e) hN hi (.inl hlo) (v:=.ref e) rfl (λs4 I5=>?_) (.inr hlo);have w:=hc c dx H1 q e ob ne cE dE (by unfold ac5;rw[dF]);refine wpAny_mono (hs (X.pn++pins) e [] s4 _ _ _ I5 w) (λf s5 hf=>?_) (λy s5 z=>z.elim);cases f with
  |next=>obtain⟨σ2,H2,I6,q6⟩:=hf;exact vg (sY IY.ok I6) hN hi hlo λs6 I7=>⟨_,_,ip I.ok I7,q6⟩
  |brk=>obtain⟨σ2,H2,I6,q6⟩:=hf;exact q6.elim
  |cont=>obtain⟨σ2,H2,I6,q6⟩:=hf;exact q6.elim
  |ret u=>obtain⟨v,σ2,H2,I6,r,q6⟩:=hf;exact vg (sY IY.ok I6) hN hi hlo λs6 I7=>⟨v,_,H2,ip I.ok I7,r,q6⟩
end L4
namespace L9
open PySem PySem.Spec PyProof.Rows L2 L3
def Dp:bg V->Hp->VK->Prop:=λxs H Q=>∃hi:Int,xs=[.int hi]/\∀r,H r=Th->Q (.ref r) (bq H r (.rng 0 hi))
theorem DZ{X:Cx}:Wj X (.type "range") Dp:=by intro a s g H xs i Q I r h;obtain⟨hi,rfl,q⟩:=h;obtain⟨u,rfl,f⟩:=iV r;obtain⟨t,rfl⟩:=f;exact call_range_1 ⟨.ref s.heap.objs.size,_,I.laid (λb o e=>bt _ e) (TB _) (show ObjOk X.prog X.w _ _ _ (.rng 0 hi) from⟨_,_,_,b5 _ rfl⟩),rfl,q _ (I.UW.fresh (TB _))⟩
def C4:bg V->Hp->VK->Prop:=λxs H Q=>∃(r:Tt) (n:Nat),xs=[.ref r]/\H r=lD (.rng 0 n)/\n<=1000/\∀l,H l=Th->Q (.ref l) (bq H l (.lst ((TY n).map λ(i:Nat)=>V.int i)))
theorem E1{α e:Type}{R:α->e->Prop}:∀{xs:bg α} {ys:bg e},xs.length=ys.length->(∀(i:Nat) (x:α) (y:e),xs[i]?=lD x->ys[i]?=lD y->R x y)->Paired R xs ys
 |[],[],_,_=>.nil
 |[],_::_,h,_=>by cases h
 |_::_,[],h,_=>by cases h
 |x::r,y::t,h,hs=>.cons (hs 0 x y rfl rfl) (E1 (Nat.succ.inj h) λi a b g f=>hs (i+1) a b g f)
theorem D0{X:Cx}(C:X.calm=To):Wj X (.type "list") C4:=by
 intro g s G H xs J Q I r h;obtain⟨p,n,rfl,A,hn,q⟩:=h;obtain⟨u,rfl,l⟩:=iV r;cases l;obtain⟨t,u,v,o⟩:=(show ObjOk X.prog X.w H s.heap p (.rng 0 n) from I.UW p _ A);refine call_list_range (n:=n) (I.ok.hd C) o (small_one (by omega) (by omega) (by omega) (by omega)) ?_ (by omega) λF K f c m e b=>?_
 .rw[akm];split<;>omega
 refine⟨.ref s.heap.objs.size,_,I.laid m (TB _) (show ObjOk X.prog X.w _ F _ (.lst _) from⟨?_,f.toList,c,?_,?_⟩),rfl,q _ (I.UW.fresh (TB _))⟩
 .rw[Tj,Uq,Vr];omega
 .refine E1 (by rw[Tj,Uq,UM,b.1]) λi x y a E=>?_
  rw[TH]at a;cases z:(TY n)[i]? with
  |none=>rw[z]at a;cases a
  |some k=>
   rw[z]at a;cases TQ a;have B:k=i:=by obtain⟨L,j⟩:=Tn.mp z;rw[acO]at j;exact j.symm
   obtain⟨t,e⟩:=b.2 i y (by rw[<-Wc];exact E);rw[e,B];exact⟨t,by congr 1;omega⟩
 .simpa using e
def QH:bg D->br RV
 |[.int i]=>if 0<=i/\i<=1000 then lD (.ow (bA (TY i.toNat))) else Th
 |_=>Th
theorem DD{O:cg}{K:Tg}{H:Hp}:∀ns:bg Nat,L3.Vl O K H (ns.map λ(i:Nat)=>V.int i) (bA ns)
 |[]=>.nil
 |n::r=>.cons (.int _) (DD r)
theorem Rj{K:Tg}:EL K (λxs H Q=>Dp xs H λv H1=>C4 [v] H1 Q) QH:=by
 intro O H xs ds rv Q n g e q;unfold QH at e;split at e
 .rename_i i
  split at e
  .rename_i hi
   cases e;cases g with
   |cons j h=>
    cases h;cases j;refine⟨i,rfl,λr f=>⟨r,i.toNat,rfl,by rw[aF];congr 2;omega,by omega,λl b=>?_⟩⟩;refine q l _ _ (λa o ha=>bO b _ a o (bO f _ a o ha)) ?_ aF (DD _);by_cases z:l=r
    .rw[z];exact f
    .rw[az z]at b;exact b
  .cases e
 .cases e
theorem Qi{K:Tg}{E:XK}{a:TA}{fa:FA}(ha:AO K E a fa):EO K E (yG C4 (fy (yG Dp a) jK)) (ji QH fa):=by show EO K E (yG (λxs H Q=>Dp xs H λv b=>C4 [v] b Q) a) _;exact mG Rj ha
end L9
namespace L10
open PySem PyProof.Rows L2 L3
def NH(fo:cT):cT:=λρ Z=>(fo ρ Z).bind λx a=>match x with
 |.fz .none=>.ok (.fz (.bool To)) a
 |.rf _=>.ok (.fz (.bool Tw)) a
 |_=>.bad
theorem GN{K:Tg}{E:XK}{to:TE}{fo:cT}(m:cG K E to fo):cG K E (Jm (λx y H Q=>y=.V8/\Q (.bl (decide (x=.V8))) H) to (tC .V8)) (NH fo):=by
 intro B j H α Z ρ Q s l w;refine m B j H α Z ρ _ s l (w.bind.imp λx b n g o h e v f=>?_);show V.V8=.V8/\Q (.bl (decide (v=.V8))) g;refine⟨rfl,?_⟩;cases x with
 |fz d=>
  cases d with
  |none=>have f:L3.DV (ow B b n) K g v .none:=f;cases f;exact e b g Vd.refl h _ (.bl To)
  |_=>exact e.elim
 |rf i=>obtain⟨a,_,rfl⟩:=f;exact e b g Vd.refl h _ (.bl Tw)
 |tp _=>exact e.elim
end L10
namespace LD
open PySem PySem.Spec PySem.W PyProof.Rows L2
section
variable{prog:T5}{w:Uu}{A:Uk}{E:Ti->Tv->Prop}{s:Tv}{d:Tt}{o:Obj}{es:Array VN}{Z:Nat}
theorem IR(r:A.handled=Th)(I d:Tt)(t:d≠I)(e:o.data=.dict es Z):Walks prog w A I [I,d] [I] es.size (λi v=>∃x,es[i]?=lD x/\v=x.key) (λi h=>h.IsKeyIter I d i es.size Z/\h.get? d=lD o) where
 sub:=λb f=>by simp at f;simp[f]
 frame:=λ_ _ _ a p=>⟨a.1.at λo e=>p I (by simp) o e,p d (by simp) o a.2⟩
 item:=λi s Q E hi a g=>by
  have m:es[i]?=lD es[i]:=by simp[hi]
  refine Lk a.1 a.2 e m λl q n=>?_;exact g _ l s.toks ⟨_,m,rfl⟩ ⟨q,n.extBut d o t a.2⟩ λb o f e=>n.extBut b o (λh=>f (by simp[h])) e
 done:=λs Q E a g=>PD r a.1 a.2 e (TB _) λl j=>g l s.toks λb o f e=>j b o (λh=>f (by simp[h])) e
 self:=λ_ _ _ _ a g=>wpAny_pyIter_keyiter a.1 g
theorem Ot(nd:(d==U3)=Tw)(c:o.ExactDict)(e:o.data=.dict es Z):KdlSrc prog w "dict" d d es.size (λi v=>∃x,es[i]?=lD x/\v=x.key) (λh=>h.get? d=lD o) where
 type:=λ_ g=>⟨o,g,c.1⟩
 there:=λ_ g=>⟨bP g,bP g⟩
 keep:=λ_ _ g b=>b d (.inl rfl) o g
 notList:=by decide
 notTuple:=by decide
 hint:=λ_ _ _ _ g a=>kdl_hint_dict ⟨o,g,c.1⟩ a
 iter:=λ_ _ f g=>⟨_,_,(λ_ _ a=>Lu nd g c e a),IR f _ d (T8 (bP g)) e,⟨⟨_,b5 _ rfl,rfl,rfl⟩,bt _ g⟩⟩
end
def Gk:bg V->Hp->VK->Prop:=λxs H Q=>∃(a:Tt) (b:bg (KD×Tt×V)),xs=[.ref a]/\H a=lD (DkO a b)/\∀l,H l=Th->Q (.ref l) (bq H l (.lst (b.map λx=>V.ref x.2.1)))
theorem ab1{X:Cx}(B:X.calm=To):Wj X (.type "list") Gk:=by
 intro l s N H xs P Q I r h;obtain⟨a,j,rfl,ha,q⟩:=h;obtain⟨u,rfl,t⟩:=iV r;cases t;obtain⟨⟨⟨z,n,_⟩,o,J,S,M,L,K,p⟩,_⟩:=(show ObjOk X.prog X.w H s.heap a (DkO a j) from I.UW a _ ha);have A:J.size=j.length:=by rw[p.length,UM]
 refine kdl_call (Ot n L K) (I.ok.hd B) M (by omega) λG R f c v e g=>?_;refine⟨.ref s.heap.objs.size,_,I.laid v (TB _) (show ObjOk X.prog X.w _ G _ (.lst _) from⟨by rw[Tj];exact z,f.toList,c,L9.E1 ?_ λi x y b F=>?_,by simpa using e⟩),rfl,q _ (I.UW.fresh (TB _))⟩
 .rw[Tj,<-A,<-g.1];exact(UM (xs:=f)).symm
 .rw[TH]at b
  cases zk:j[i]? with
  |none=>rw[zk]at b;cases b
  |some k=>rw[zk]at b;cases TQ b;obtain⟨x,E,rfl⟩:=g.2 i y (by rw[<-Wc];exact F);obtain⟨O,m,C⟩:=sM p zk;rw[Wc,E]at m;cases TQ m;exact C.2.1
end LD
namespace L10
open PySem PyProof.Rows L2 L3 LD
theorem yi{O a:cg}{K:Tg}{H H':Hp}{α:bg Tt}(e:Ev O H a H'):∀{xs:bg (KD×Tt×V)} {Ub:bg (D×D)},PrD O K H xs Ub->VZ a K H' α (xs.map λx=>V.ref x.2.1) (Ub.map λkv=>SV.fz kv.1)
 |_,_,.nil=>.nil
 |_,_,.cons r t=>.cons (DV.ev e r.2.1) (yi e t)
def og(fd:cT):cT:=λρ Z=>(fd ρ Z).bind λo a=>(RS.UB a (jg a o)).bind λp a=>.ok (.rf a.length) (a++[.lst (p.2.map λkv=>SV.fz kv.1)])
theorem Bp{K:Tg}{E:XK}{f:TE}{fd:cT}(hd:cG K E f fd):cG K E (yG Gk (fy f jK)) (og fd):=by intro B h H α Z ρ Q s m w;refine hd B h H α Z ρ _ s m (w.bind.imp λo j y A v g b u p=>?_);obtain⟨⟨i,Ub⟩,n,b⟩:=WS.UB b;obtain⟨_,a,xs,ha,rfl,t,r⟩:=nK g p n;refine⟨a,xs,rfl,t,λl q=>?_⟩;exact kX g q b λe=>⟨_,aF,yi e.ev r⟩
end L10
namespace LD
open PySem PySem.Spec PySem.W PyProof.Rows L2
section
variable{prog:T5}{w:Uu}{K:Type}[DecidableEq K]{knd:aiA prog w K}{A:Uk}{E:Ti->Tv->Prop}{s:Tv}
theorem Mb{nm:String}{a b:Tt}{xs ys:bg (K×Tt×Ti)}{Q:Bool->Tv->Prop}(R:knd.room A)(ha:(a==U3)=Tw)(T:(b==U3)=Tw)(Z:s.heap.DictOfH knd a xs)(Y:s.heap.DictOfH knd b ys)(S:xs.length=ys.length)(P:∀x∈xs,∃n t u p,x.2.2=.int n t/\atKey ys x.1=lD (p,.int n u))(h:Q To s):wpAny (model prog w) A (Ul.Dict.samePairs nm a b) Q E s:=by
 obtain⟨oa,F,ep,l,_,i,J,U,h6⟩:=Z;obtain⟨ob,fs,fp,C,_,B,o,X,L⟩:=Y;have N:F.size=xs.length:=aba J;have M:fs.size=ys.length:=aba o;unfold Ul.Dict.samePairs Ul.Dict.showsAll;rw[ax (by rw[ha];exact TV),ax (by rw[T];exact TV)];refine Ld (Tr (Ld (Tr ?_)));refine Ld (Vy l i ?_);dsimp only;refine Ld (Vy C B ?_);rw[ax (by rw[N,M,S];simp)];refine Ld (XJ l i (Ld ?_));rw[Std.Legacy.Range.forIn_eq_forIn_range'];simp only[Std.Legacy.Range.size,abI,Nat.add_sub_cancel,Nat.div_one];refine agi _ (λf q m=>m=s/\q=(Th,())/\∀x∈f,x<F.size) _ ?_ ?_ _ _ ⟨rfl,rfl,λx g=>by have:=List.mem_range'_1.mp g;omega⟩
 .rintro x f q m ⟨rfl,rfl,hr⟩
  have Xp:=hr x Ts;obtain⟨⟨k,c,v⟩,H⟩:∃y,xs[x]?=lD y:=⟨xs[x]'(by omega),TK _⟩;have g:F[x]?=lD ⟨knd.hash k,.ref c,v⟩:=by rw[entry_at J x,H];rfl
  have hm:=Ug H;refine Ld (Vy l i ?_);rw[g];obtain⟨n,t,u,p,rfl,G⟩:=P _ hm;refine Ld (UY (Ld (wpAny_dictFind_heap R (U _ hm) C B o X L (λO=>?_) λj r I=>?_)))
  .rw[atKey_none_of_get O]at G;cases G
  .have e:=atKey_of_get L I;rw[G]at e;cases e;refine Ld (Vy C B ?_);rw[entry_at o j,I];refine UY (SeqAt.EqAt.int_int n t n u prog w _ _ ?_);rw[dN];show wpAny _ _ (if(!To)=To then _ else _) _ _ _;rw[ax (by decide)];refine Ld (XJ l i ?_);rw[ax (by simp)];exact Tr ⟨rfl,rfl,λx g=>hr x (Tx _ g)⟩
 .rintro q m ⟨rfl,rfl,_⟩;exact Tr h
end
def Nk(K:Tg):R2:=λx y H Q=>∃a b xs ys,x=.ref a/\y=.ref b/\H a=lD (DkO a xs)/\H b=lD (DkO b ys)/\oA K H xs/\oA K H ys/\xs.length=ys.length/\(∀z∈xs,∃n,z.2.2=.int n/\md ys z.1=lD (.int n))/\Q (.bl Tw) H
theorem ael{X:Cx}(R:X.A.units+64<cLine):OpR X (Vw .NotEq) (Nk X.K):=by
 intro C s σ H x y v u Q I L J h;obtain⟨a,b,xs,ys,rfl,rfl,h1,Z,N,M,U,P,q⟩:=h;cases L;cases J;obtain⟨_,ha,G,B,i⟩:=nY I h1 N;obtain⟨_,Y,j,w,r⟩:=nY I Z M;refine wpAny_richCompare_same_room (op:=.NotEq) i.typeIs r.typeIs abb (UZ abb i.typeIs PySem.F.entry_dict_ne ?_ (PySem.F.args_dict_ne_2 _ _)) (by omega);show wpAny _ _ (Ul.Dict.dictSlotArgs "__ne__" ⟨[.ref a,.ref b],[]⟩>>=_) _ _ s;refine Ld ?_;unfold Ul.Dict.dictSlotArgs;refine Ld (Y9 i.typeIs ?_);show wpAny _ _ (pure (Ti.ref a,Ti.ref b)) _ _ s;refine Tr (Ld (Xt (T:= "dict") r.typeIs PySem.F.sub_dict_dict ?_));simp only[Y8,Vh,if_false];refine Ld (Tr (Ld (Tr (Ld (Mb (lU R) ha Y i r (by rw[<-B.length,<-w.length];exact U) ?_ (Tr ⟨_,rfl,λx=>(nomatch x),⟨.bl Tw,H,I,rfl,q⟩⟩))))));have all:∀{l:bg (KD×Tt×V)} {m:bg (KD×Tt×Ti)},RX l m->(∀x∈l,x∈xs)->∀x∈m,∃n t u p,x.2.2=.int n t/\atKey j x.1=lD (p,.int n u):=by
  intro l m q
  induction q with
  |nil=>exact λ_ _ h=>nomatch h
  | @cons c d _ _ hq t ih=>
   intro g x o;rcases T1.mp o with e|o
   .subst e;obtain⟨n,e1,e2⟩:=P c (g c Ts);have E:=pZ (k:=c.1) w;rw[e2]at E;obtain⟨z,e4,u,e5⟩:=Xn.some_of E;obtain⟨⟨p,_⟩,S,rfl⟩:=Yc.mp e4;obtain⟨e6,_,f⟩:=hq;rw[e1]at f;obtain⟨t,f⟩:=f;cases e5;exact⟨n,t,u,p,f,by rw[<-e6];exact S⟩
   .exact ih (λy O=>g y (Tx _ O)) x o
 exact all B λ_ h=>h
end LD
namespace L10
open PySem PyProof.Rows L2 L3 LD
def IK:D->br D->Bool
 |.int n,lD (.int m)=>decide (n=m)
 |_,_=>Tw
def AQ(xs ys:bg (D×D)):Bool:=decide (xs.length=ys.length)&&xs.all λz=>IK z.2 (eF ys z.1)
theorem Ip{d:D}{o:br D}(h:IK d o=To):∃n,d=.int n/\o=lD (.int n):=by
 unfold IK at h;split at h
 .cases a5 h;exact⟨_,rfl,rfl⟩
 .cases h
def Df(fa fb:cT):cT:=λρ Z=>(fa ρ Z).bind λx b=>(fb ρ b).bind λy a=>(RS.UB a (jg a x)).bind λp a=>(RS.UB a (jg a y)).bind λr a=>if AQ p.2 r.2=To then .ok (.fz (.bool Tw)) a else .bad
theorem Ff{K:Tg}{E:XK}{N tb:TE}{fa fb:cT}(ha:cG K E N fa)(hb:cG K E tb fb):cG K E (Jm (Nk K) N tb) (Df fa fb):=by
 intro B M H α Z ρ Q s O w;refine ha B M H α Z ρ _ s O (w.bind.imp λx A Z1 H1 L S R v hv=>?_);refine hb B M H1 A Z1 ρ _ S (O.VX L) (R.bind.imp λy o Z2 P r C f u hu=>?_);obtain⟨⟨i,xs⟩,U,f⟩:=WS.UB f;obtain⟨⟨j,ys⟩,T,f⟩:=WS.UB f;dsimp only at f;split at f
 .rename_i p
  have p:=YM.mp p;have hl:=a5 p.1;have hk:=λz X=>Ip (Vi.mp p.2 z X);obtain⟨_,a,as,_,rfl,g1,G⟩:=nK C (hv.VX r) U;obtain⟨_,b,bs,_,rfl,f1,I⟩:=nK C hu T;refine⟨a,b,as,bs,rfl,rfl,g1,f1,qI G,qI I,by rw[G.length,I.length];exact hl,?_,f o P Vd.refl C _ (.bl Tw)⟩;have all:∀{l:bg (KD×Tt×V)} {m:bg (D×D)},PrD (ow B o Z2) K P l m->(∀x∈m,x∈xs)->∀z∈l,∃n,z.2.2=.int n/\md bs z.1=lD (.int n):=by
   intro l m q
   induction q with
   |nil=>exact λ_ _ h=>nomatch h
   | @cons c d _ _ hq t ih=>
    intro g x F;rcases T1.mp F with e|F
    .subst e
     obtain⟨n,L,r⟩:=hk d (g d Ts);rw[<-hq.1]at r;obtain⟨v,e3,e4⟩:=(kO (k:=x.1) I).1 _ r;have J:=hq.2.2;rw[L]at J;refine⟨n,?_,e3.trans ?_⟩
     .generalize x.2.2=y at J;cases J;rfl
     .cases e4;rfl
    .exact ih (λy Y=>g y (Tx _ Y)) x F
  exact all G λ_ h=>h
 .exact f.elim
theorem KZ{fa fb:cT}{ρ:bu}{Z Z1 a:a9}{x y:SV}{i j:Nat}{xs ys:bg (D×D)}(ha:fa ρ Z=.ok x Z1)(b:fb ρ Z1=.ok y a)(f:jg a x=lD (i,xs))(e:jg a y=lD (j,ys))(h:AQ xs ys=To):Df fa fb ρ Z=.ok (.fz (.bool Tw)) a:=by unfold Df;rw[ha];show(fb ρ Z1).bind _=_;rw[b];show(RS.UB a (jg a x)).bind _=_;rw[f];show(RS.UB a (jg a y)).bind _=_;rw[e];exact av h
end L10
namespace M02
inductive Con(E:bg (Nat×Nat))(r0:Nat):Bool->Nat->Prop
 |base:Con E r0 To r0
 |col {r c:Nat}:Con E r0 To r->(r,c)∈E->Con E r0 Tw c
 |row {r c:Nat}:Con E r0 Tw c->(r,c)∈E->Con E r0 To r
def has(n c:Nat):Prop:=n.testBit c=To
structure Nums(E:bg (Nat×Nat))(R C:Nat)(ns:bg Nat):Prop where
 len:ns.length=R
 lt:∀n∈ns,n<2^C
 own:∀r c,(r,c)∈E->has (ns.getD r 0) c
 snd:∀r,r<R->∀c,has (ns.getD r 0) c->Con E r Tw c
abbrev NF:=bg Nat×bg Nat
structure anP(E:bg (Nat×Nat))(r0:Nat)(s:NF):Prop where
 a:r0∈s.1
 n:∀x∈s.1,Con E r0 To x
 f:∀x∈s.2,Con E r0 Tw x
 d:s.2.Nodup
 d1:s.1.Nodup
structure aoO(R C:Nat)(ss:bg (Nat×Nat)):Prop where
 r1:1<=R
 r6:R<=6
 c1:1<=C
 c6:C<=6
 l1:1<=ss.length
 l12:ss.length<=12
 nd:ss.Nodup
 inn:∀s∈ss,s.1<R/\s.2<C
end M02
local macro_rules(kind:=«term{_}»)|`({$a})=>`(L3.aa $a L3.au)|`({$a,$b})=>`(L3.aa $a (L3.aa $b L3.au))|`({$a,$b,$c})=>`(L3.aa $a (L3.aa $b (L3.aa $c L3.au)))|`({$a,$b,$c,$d})=>`(L3.aa $a (L3.aa $b (L3.aa $c (L3.aa $d L3.au))))
local macro_rules|`(~~~$n)=>`(L3.pC (.int $n))
namespace STP
open PySem L2 L3
def nk:FS:=(cw (pd (aK (aM oJ (aM bJ (ad 0) (~~~2)) (pC .none))) (eS (aM bJ (ad 0) (~~~2))) gu)
 (eS (ji (L10.IS 0) {fA 2 [] (jV (aM bJ (ad 0) (~~~0))) (gT 2 (EK (gN 0) (EK (gN 1) Nr))) (aK (aM dh (aM bJ (ad 1) (~~~0)) (pC (.str "layer")))) (aM bJ (ad 1) (~~~1))})))
def dI:FN:=gA 1 nk
def lw:FS:=(cw (fQ (aM bJ (aM bJ (aM bJ (ad 0) (~~~1)) (ad 1)) (ad 2)) (gN 3))
 (cw (pd (aK (aM dh (aM bJ (ad 3) (~~~0)) (pC (.str "below")))) (eS (aM bJ (aM bJ (aM bJ (ad 0) (~~~1)) (~~~0)) (ad 2))) gu)
 (eS (ad 3))))
def iR:FN:=gA 4 lw
def jp:FS:=(eS (fA 1 [1] (jV (aM bJ (ad 0) (~~~2))) (gN 0) (aK (ji HH {fA 1 [0] (jV (ad 1)) (gN 0) dH (aM Kq (ad 0) (aM bJ (ad 1) (~~~0)))})) (ad 0)))
def bL:FN:=gA 2 jp
def jY:FS:=(cw (xz (jV (aM bJ (ad 0) (~~~2))) (gN 2) (pd (aK (aM dh (ji wj {aM bJ (ad 2) (~~~0)}) (ji L9.ig {ad 1}))) (eS (aM cB (eT {bw {pC (.str "letter"),aM bJ (ad 2) (~~~1)}}) (aM jx (eT {pC (.tuple [(.str "none")])}) (aM xj (ji fP {ad 1}) (~~~1))))) gu))
 (eS (fA 1 [0] (jV (ad 1)) (gN 0) dH (aM bJ (aM bJ (aM bJ (ad 1) (~~~1)) (~~~0)) (ad 0)))))
def fX:FN:=gA 3 jY
open L10
def kh:eV:=(aO (gc "Hand" "bed" (ay 0) (ae (ad 1)))
 (aO (gc "Hand" "acts" (ay 0) (zn (ae (aM bJ (ad 2) (~~~0)))))
 (aO (gc "Hand" "waiting" (ay 0) (ae (aM bJ (ad 2) (~~~1))))
 (aO (gc "Hand" "once" (ay 0) (ae (aM bJ (ad 2) (~~~2))))
 (gc "Hand" "sent" (ay 0) (ae (eT au)))))))
def dU:jr:=dg 3 kh
def mB:eV:=(hJ (ph (ao (Dx ou (ao (ui 1 [0] (iB (vV (bx "Hand" "acts" (ay 0)))) (fK 0) tm (ph (ao (ae (ad 0)) (ao (vC (bx "Hand" "acts" (ay 1)) (ae (ad 0))) aX)))) aX)) (ao (bx "Hand" "waiting" (ay 0)) (ao (bx "Hand" "once" (ay 0)) aX)))))
def bK:jr:=dg 1 mB
def iU:eV:=(hJ (Bo (kA oJ (bx "Hand" "waiting" (ay 0)) (ae (pC .none))) (kA Kq (ae (ad 1)) (ke (bx "Hand" "waiting" (ay 0)) (ae (~~~0))))))
def b8:jr:=dg 2 iU
def kP:eV:=(hJ (kA Kq (ae (ad 1)) (Dm (bx "Hand" "acts" (ay 0)))))
def bU:jr:=dg 2 kP
def kI:eV:=(aO (cA (n9 (bT (aK (aM dh (aM bJ (ad 2) (~~~0)) (pC (.str "letter"))))) (uP (bM (bc "Hand" "has_act" bU 2 (ay 0) (ao (ae (ad 2)) aX))))) (bV (pX (bx "Hand" "sent" (ay 0)) (ae (bw {aM bJ (ad 2) (~~~1),pC (.str "down")})))) cC)
 (zq (bx "Hand" "acts" (ay 0)) (ae (ad 1)) (ae (ad 2))))
def bB:jr:=dg 3 kI
def pY:eV:=(aO (cO (yU (bx "Hand" "acts" (ay 0)) (ae (ad 1))) (fK 2))
 (cA (n9 (bT (aK (aM dh (aM bJ (ad 2) (~~~0)) (pC (.str "letter"))))) (uP (bM (bc "Hand" "has_act" bU 2 (ay 0) (ao (ae (ad 2)) aX))))) (bV (pX (bx "Hand" "sent" (ay 0)) (ae (bw {aM bJ (ad 2) (~~~1),pC (.str "up")})))) cC))
def jB:jr:=dg 3 pY
def mF:eV:=(aO (cO (ke (bx "Hand" "waiting" (ay 0)) (ae (~~~0))) (fK 1))
 (aO (cO (ke (bx "Hand" "waiting" (ay 0)) (ae (~~~2))) (fK 2))
 (aO (gc "Hand" "waiting" (ay 0) (ae (pC .none)))
 (aO (cO (uG (Jg (bT (aK (aM dh (ad 2) (pC (.tuple [(.str "chord")]))))) (jo fX 2 (ao (bx "Hand" "bed" (ay 0)) (ao (ae (ad 1)) aX))) (ae (eT {bw {pC (.str "layer"),aM bJ (ad 2) (~~~2)}})))) (fK 3))
 (uD (qp (Jb {ad 1,ad 3})) (Mp 2 (lA (fK 4) (lA (fK 5) yK))) (bV (bc "Hand" "come" bB 3 (ay 0) (ao (ae (ad 4)) (ao (ae (ad 5)) aX)))))))))
def b3:jr:=dg 6 mF
def fO:eV:=(aO (cA (zh (bM (kA rc (bx "Hand" "waiting" (ay 0)) (ae (pC .none)))) (zh (bM (kA tK (ke (bx "Hand" "waiting" (ay 0)) (ae (~~~2))) (ae (pC (.tuple [(.str "chord")]))))) (bM (kA tK (jo dI 1 (ao (bc "Hand" "stands" bK 1 (ay 0) aX) aX)) (ae (~~~0)))))) (hJ (ae (pC (.bool Tw)))) cC)
 (hJ (kA tK (jo bL 2 (ao (bx "Hand" "bed" (ay 0)) (ao (kA cB (ke (bx "Hand" "waiting" (ay 0)) (ae (~~~0))) (ae (bw {ad 1}))) aX))) (ae (eT au)))))
def dJ:jr:=dg 2 fO
def g8:eV:=(aO (cO (kA cB (ke (bx "Hand" "waiting" (ay 0)) (ae (~~~0))) (ae (bw {ad 1}))) (fK 2))
 (aO (gc "Hand" "waiting" (ay 0) (ph (ao (ae (ad 2)) (ao (ke (bx "Hand" "waiting" (ay 0)) (ae (~~~1))) (ao (ae (pC (.tuple [(.str "chord")]))) aX)))))
 (cA (bM (kA dh (ui 1 [] (iB (jo bL 2 (ao (bx "Hand" "bed" (ay 0)) (ao (ae (ad 2)) aX)))) (fK 0) tm (ae (ji fP {aM bJ (ad 0) (~~~0)}))) (ae (eT {ji fP {ad 2}})))) (bV (bc "Hand" "decide" b3 1 (ay 0) aX)) cC)))
def dm:jr:=dg 3 g8
def jT:eV:=(aO (cO (jo dI 1 (ao (bc "Hand" "stands" bK 1 (ay 0) aX) aX)) (fK 2))
 (aO (cO (jo iR 3 (ao (bx "Hand" "bed" (ay 0)) (ao (ae (ad 2)) (ao (ae (ad 1)) aX)))) (fK 3))
 (aO (cO (ae (aM bJ (ad 3) (~~~0))) (fK 4))
 (aO (cA (bT (aK (aM zl (ad 4) (bw {pC (.str "layer"),pC (.str "once")})))) (gc "Hand" "once" (ay 0) (ae (pC .none))) cC)
 (cA (bT (aK (aM dh (ad 4) (pC (.str "tap"))))) (gc "Hand" "waiting" (ay 0) (ae (bw {bw {ad 1},~~~0,ad 3}))) (cA (n9 (bT (aK (aM dh (ad 4) (pC (.str "letter"))))) (n9 (bT (aK (aM dh (ad 2) (~~~0)))) (bM (kA tK (jo bL 2 (ao (bx "Hand" "bed" (ay 0)) (ao (ae (bw {ad 1})) aX))) (ae (eT au)))))) (gc "Hand" "waiting" (ay 0) (ae (bw {bw {ad 1},~~~0,pC (.tuple [(.str "chord")])}))) (cA (bT (aK (aM dh (ad 4) (pC (.str "once"))))) (aO (bV (bc "Hand" "come" bB 3 (ay 0) (ao (ae (ad 1)) (ao (ae (pC (.tuple [(.str "none")]))) aX))))
 (gc "Hand" "once" (ay 0) (ae (aM bJ (ad 3) (~~~1))))) (bV (bc "Hand" "come" bB 3 (ay 0) (ao (ae (ad 1)) (ao (ae (ad 3)) aX)))))))))))
def gf:jr:=dg 5 jT
def jO:eV:=(aO (cA (zh (bM (ym Tw (ae (ad 1)) (bx "Hand" "acts" (ay 0)))) (bM (bc "Hand" "is_waiting" b8 2 (ay 0) (ao (ae (ad 1)) aX)))) vB cC)
 (aO (cA (bM (bc "Hand" "makes_chord" dJ 2 (ay 0) (ao (ae (ad 1)) aX))) (aO (bV (bc "Hand" "put_to_chord" dm 2 (ay 0) (ao (ae (ad 1)) aX)))
 vB) cC)
 (aO (cA (bM (kA oJ (bx "Hand" "waiting" (ay 0)) (ae (pC .none)))) (bV (bc "Hand" "decide" b3 1 (ay 0) aX)) cC)
 (bV (bc "Hand" "begin" gf 2 (ay 0) (ao (ae (ad 1)) aX))))))
def im:jr:=dg 2 jO
def ja:eV:=(aO (cO (ke (bx "Hand" "waiting" (ay 0)) (ae (~~~2))) (fK 2))
 (cA (bT (aK (aM dh (ad 2) (pC (.tuple [(.str "chord")]))))) (bV (bc "Hand" "decide" b3 1 (ay 0) aX)) (aO (gc "Hand" "waiting" (ay 0) (ae (pC .none)))
 (bV (bc "Hand" "come" bB 3 (ay 0) (ao (ae (ad 1)) (ao (ae (bw {pC (.str "letter"),aM bJ (ad 2) (~~~1)})) aX)))))))
def gF:jr:=dg 3 ja
def lF:eV:=(aO (cA (bM (bc "Hand" "is_waiting" b8 2 (ay 0) (ao (ae (ad 1)) aX))) (bV (bc "Hand" "settle" gF 2 (ay 0) (ao (ae (ad 1)) aX))) cC)
 (cA (bM (ym Tw (ae (ad 1)) (bx "Hand" "acts" (ay 0)))) (bV (bc "Hand" "go" jB 2 (ay 0) (ao (ae (ad 1)) aX))) cC))
def iY:jr:=dg 2 lF
def iO:eV:=(aO (cA (bM (kA rc (bx "Hand" "waiting" (ay 0)) (ae (pC .none)))) vB cC)
 (aO (cO (kA cB (ke (bx "Hand" "waiting" (ay 0)) (ae (~~~1))) (ae (~~~1))) (fK 1))
 (aO (gc "Hand" "waiting" (ay 0) (ph (ao (ke (bx "Hand" "waiting" (ay 0)) (ae (~~~0))) (ao (ae (ad 1)) (ao (ke (bx "Hand" "waiting" (ay 0)) (ae (~~~2))) aX)))))
 (cA (bM (kA dh (ae (ad 1)) (ke (bx "Hand" "bed" (ay 0)) (ae (~~~3))))) (bV (bc "Hand" "decide" b3 1 (ay 0) aX)) cC))))
def fZ:jr:=dg 2 iO
def AJ:eV:=(aO (cO (uV "Hand" dU 3 (ao (ae (ad 0)) (ao (ae (ad 1)) aX))) (fK 3))
 (aO (cA (bT (aK (aM dh (aM bJ (ad 2) (~~~0)) (pC (.str "turn"))))) (bV (bc "Hand" "wait_on" fZ 1 (ay 3) aX)) (cA (bT (aK (aM dh (aM bJ (ad 2) (~~~0)) (pC (.str "down"))))) (bV (bc "Hand" "press" im 2 (ay 3) (ao (ae (aM bJ (ad 2) (~~~1))) aX))) (bV (bc "Hand" "lift" iY 2 (ay 3) (ao (ae (aM bJ (ad 2) (~~~1))) aX)))))
 (hJ (ph (ao (bx "Hand" "sent" (ay 3)) (ao (bc "Hand" "stands" bK 1 (ay 3) aX) aX))))))
def lC:jr:=dg 4 AJ
end STP
local macro_rules| `(tactic|fail "nm")=> `(tactic|first|((simp only[acP,acQ]);rfl)|rfl)| `(tactic|fail "evf")=> `(tactic|first|with_reducible assumption|change L3.fY _ _|change L3.AU _ _|change L3.pz _ _|change L3.agL _ _|change L3.zN _ _|change L3.DM _ _|change L3.Bq _ _|change L3.ajq _ _|change L3.jJ _ _|change L3.xS _ _|change L3.adb _ _|change L3.adk _ _|change L3.aik _ _|change L3.ah4 _ _|change L3.wb _ _|change L3.ahW _ _|change L3.aio _ _|change L3.agQ _ _|change L3.v4 _ _|change L3.agU _ _|change L3.ahh _ _|change L3.ahM _ _|change L3.ajB _ _|change L3.jq|change L3.lf|change L3.qh|change L3.al1|change L3.an7|change L3.alD|change L3.kL _|change L3.jw _|(with_reducible rfl))| `(tactic|fail "ev")=> `(tactic|first
 |change L3.aD
 |((exists L3.af);rfl)
 |((exists L3.nz);rfl)
 |change L3.aC
 |change L3.tJ
 |((exists L3.aN);(·fail "ev");(·fail "ev");(·rfl);(·rfl);(·fail "evf"))
 |((exists L3.akX);(·fail "ev");(·rfl);(·rfl))
 |((exists L3.ah);(·fail "ev");(·fail "ev"))
 |((exists L3.bN);(·fail "ev");(·rfl))
 |((exists L3.gM);(·fail "ev");(·rfl);(·first|fail "evf"|rfl))
 |((exists L3.cL);(·fail "ev");(·rfl);(·rfl);(·with_reducible assumption))
 |((exists L3.bQ);(·fail "ev");(·rfl);(·exact Tq rfl))
 |((exists L3.nw);(·fail "ev");(·rfl);(·exact Tq rfl))
 |((exists L3.Gd);(·fail "ev");(·rfl);(·rfl))
 |((exists L3.iw);(·fail "ev");(·rfl))
 |((exists L3.zD);(·fail "ev");(·fail "ev");(·fail "ev");(·rfl);(·first|with_reducible assumption|rfl))
 |((exists L3.C5);(·fail "ev"))
 |((exists L3.DR);(·fail "ev");(·intro _;fail "ev"))
 |((exists L3.ajx);(·fail "ev");(·intro _;fail "ev"))
 |((exists L3.ahK);(·fail "ev"))
 |((exists L3.aeh);(·fail "ev");(·intro _;fail "ev"))
 |((exists L3.ae1);(·fail "ev");(·intro _;fail "ev"))
 |((exists L3.Ll);(·fail "ev");(·rfl);(·first|with_reducible assumption|rfl))
 |((exists L3.hW);(·fail "ev");(·rfl);(·rfl))
 |((exists L3.agF);(·fail "ev");(·rfl);(·rfl))
 |((exists L3.Hl);(·rfl);(·fail "ev");(·rfl);(·rfl);(·first|with_reducible assumption|(simp only[Vq,TR,L3.ez] at*;omega));(·fail "nm"))
 |((exists L3.ai5);(·rfl);(·fail "ev");(·rfl);(·rfl);(·with_reducible assumption);(·with_reducible assumption);(·with_reducible assumption);(·fail "nm"))
 |((exists L3.A6);(·fail "ev");(·rfl);(·fail "nm"))
 |((exists L3.Da);(·fail "ev"))
 |((exists L3.wv);(·fail "ev");(·rfl)))
local macro_rules| `(tactic|fail "evb")=> `(tactic|first
 |((exists L3.ajT);(·fail "ev");(·fail "ev");(·rfl);(·rfl);(·fail "evf"))
 |((exists L3.ahS);(·fail "ev");(·rfl);(·rfl);(·with_reducible assumption))
 |((exists L3.ai1);(·fail "ev");(·rfl);(·first|fail "evf"|rfl))
 |fail "ev")
local macro_rules| `(tactic|fail "ev")=> `(tactic|first
 |with_reducible assumption
 |((exists L3.aeh);(·fail "ev");(·intro _;fail "evb"))
 |((exists L3.ae1);(·fail "ev");(·intro _;fail "evb"))
 |((exists L3.agP);(·fail "ev");(·fail "ev");(·fail "ev");(·rfl);(·rfl);(·rfl);(·fail "evf");(·intro _;fail "evf"))
 |((exists L3.BZ);(·fail "ev");(·rfl);(·rfl);(·rfl)))
local macro_rules| `(tactic|fail "go")=> `(tactic|first
 |((exists L3.cR);(·fail "ev");(·rfl);(·fail "nm");try fail "go")
 |((exists L3.ahL);(·fail "ev");try fail "go")
 |((exists L3.ajd);try fail "go")
 |((exists L3.gG);try fail "go")
 |((exists L3.j7);(·fail "ev");(·rfl))
 |((exists L3.qH);(·fail "ev"))
 |((exists L3.aiE);(·fail "ev");(·rfl);(·fail "nm"))
 |((exists L3.Dc);(·fail "ev"))
 |((exists L3.eW);(·fail "ev");(·rfl))
 |((exists L3.Mv);(·fail "ev"))
 |(exists L3.Cr))
namespace STP
open PySem L2 L3
def eD(c:Nat):Str:=⟨#[97+c]⟩
inductive Mn where
 |Ua (c:Nat)
 |V2 (n:Int)
 |Yl (c:Nat) (n:Int)
 |once (n:Int)
 |none
 |below
 deriving DecidableEq
def mD:Mn->D
 |.Ua c=>.tuple [.str "letter",.str (eD c)]
 |.V2 n=>.tuple [.str "layer",.int n]
 |.Yl c n=>.tuple [.str "tap",.str (eD c),.int n]
 |.once n=>.tuple [.str "once",.int n]
 |.none=>.tuple [.str "none"]
 |.below=>.tuple [.str "below"]
def VM(L a:Int):Mn->Prop
 |.Ua c=>c<26
 |.V2 n=>1<=n/\n<a
 |.Yl c n=>c<26/\1<=n/\n<a
 |.once n=>1<=n/\n<a
 |.none=>True
 |.below=>L≠0
def Mn.isL:Mn->Bool
 |.Ua _=>To
 |_=>Tw
structure Bd where
 n:Int
 ls:bg (bg Mn)
 cs:bg (bg Nat×Nat)
 wt:Int
def lQ(l:bg Mn):D:=.tuple (l.map mD)
def gX(c:bg Nat×Nat):D:=.tuple [.tuple (bA c.1),.str (eD c.2)]
def bD(b:Bd):D:=.tuple [.int b.n,.tuple (b.ls.map lQ),.tuple (b.cs.map gX),.int b.wt]
def VL(n a:Int)(b:bg (bg Mn)):Prop:=∀(i:Nat) l,b[i]?=lD l->(l.length:Int)=n/\∀m∈l,VM i a m
def re(l0:bg Mn)(k:Nat):Bool:=(l0[k]?.map Mn.isL).getD Tw
def VC(l0:bg Mn)(c:bg Nat×Nat):Prop:=2<=c.1.length/\c.1.Pairwise (·<·)/\(∀k∈c.1,re l0 k=To)/\c.2<26
structure VB(b:Bd):Prop where
 n1:1<=b.n
 n5:b.n<=5
 l1:1<=b.ls.length
 l3:b.ls.length<=3
 vl:VL b.n b.ls.length b.ls
 c4:b.cs.length<=4
 vc:∀c∈b.cs,VC (b.ls.headD []) c
 cu:b.cs.Pairwise λa c=>a.1≠c.1
 w1:1<=b.wt
 w4:b.wt<=4
def wn:Mn->Nat
 |.Ua _=>0
 |.V2 _=>1
 |.Yl _ _=>2
 |.once _=>3
 |.none=>4
 |.below=>5
def ws:Nat->Str
 |0=> "letter"
 |1=> "layer"
 |2=> "tap"
 |3=> "once"
 |4=> "none"
 |_=> "below"
def wd(m:Mn):Str:=ws (wn m)
theorem qE(m:Mn):wn m<6:=by cases m<;>exact Tq rfl
theorem qu(m:Mn):bJ (mD m) (.int 0)=lD (.fz (.str (wd m))):=by cases m<;>exact jq
theorem Nm(m:Mn):Tu.strOk (wd m)=To:=(by left:∀i,i<6->Tu.strOk (ws i)=To) _ (qE m)
theorem yL:∀i,i<6->∀j,j<6->(ws i==ws j)=decide (i=j):=by left
theorem yO(m:Mn)(j:Nat)(a:j<6):dh (.str (wd m)) (.str (ws j))=lD (.fz (.bool (decide (wn m=j)))):=by rw[Od (Nm m) ((by left:∀i,i<6->Tu.strOk (ws i)=To) j a)];unfold wd;rw[yL _ (qE m) _ a]
def Mn.isB:Mn->Bool
 |.below=>To
 |_=>Tw
def Mn.acy:Mn->Bool
 |.V2 _=>To
 |_=>Tw
def Mn.isT:Mn->Bool
 |.Yl _ _=>To
 |_=>Tw
def Mn.isO:Mn->Bool
 |.once _=>To
 |_=>Tw
theorem lP(m:Mn):dh (.str (wd m)) (.str "letter")=lD (.fz (.bool m.isL)):=(yO m 0 (by decide)).trans (by cases m<;>rfl)
theorem Fm(m:Mn):dh (.str (wd m)) (.str "below")=lD (.fz (.bool m.isB)):=(yO m 5 (by decide)).trans (by cases m<;>rfl)
theorem EW(m:Mn):dh (.str (wd m)) (.str "layer")=lD (.fz (.bool m.acy)):=(yO m 1 (by decide)).trans (by cases m<;>rfl)
theorem Np(m:Mn):dh (.str (wd m)) (.str "tap")=lD (.fz (.bool m.isT)):=(yO m 2 (by decide)).trans (by cases m<;>rfl)
theorem JU(m:Mn):dh (.str (wd m)) (.str "once")=lD (.fz (.bool m.isO)):=(yO m 3 (by decide)).trans (by cases m<;>rfl)
theorem QY(m:Mn):zl (.str (wd m)) (.tuple [.str "layer",.str "once"])=lD (.fz (.bool (!(m.acy||m.isO)))):=by
 have h:∀a:Str,Tu.strOk a=To->zl (.str a) (.tuple [.str "layer",.str "once"])=lD (.fz (.bool (!(("layer":Str)==a||("once":Str)==a)))):=λa ha=>by show(if(lY (.str a)&&(Tu.strOk "layer"&&(Tu.strOk "once"&&To)))=To then lD (RV.fz (.bool (!(Tu.eqv (.str "layer") (.str a)||(Tu.eqv (.str "once") (.str a)||false))))) else Th)=_;rw[show lY (.str a)=To by unfold lY;rw[show Tu.canLay0 (.str a)=To from ha];rfl,show Tu.strOk "layer"=To by left,show Tu.strOk "once"=To by left,aeS];rfl
 rw[h _ (Nm m)];unfold wd;rw[show(("layer":Str)==ws (wn m))=_ from yL 1 (by decide) _ (qE m),show(("once":Str)==ws (wn m))=_ from yL 3 (by decide) _ (qE m)];cases m<;>rfl
def LB:Mn->Prop
 |.Ua c=>c<26
 |.Yl c _=>c<26
 |_=>True
theorem VM.lb(h:VM L nL m):LB m:=by
 cases m with
 |Ua c=>exact h
 |Yl c n=>exact h.1
 |_=>trivial
theorem ul(h:c<26):Tu.strOk (eD c)=To:=by show((#[97+c]:Array Nat).all λc=>decide (c<0x110000))=To;simp;omega
theorem wV(h:eD c=eD d):c=d:=by
 have:(97+c)=97+d:=by have a:=dw (λz:Str=>z.cps.toList) h;exact List.head_eq_of_cons_eq a
 omega
theorem GS(h:LB m):Tu.canLay0 (mD m)=To:=by
 cases m with
 |Ua c=>show(Tu.strOk "letter"&&(Tu.strOk (eD c)&&To))=To;rw[ul h,show Tu.strOk "letter"=To by left];rfl
 |V2 n=>show(Tu.strOk "layer"&&(To&&To))=To;left
 |Yl c n=>show(Tu.strOk "tap"&&(Tu.strOk (eD c)&&(To&&To)))=To;rw[ul h,show Tu.strOk "tap"=To by left];rfl
 |once n=>show(Tu.strOk "once"&&(To&&To))=To;left
 |none=>show(Tu.strOk "none"&&To)=To;left
 |below=>show(Tu.strOk "below"&&To)=To;left
theorem G6(h:LB m):lY (mD m)=To:=by unfold lY;rw[GS h];cases m<;>rfl
def mR:Mn->bg D
 |.Ua c=>[.str (eD c)]
 |.V2 n=>[.int n]
 |.Yl c n=>[.str (eD c),.int n]
 |.once n=>[.int n]
 |.none=>[]
 |.below=>[]
theorem Nj(m:Mn):mD m=.tuple (.str (wd m)::mR m):=by cases m<;>rfl
theorem QO(a b:Mn):decide (wd a=wd b)=decide (wn a=wn b):=by have h:=yL _ (qE a) _ (qE b);unfold wd;rw[<-h];rfl
theorem De(c d:Nat):decide (eD c=eD d)=decide (c=d):=decide_eq_decide.mpr ⟨wV,λh=>by rw[h]⟩
theorem Po(a b:Mn)(h:wn a=wn b):Tu.eqvAll (mR a) (mR b)=decide (a=b):=by
 cases a<;>cases b<;>first|cases h|skip
 .show(decide (eD _=eD _)&&To)=_;rw[De,Za];exact decide_eq_decide.mpr ⟨λh=>by rw[h],λh=>by cases h;rfl⟩
 .show(decide (_=_)&&To)=_;rw[Za];exact decide_eq_decide.mpr ⟨λh=>by rw[h],λh=>by cases h;rfl⟩
 .show(decide (eD _=eD _)&&(decide (_=_)&&To))=_;rw[De,Za,<-Bool.decide_and];exact decide_eq_decide.mpr ⟨λh=>by rw[h.1,h.2],λh=>by cases h;exact⟨rfl,rfl⟩⟩
 .show(decide (_=_)&&To)=_;rw[Za];exact decide_eq_decide.mpr ⟨λh=>by rw[h],λh=>by cases h;rfl⟩
 .rfl
 .rfl
theorem OA(a b:Mn):Tu.eqv (mD a) (mD b)=decide (a=b):=by
 rw[Nj,Nj];show(decide (wd a=wd b)&&Tu.eqvAll (mR a) (mR b))=_;rw[QO];by_cases h:wn a=wn b
 .rw[aP h,aaZ,Po a b h]
 .rw[a4 h,YJ,a4 λz=>h (by rw[z])]
theorem BX:∀{l:bg Mn},(∀m∈l,LB m)->Tu.canLayAll0 (l.map mD)=To
 |[],_=>rfl
 |m::r,h=>by show(Tu.canLay0 (mD m)&&Tu.canLayAll0 (r.map mD))=To;rw[GS (h m Ts),BX λx a=>h x (Tx _ a)];rfl
theorem B4(a:Mn):∀l:bg Mn,((l.map mD).any λe=>Tu.eqv e (mD a))=decide (a∈l)
 |[]=>rfl
 |m::r=>by rw[TX,Xj,B4 a r,OA,<-Bool.decide_or];exact decide_eq_decide.mpr (by rw[T1];exact⟨λh=>h.imp (λz=>z.symm) id,λh=>h.imp (λz=>z.symm) id⟩)
theorem JN{l:bg Mn}(ha:LB a)(b:∀m∈l,LB m):Kq (mD a) (.list (l.map mD))=lD (.fz (.bool (decide (a∈l)))):=by show(if(lY (mD a)&&Tu.canLayAll0 (l.map mD))=To then _ else _)=_;rw[G6 ha,BX b,VD,av rfl,B4]
theorem xl(e:α->D)(g:α->br D)(I:bp->Prop)(xs:bg α)(p:I ρ)(i:xs.length<=1000)(b:∀x∈xs,∀ρ,I ρ->∃ρ',kN gt ft fe (e x) ρ=.ok (g x,ρ')/\I ρ'):ku (dG gt ft fe (xs.map e) ρ [])=.ok (xs.filterMap g):=by
 have h:∀(xs:bg α) (a:bg D) (ρ:bp),I ρ->a.length+xs.length<=1000->(∀x∈xs,∀ρ,I ρ->∃ρ',kN gt ft fe (e x) ρ=.ok (g x,ρ')/\I ρ')->dG gt ft fe (xs.map e) ρ a=.ok (a++xs.filterMap g):=by
  intro xs
  induction xs with
  |nil=>intro a ρ _ _ _;show Res.ok a=_;rw[List.filterMap_nil,Uo]
  |cons x r j=>
   intro a ρ m i b;rw[TR]at i;obtain⟨ρ',o,n⟩:=b x Ts ρ m;rw[TX,sD o (by omega)];have f:(a++(g x).toList).length+r.length<=1000:=by
    rw[Tz];cases g x with
    |none=>rw[acf,Vq];omega
    |some y=>rw[Option.toList_some,Xb];omega
   rw[j _ ρ' n f λy l=>b y (Tx _ l),Ux];cases q:g x with
   |none=>rw[X5 q];rfl
   |some y=>rw[X6 q];rfl
 rw[h xs [] ρ p (by simpa using i) b];rfl
theorem CK(a:df cp=cp):df (lD (PV.fz d)::cp)=lD (.fz d)::cp:=by show F5 _::df cp=_;rw[a];rfl
theorem wQ{α:Type}{ft:FT}{fe:FE}{a:bp}(e f:α->D)(p:α->Bool)(xs:bg α)(j:xs.length<=1000)(m:df a=a)(h:∀x∈xs,ft (lD (.fz (e x))::a)=.ok (p x,lD (.fz (e x))::a))(l:∀x∈xs,p x=To->fe (lD (.fz (e x))::a)=.ok (.fz (f x),lD (.fz (e x))::a)):ku (dG (gN 0) ft fe (xs.map e) (Th::a) [])=.ok ((xs.filter p).map f):=by
 rw[xl e (λx=>if p x=To then lD (f x) else Th) (λρ=>∃o,ρ=o::a) xs ⟨Th,rfl⟩ j ?_]
 .congr 1
  clear j h l
  induction xs with
  |nil=>rfl
  |cons x r i=>
   cases q:p x with
   |true=>rw[X6 (b:=f x) (by rw[av q]),abd q,i];rfl
   |false=>rw[X5 (by rw[ax (by rw[q];simp)]),abe (by rw[q];simp),i]
 .rintro x g ρ ⟨o,rfl⟩
  cases q:p x with
  |true=>exact⟨_,zY rfl ((h x g).trans (by rw[q])) (l x g q) rfl (CK m),_,rfl⟩
  |false=>exact⟨_,Pf rfl ((h x g).trans (by rw[q])) (CK m),_,rfl⟩
theorem z6(xs:bg α):xs.filter (λ_=>To)=xs:=List.filter_eq_self.mpr λ_ _=>rfl
theorem jP{α:Type}(e f:α->D)(xs:bg α)(b:xs.length<=1000)(h:df cp=cp)(g:∀x∈xs,fe (lD (.fz (e x))::cp)=.ok (.fz (f x),lD (.fz (e x))::cp)):ku (dG (gN 0) dH fe (xs.map e) (Th::cp) [])=.ok (xs.map f):=by rw[wQ e f (λ_=>To) xs b h (λ_ _=>rfl) λx a _=>g x a,z6]
theorem zC(p:α->Bool):∀l:bg α,wR (l.map λc=>Tu.bool (p c))=lD (l.map p)
 |[]=>rfl
 |c::r=>by show(wR (r.map λc=>Tu.bool (p c))).map (p c::·)=_;rw[zC p r];rfl
theorem Hc(p:α->Bool)(l:bg α):HH [.list (l.map λc=>Tu.bool (p c))]=lD (.fz (.bool (l.all p))):=by show(wR _).map (λbs=>RV.fz (.bool (bs.all id)))=_;rw[zC];show lD (RV.fz (.bool _))=_;rw[List.all_map];rfl
theorem sC:∀ns:bg Int,pI (ns.map Tu.int)=lD ns
 |[]=>rfl
 |n::r=>by show(pI (r.map Tu.int)).map (n::·)=_;rw[sC r];rfl
abbrev Ac:=Nat->br Mn
abbrev Wq:=br (bg Nat×Int×br (Nat×Int))
structure VF where
 ac:Ac
 wt:Wq
 oc:br Int
def gC(ac:Ac):bg (Nat×Mn):=(TY 5).filterMap λk=>(ac k).map λa=>(k,a)
def pD(p:Nat×Mn):D:=.tuple [nd p.1,mD p.2]
def uJ:br (Nat×Int)->D
 |some (c,n)=>mD (.Yl c n)
 |none=>.tuple [.str "chord"]
def jH:Wq->D
 |some (ks,a,w)=>.tuple [.tuple (bA ks),.int a,uJ w]
 |none=>.none
def uy:br Int->D
 |some o=>.int o
 |none=>.none
def gH(s:VF):D:=.tuple [.tuple ((gC s.ac).map pD),jH s.wt,uy s.oc]
inductive Z8 where
 |down (k:Nat)
 |up (k:Nat)
 |turn
def fU:Z8->D
 |.down k=>.tuple [.str "down",nd k]
 |.up k=>.tuple [.str "up",nd k]
 |.turn=>.tuple [.str "turn",.int 0]
theorem fF:p∈gC ac↔p.1<5/\ac p.1=lD p.2:=by
 unfold gC;rw[XA];constructor
 .rintro⟨k,e,b⟩
  cases q:ac k with
  |none=>rw[q]at b;cases b
  |some a=>rw[q]at b;cases b;exact⟨V0.mp e,q⟩
 .rintro⟨e,b⟩;exact⟨p.1,V0.mpr e,by rw[b];rfl⟩
theorem wE(ac:Ac):(gC ac).length<=5:=List.length_filterMap_le _ _
def EH:Nat×Mn->br Int
 |(_,.V2 n)=>lD n
 |_=>Th
def zV(ac:Ac):Int:=(((gC ac).filterMap EH).foldl kr Th).getD 0
def jF(ac:Ac):br Int->Int
 |some o=>o
 |none=>zV ac
theorem Gz(ac:Ac):ku (dG (gT 2 (EK (gN 0) (EK (gN 1) Nr))) (aK (aM dh (aM bJ (ad 1) (~~~0)) (pC (.str "layer")))) (aM bJ (ad 1) (~~~1)) ((gC ac).map pD) [Th,Th] [])=.ok (((gC ac).filterMap EH).map .int):=by
 rw[xl pD (λp=>(EH p).map .int) (λρ=>∃e b,ρ=[e,b]) (gC ac) ⟨Th,Th,rfl⟩ (Uv (wE ac) (by decide)) ?_,List.map_filterMap];rintro⟨k,a⟩ _ ρ ⟨e,b,rfl⟩;have h:=qu a;have g:=EW a;have f:aK (aM dh (aM bJ (ad 1) (~~~0)) (pC (.str "layer"))) [lD (.fz (nd k)),lD (.fz (mD a))]=.ok (a.acy,[lD (.fz (nd k)),lD (.fz (mD a))]):=by fail "ev"
 refine⟨[lD (.fz (nd k)),lD (.fz (mD a))],?_,_,_,rfl⟩;cases a with
 |V2 n=>exact zY rfl f (aN (af rfl) aD rfl rfl lf) rfl rfl
 |_=>exact Pf rfl f rfl
theorem yW(s:VF):dI [gH s]=.ok (.fz (.int (jF s.ac s.oc))):=by
 refine jL rfl ?_;have a:bJ (gH s) (.int 2)=lD (.fz (uy s.oc)):=qh;have e0:bJ (gH s) (.int 0)=lD (.fz (.tuple ((gC s.ac).map pD))):=jq;unfold nk;cases q:s.oc with
 |some o=>
  rw[q]at a;have b:oJ (uy (lD o)) .none=lD (.fz (.bool To)):=rfl;fail "go"
  .intro _;exact j7 (by fail "ev") rfl rfl
  .intro h;cases h
 |none=>
  rw[q]at a;have b:oJ (uy Th) .none=lD (.fz (.bool Tw)):=rfl;fail "go"
  .intro h;cases h
  .intro _;refine gG (eW (gM (rv:=.fz (.int (zV s.ac))) (ah (dL (by fail "ev") rfl (Gz s.ac)) aC) rfl ?_) rfl rfl);show(pI _).map _=_;rw[sC];rfl
def jz(b:Bd)(L k:Nat):Mn:=((b.ls[L]?.getD [])[k]?).getD .none
def look(b:Bd)(L:Int)(k:Nat):Mn:=if(jz b L.toNat k).isB=To then jz b 0 k else jz b L.toNat k
section
variable{b:Bd}(Z:VB b)
include Z
theorem ML{L k:Nat}(a:L<b.ls.length)(f:(k:Int)<b.n):∃l,b.ls[L]?=lD l/\l[k]?=lD (jz b L k):=by
 have g:=Z.vl L _ (TK a);have e:k<(b.ls[L]).length:=by omega
 refine⟨_,TK a,?_⟩;unfold jz;rw[TK a,X3,TK e];rfl
theorem AG{L k:Nat}(e:L<b.ls.length)(a:(k:Int)<b.n):VM L b.ls.length (jz b L k):=by obtain⟨l,g,f⟩:=ML Z e a;exact(Z.vl L l g).2 _ (Ug f)
theorem Gn{L k:Nat}(e:L<b.ls.length)(a:(k:Int)<b.n):∃d,bJ (.tuple (b.ls.map lQ)) (nd L)=lD (.fz d)/\bJ d (nd k)=lD (.fz (mD (jz b L k))):=by obtain⟨l,g,f⟩:=ML Z e a;exact⟨lQ l,OX (by rw[TH,g];rfl),OX (by rw[TH,f];rfl)⟩
theorem K6{L:Int}{k:Nat}(r:0<=L)(p:L<b.ls.length)(e:(k:Int)<b.n):iR [bD b,.int L,nd k]=.ok (.fz (mD (look b L k))):=by
 obtain⟨n,rfl⟩:∃n:Nat,L=(n:Int):=⟨L.toNat,by omega⟩;have o:=Z.l1;obtain⟨d,u,j⟩:=Gn Z (L:=n) (by omega) e;obtain⟨l,i,h⟩:=Gn Z (L:=0) (by omega) e;have v:bJ (bD b) (.int 1)=lD (.fz (.tuple (b.ls.map lQ))):=lf;have g:=qu (jz b n k);have f:=Fm (jz b n k);have t:bJ (.tuple (b.ls.map lQ)) (.int 0)=lD (.fz l):=i;have a:look b (n:Int) k=if(jz b n k).isB=To then jz b 0 k else jz b n k:=rfl
 rw[a];generalize jz b n k=m at j g f a;generalize jz b 0 k=m0 at h a;refine jL rfl ?_;unfold lw;fail "go"
 .intro q;rw[av q];exact j7 (by fail "ev") rfl rfl
 .intro q;rw[ax (by rw[q];simp)];exact gG (eW (by fail "ev") rfl rfl)
theorem wq{L:Int}{k:Nat}(g:0<=L)(i:L<b.ls.length)(f:(k:Int)<b.n):VM L b.ls.length (look b L k)/\look b L k≠.below:=by
 have h:=Z.l1;have a:=AG Z (L:=0) (k:=k) (by omega) f;have v:=AG Z (L:=L.toNat) (k:=k) (by omega) f;have e:jz b 0 k≠.below:=λz=>by rw[z]at a;exact a rfl
 rw[acM g]at v;unfold look;split
 .refine⟨?_,e⟩
  generalize jz b 0 k=m at a e;cases m with
  |below=>exact a6 rfl e
  |_=>exact a
 .rename_i q;refine⟨v,λz=>?_⟩;rw[z]at q;exact q rfl
omit Z in
theorem F8(ks:bg Nat)(a:ks.length<=5)(c:bg Nat×Nat):aK (ji HH {fA 1 [0] (jV (ad 1)) (gN 0) dH (aM Kq (ad 0) (aM bJ (ad 1) (~~~0)))}) [lD (.fz (gX c)),lD (.fz (.tuple (bA ks)))]=.ok (ks.all λk=>decide (k∈c.1),[lD (.fz (gX c)),lD (.fz (.tuple (bA ks)))]):=by
 have e:ku (dG (gN 0) dH (aM Kq (ad 0) (aM bJ (ad 1) (~~~0))) (bA ks) [Th,lD (.fz (gX c))] [])=.ok (ks.map λk=>.bool (decide (k∈c.1))):=jP nd (λk=>.bool (decide (k∈c.1))) ks (by omega) rfl λk _=>by have e0:bJ (gX c) (.int 0)=lD (.fz (.tuple (bA c.1))):=jq;exact aN (rv:=.fz (.bool (decide (k∈c.1)))) (af rfl) (by fail "ev") rfl rfl (v4 _ _)
 exact bN (gM (rv:=.fz (.bool (ks.all λk=>decide (k∈c.1)))) (ds:=[.list (ks.map λk=>.bool (decide (k∈c.1)))]) (ah (dL (cs:=[gX c]) (ds:=bA ks) (by fail "ev") rfl e) aC) rfl (Hc _ _)) rfl
def dr(b:Bd)(ks:bg Nat):bg (bg Nat×Nat):=b.cs.filter λc=>ks.all λk=>decide (k∈c.1)
theorem Cg(a:ks.length<=5):bL [bD b,.tuple (bA ks)]=.ok (.ow ((dr b ks).map gX)):=by have f:bJ (bD b) (.int 2)=lD (.fz (.tuple (b.cs.map gX))):=qh;have e:=Z.c4;refine jL rfl ?_;unfold jp;exact eW (dL (cs:=[.tuple (bA ks)]) (by fail "ev") rfl (wQ gX gX (λc=>ks.all λk=>decide (k∈c.1)) b.cs (by omega) rfl (λc _=>F8 ks a c) λc _ _=>af rfl)) rfl rfl
def qY(ks:bg Nat):bg Nat:=(lG (ks.map aaf)).map abv
omit Z in
theorem se(ks:bg Nat):(qY ks).Perm ks:=by have h:=(fJ (ks.map aaf)).map abv;rw[Ui]at h;exact h.trans (by rw[show(abv∘aaf)=id from funext λx=>rfl,agj])
omit Z in
theorem Jt(ks:bg Nat):(lG (ks.map aaf)).map Tu.int=bA (qY ks):=by unfold qY bA;rw[Ui];refine WB λx a=>?_;obtain⟨n,_,rfl⟩:=T3.mp ((fJ _).mem_iff.mp a);rfl
omit Z in
theorem Bc(ks:bg Nat):(qY ks).Pairwise (·<=·):=by
 have h:∀l:bg Int,l.Pairwise (·<=·)->(l.map abv).Pairwise (·<=·):=λl h=>by rw[XW];exact h.imp λh=>by omega
 exact h _ (eR _)
omit Z in
theorem Kx(ks:bg Nat):(qY ks).length=ks.length:=(se ks).length_eq
omit Z in
theorem yx{ks:bg Nat}(h:ks.length<64):L9.ig [.tuple (bA ks)]=lD (.ow (bA (qY ks))):=by
 have e:bA ks=(ks.map aaf).map Tu.int:=by rw[Ui];rfl
 show(match pI (bA ks) with
  |some a=>if a.length<64 then lD (RV.ow ((lG a).map .int)) else Th
  |none=>Th)=_
 rw[e,sC];dsimp only;rw[av (by rw[Tj];exact h),Jt]
def Hs(b:Bd)(ks:bg Nat):bg Mn:=match b.cs.find? λc=>decide (c.1=qY ks) with
 |some c=>.Ua c.2::TJ (ks.length - 1) .none
 |none=>ks.map (jz b 0)
omit Z in
omit Z in
theorem Rc(n:Nat)(d:D):(TJ n [d]).flatten=TJ n d:=by
 induction n with
 |zero=>rfl
 |succ n a=>rw[UN,VV,a];rfl
theorem OL{ks:bg Nat}(H:1<=ks.length)(G:ks.length<=5)(C:∀k∈ks,(k:Int)<b.n):fX [bD b,.tuple (bA ks)]=.ok (.ow ((Hs b ks).map mD)):=by
 have I:bJ (bD b) (.int 2)=lD (.fz (.tuple (b.cs.map gX))):=qh;have J:bJ (bD b) (.int 1)=lD (.fz (.tuple (b.ls.map lQ))):=lf;have F:=Z.l1;have i:=yx (ks:=ks) (by omega);refine jL rfl ?_;unfold jY;have rt:∀c:bg Nat×Nat,(aM cB (eT {bw {pC (.str "letter"),aM bJ (ad 2) (~~~1)}}) (aM jx (eT {pC (.tuple [(.str "none")])}) (aM xj (ji fP {ad 1}) (~~~1)))) [lD (.fz (bD b)),lD (.fz (.tuple (bA ks))),lD (.fz (gX c))]=.ok (.ow ((Mn.Ua c.2::TJ (ks.length - 1) Mn.none).map mD),[lD (.fz (bD b)),lD (.fz (.tuple (bA ks))),lD (.fz (gX c))]):=λc=>by
  have l:bJ (gX c) (.int 1)=lD (.fz (.str (eD c.2))):=lf;have j:jx (.list [.tuple [.str "none"]]) (.int (((bA ks).length:Int) - 1))=lD (.ow (TJ (ks.length - 1) (.tuple [.str "none"]))):=by rw[ez,show((ks.length:Int) - 1)=((ks.length - 1:Nat):Int) by omega];exact(Ow (by omega) (by decide)).trans (by rw[Rc])
  have y:cB (.list [mD (.Ua c.2)]) (.list (TJ (ks.length - 1) (.tuple [.str "none"])))=lD (.ow ((Mn.Ua c.2::TJ (ks.length - 1) Mn.none).map mD)):=by show(if 1+(TJ (ks.length - 1) (Tu.tuple [.str "none"])).length<=1000000 then lD (RV.ow ([mD (.Ua c.2)]++TJ (ks.length - 1) (Tu.tuple [.str "none"]))) else Th)=_;rw[Ut,av (by omega),TX,List.map_replicate];rfl
  exact aN (by fail "ev") (aN (by fail "ev") (aN (by fail "ev") aD rfl rfl (AU _ _)) rfl rfl j) rfl rfl y
 have f:∀(e:bg (bg Nat×Nat)) (o:br PV),(∀c,e.find? (λc=>decide (c.1=qY ks))=lD c->qS (gN 2) (pd (aK (aM dh (ji wj {aM bJ (ad 2) (~~~0)}) (ji L9.ig {ad 1}))) (eS (aM cB (eT {bw {pC (.str "letter"),aM bJ (ad 2) (~~~1)}}) (aM jx (eT {pC (.tuple [(.str "none")])}) (aM xj (ji fP {ad 1}) (~~~1))))) gu) (e.map gX) [lD (.fz (bD b)),lD (.fz (.tuple (bA ks))),o]=.ok (.rt (.ow ((Mn.Ua c.2::TJ (ks.length - 1) Mn.none).map mD))))/\
   (e.find? (λc=>decide (c.1=qY ks))=Th->∃u,qS (gN 2) (pd (aK (aM dh (ji wj {aM bJ (ad 2) (~~~0)}) (ji L9.ig {ad 1}))) (eS (aM cB (eT {bw {pC (.str "letter"),aM bJ (ad 2) (~~~1)}}) (aM jx (eT {pC (.tuple [(.str "none")])}) (aM xj (ji fP {ad 1}) (~~~1))))) gu) (e.map gX) [lD (.fz (bD b)),lD (.fz (.tuple (bA ks))),o]=.ok (.nx [lD (.fz (bD b)),lD (.fz (.tuple (bA ks))),u])):=by
  intro e
  induction e with
  |nil=>exact λo=>⟨λc h=>(by cases h),λ_=>⟨o,rfl⟩⟩
  |cons c r B=>
   intro o;have E:bJ (gX c) (.int 0)=lD (.fz (.tuple (bA c.1))):=jq
   have a:aK (aM dh (ji wj {aM bJ (ad 2) (~~~0)}) (ji L9.ig {ad 1})) [lD (.fz (bD b)),lD (.fz (.tuple (bA ks))),lD (.fz (gX c))]=.ok (decide (c.1=qY ks),[lD (.fz (bD b)),lD (.fz (.tuple (bA ks))),lD (.fz (gX c))]):=
    bN (aN (gM (by fail "ev") rfl rfl) (gM (by fail "ev") rfl i) rfl rfl (wb _ _)) rfl
   rw[Uw];by_cases h:c.1=qY ks
   .rw[aP h]at a⊢;refine⟨λK t=>?_,λt=>(by cases t)⟩;cases t;show((gN 2 (.fz (gX c)) [lD (.fz (bD b)),lD (.fz (.tuple (bA ks))),o]).bind λg=>_)=_;rw[II,dP];show((pd _ _ _ [lD (.fz (bD b)),lD (.fz (.tuple (bA ks))),lD (.fz (gX c))]).bind _)=_;rw[Se a,wv (rt c) rfl];rfl
   .rw[a4 h]at a⊢
    have w:qS (gN 2) (pd (aK (aM dh (ji wj {aM bJ (ad 2) (~~~0)}) (ji L9.ig {ad 1}))) (eS (aM cB (eT {bw {pC (.str "letter"),aM bJ (ad 2) (~~~1)}}) (aM jx (eT {pC (.tuple [(.str "none")])}) (aM xj (ji fP {ad 1}) (~~~1))))) gu) ((c::r).map gX) [lD (.fz (bD b)),lD (.fz (.tuple (bA ks))),o]=qS (gN 2) (pd (aK (aM dh (ji wj {aM bJ (ad 2) (~~~0)}) (ji L9.ig {ad 1}))) (eS (aM cB (eT {bw {pC (.str "letter"),aM bJ (ad 2) (~~~1)}}) (aM jx (eT {pC (.tuple [(.str "none")])}) (aM xj (ji fP {ad 1}) (~~~1))))) gu) (r.map gX) [lD (.fz (bD b)),lD (.fz (.tuple (bA ks))),lD (.fz (gX c))]:=by show((gN 2 (.fz (gX c)) [lD (.fz (bD b)),lD (.fz (.tuple (bA ks))),o]).bind λg=>_)=_;rw[II,dP];show((pd _ _ _ [lD (.fz (bD b)),lD (.fz (.tuple (bA ks))),lD (.fz (gX c))]).bind _)=_;rw[Sh a];rfl
    rw[w];exact B _
 obtain⟨A,m⟩:=f b.cs Th;have v:jV (aM bJ (ad 0) (~~~2)) [lD (.fz (bD b)),lD (.fz (.tuple (bA ks))),Th]=.ok (b.cs.map gX,[lD (.fz (bD b)),lD (.fz (.tuple (bA ks))),Th]):=by fail "ev"
 unfold Hs;cases q:b.cs.find? λc=>decide (c.1=qY ks) with
 |some c=>exact .eq (HQ ((Ah v).trans (A c q))) ⟨rfl⟩
 |none=>obtain⟨u,m⟩:=m q;refine .eq (IV ((Ah v).trans m)) ?_;refine eW (dL (by fail "ev") rfl ?_) rfl rfl;rw[Ui];refine jP nd (mD∘jz b 0) ks (by omega) rfl λk p=>?_;obtain⟨d,l,j⟩:=Gn Z (L:=0) (by omega) (C k p);have l:bJ (.tuple (b.ls.map lQ)) (.int 0)=lD (.fz d):=l;exact aN (by fail "ev") (af rfl) rfl rfl j
end
end STP
local macro_rules|`(-($x))=>`(Option.some (.fz $x))
namespace STP
open PySem L2 L3
open L10
def kB(p:Nat×Mn):cN×SV:=(.inl (p.1:Int),.fz (mD p.2))
def lg(ac:Ac)(k:Nat)(o:br Mn):Ac:=λj=>if j=k then o else ac j
theorem dY:lg ac k o k=o:=by unfold lg;rw[av rfl]
theorem fM(h:j≠k):lg ac k o j=ac j:=by unfold lg;rw[ax h]
theorem FZ(ac:Ac):(gC ac).Pairwise λp q=>p.1<q.1:=by
 unfold gC;refine agk _ (λa g h p f q b=>?_) (abw);cases e:ac a with
 |none=>rw[e]at f;cases f
 |some x=>
  cases e':ac g with
  |none=>rw[e']at b;cases b
  |some y=>rw[e]at f;rw[e']at b;cases f;cases b;exact h
theorem tN(ac:Ac):((gC ac).map (·.1)).Nodup:=by rw[US,XW];exact(FZ ac).imp λh=>T8 h
theorem BJ{l:bg (Nat×Mn)}(h:(l.map (·.1)).Nodup):l.Nodup:=by rw[US,XW]at h;exact h.imp λh e=>h (by rw[e])
theorem uq{l:bg (Nat×Mn)}(h:(l.map (·.1)).Nodup)(hm:∀p,p∈l↔p.1<5/\ac p.1=lD p.2):l.Perm (gC ac):=
 (List.perm_ext_iff_of_nodup (BJ h) (BJ (tN ac))).mpr λp=>(hm p).trans fF.symm
section
variable{ps:bg (Nat×Mn)}{ac:Ac}(Z:ps.Perm (gC ac))
include Z
theorem k7:p∈ps↔p.1<5/\ac p.1=lD p.2:=Z.mem_iff.trans fF
theorem GI:(ps.map (·.1)).Nodup:=(Z.map (·.1)).nodup_iff.mpr (tN ac)
theorem E7:ps.length<=5:=by rw[Z.length_eq];exact wE ac
theorem nW{k:Nat}(b:k<5):j4 (ps.map kB) (.inl (k:Int))=(ac k).map λa=>SV.fz (mD a):=by
 unfold j4;cases q:(ps.map kB).find? λkv=>decide (kv.1=(.inl (k:Int):cN)) with
 |none=>
  cases e:ac k with
  |none=>rfl
  |some a=>have:=List.find?_eq_none.mp q (kB (k,a)) (T3.mpr ⟨(k,a),(k7 Z).mpr ⟨b,e⟩,rfl⟩);exact a6 (aP rfl) this
 |some kv=>
  obtain⟨p,h,rfl⟩:=T3.mp (Wy q);have g:=a5 (List.find?_some (p:=λkv:cN×SV=>decide (kv.1=(.inl (k:Int):cN))) q);have f:p.1=k:=by have:=Sum.inl.inj g;omega
  rw[<-f,((k7 Z).mp h).2];rfl
theorem Jp{k:Nat}(o:k<5):∃qs:bg (Nat×Mn),ko (ps.map kB) (.inl (k:Int)) (.fz (mD a))=qs.map kB/\qs.Perm (gC (lg ac k (lD a))):=by
 unfold ko;have g:∀p:Nat×Mn,((kB p).1=(.inl (k:Int):cN))↔p.1=k:=λp=>⟨λh=>by have:=Sum.inl.inj h;omega,λh=>by rw[<-h];rfl⟩;split
 .rename_i h
  refine⟨ps.map λp=>if p.1=k then(k,a) else p,?_,uq ?_ λp=>?_⟩
  .rw[Ui,Ui]
   refine WB λp _=>?_;show(if(kB p).1=(.inl (k:Int):cN) then((kB p).1,SV.fz (mD a)) else kB p)=kB (if p.1=k then(k,a) else p);by_cases e:p.1=k
   .rw[av ((g p).mpr e),av e,(g p).mpr e];rfl
   .rw[ax (λz=>e ((g p).mp z)),ax e]
  .rw[Ui,show ps.map ((·.1)∘λp:Nat×Mn=>if p.1=k then(k,a) else p)=ps.map (·.1) from WB λp _=>by
    show(if p.1=k then(k,a) else p).1=p.1;split
    .rename_i e;exact e.symm
    .rfl]
   exact GI Z
  .obtain⟨w,l,j⟩:=Z7.mp h
   obtain⟨n,v,rfl⟩:=T3.mp l;have b:=(g n).mp (a5 j);rw[T3];constructor
   .rintro⟨r,u,rfl⟩
    split
    .exact⟨o,dY⟩
    .rename_i e;have:=(k7 Z).mp u;exact⟨this.1,by rw[fM e];exact this.2⟩
   .rintro⟨f,i⟩
    by_cases e:p.1=k
    .rw[e,dY]at i;refine⟨n,v,?_⟩;rw[av b,<-e,TQ i]
    .rw[fM e]at i;exact⟨p,(k7 Z).mpr ⟨f,i⟩,by rw[ax e]⟩
 .rename_i h
  have hn:=λp m e=>h (Z7.mpr ⟨kB p,T3.mpr ⟨p,m,rfl⟩,aP ((g p).mpr e)⟩);refine⟨ps++[(k,a)],by rw[Uj];rfl,uq ?_ λp=>?_⟩
  .rw[Uj,Wi];refine⟨GI Z,U5.mpr ⟨Vj,YN⟩,λx t y q=>?_⟩;obtain⟨p,b,rfl⟩:=T3.mp t;rw[TN.mp q];exact hn p b
  .rw[Uy,TN]
   constructor
   .rintro(b|rfl)
    .have:=(k7 Z).mp b;exact⟨this.1,by rw[fM (hn p b)];exact this.2⟩
    .exact⟨o,dY⟩
   .rintro⟨b,f⟩
    by_cases e:p.1=k
    .rw[e,dY]at f;exact .inr (by rw[<-e,TQ f])
    .rw[fM e]at f;exact .inl ((k7 Z).mpr ⟨b,f⟩)
theorem HF{k:Nat}:∃qs:bg (Nat×Mn),nA (ps.map kB) (.inl (k:Int))=qs.map kB/\qs.Perm (gC (lg ac k Th)):=by
 have g:∀p:Nat×Mn,((kB p).1=(.inl (k:Int):cN))↔p.1=k:=λp=>⟨λh=>by have:=Sum.inl.inj h;omega,λh=>by rw[<-h];rfl⟩;refine⟨ps.filter λp=>decide (p.1≠k),?_,uq ?_ λp=>?_⟩
 .unfold nA;rw[List.filter_map];congr 1;refine List.filter_congr λp _=>?_;exact decide_eq_decide.mpr (not_congr (g p))
 .exact akx ((List.filter_sublist).map _) (GI Z)
 .rw[VQ,k7 Z,decide_eq_true_eq]
  constructor
  .rintro⟨⟨b,a⟩,f⟩;exact⟨b,by rw[fM f];exact a⟩
  .rintro⟨b,a⟩
   by_cases e:p.1=k
   .rw[e,dY]at a;cases a
   .rw[fM e]at a;exact⟨⟨b,a⟩,e⟩
theorem Hw:aL Ar ((ps.map kB).map (·.1))=lD (ps.map λp=>(p.1:Int)):=by
 clear Z
 induction ps with
 |nil=>rfl
 |cons p r a=>rw[TX,TX];unfold aL;rw[a];rfl
theorem ES:lG (ps.map λp=>(p.1:Int))=(gC ac).map λp=>(p.1:Int):=by refine l4 ((fJ _).trans (Z.map _)) (eR _) ?_;rw[XW];exact(FZ ac).imp λh=>by omega
end
abbrev Sn:=bg (Nat×Bool)
def ny(ac:Ac)(a:Mn):Bool:=decide (a∈(gC ac).map (·.2))
def tY(ac:Ac):Mn->Sn
 |.Ua c=>if ny ac (.Ua c)=To then[] else[(c,To)]
 |_=>[]
def Ng(ac:Ac):Mn->Sn
 |.Ua c=>if ny ac (.Ua c)=To then[] else[(c,Tw)]
 |_=>[]
def eU(p:VF×Sn)(k:Nat)(a:Mn):VF×Sn:=({p.1 with ac:=lg p.1.ac k (lD a)},p.2++tY p.1.ac a)
def go(p:VF×Sn)(k:Nat):VF×Sn:=match p.1.ac k with
 |some a=>({p.1 with ac:=lg p.1.ac k Th},p.2++Ng (lg p.1.ac k Th) a)
 |none=>p
def gU(p:VF×Sn)(a:bg (Nat×Mn)):VF×Sn:=a.foldl (λp q=>eU p q.1 q.2) p
def gb(b:Bd)(ks:bg Nat):br (Nat×Int)->bg Mn
 |some (_,n)=>[.V2 n]
 |none=>Hs b ks
def bS(b:Bd)(p:VF×Sn):VF×Sn:=match p.1.wt with
 |none=>p
 |some (ks,_,w)=>gU ({p.1 with wt:=Th},p.2) (ks.zip (gb b ks w))
def xZ:Wq->Nat->Bool
 |some (ks,_,_),k=>decide (k∈ks)
 |none,_=>Tw
def Cz(b:Bd)(s:VF)(k:Nat):Bool:=match s.wt with
 |some (ks,_,Th)=>decide (jF s.ac s.oc=0)&& !(dr b (ks++[k])).isEmpty
 |_=>Tw
def rb(b:Bd)(p:VF×Sn)(k:Nat):VF×Sn:=match p.1.wt with
 |some (ks,g,_)=>if(dr b (ks++[k])).map (·.1.length)=[(ks++[k]).length] then bS b ({p.1 with wt:=lD (ks++[k],g,Th)},p.2) else({p.1 with wt:=lD (ks++[k],g,Th)},p.2)
 |none=>p
def d8(s:VF)(m:Mn):VF:=if(m.acy||m.isO)=To then s else{s with oc:=Th}
def wX(b:Bd)(L:Int)(p:VF×Sn)(k:Nat):Mn->VF×Sn
 |.Yl c n=>({p.1 with wt:=lD ([k],0,lD (c,n))},p.2)
 |.Ua c=>if(decide (L=0)&& !(dr b [k]).isEmpty)=To then({p.1 with wt:=lD ([k],0,Th)},p.2) else eU p k (.Ua c)
 |.once n=>({(eU p k .none).1 with oc:=lD n},(eU p k .none).2)
 |m=>eU p k m
def Ae(b:Bd)(p:VF×Sn)(k:Nat):VF×Sn:=
 wX b (jF p.1.ac p.1.oc) (d8 p.1 (look b (jF p.1.ac p.1.oc) k),p.2) k (look b (jF p.1.ac p.1.oc) k)
def gR(b:Bd)(p:VF×Sn)(k:Nat):VF×Sn:=
 if((p.1.ac k).isSome||xZ p.1.wt k)=To then p else if Cz b p.1 k=To then rb b p k else Ae b (bS b p) k
def cj(b:Bd)(p:VF×Sn)(k:Nat):VF×Sn:=match p.1.wt with
 |some (_,_,Th)=>bS b p
 |some (_,_,lD (c,_))=>eU ({p.1 with wt:=Th},p.2) k (.Ua c)
 |none=>p
def mh(b:Bd)(p:VF×Sn)(k:Nat):VF×Sn:=go (if xZ p.1.wt k=To then cj b p k else p) k
def gv(b:Bd)(p:VF×Sn):VF×Sn:=match p.1.wt with
 |none=>p
 |some (ks,g,w)=>if g+1=b.wt then bS b ({p.1 with wt:=lD (ks,g+1,w)},p.2) else({p.1 with wt:=lD (ks,g+1,w)},p.2)
def ce(b:Bd)(s:VF):Z8->VF×Sn
 |.down k=>gR b (s,[]) k
 |.up k=>mh b (s,[]) k
 |.turn=>gv b (s,[])
def vn(b:Bd)(s:VF):bg (Str×SV):=[("bed",.fz (bD b)),("acts",.rf 1),("waiting",.fz (jH s.wt)),("once",.fz (uy s.oc)),("sent",.rf 2)]
def o0(p:Nat×Bool):D:=.tuple [.str (eD p.1),.str (if p.2=To then "down" else "up")]
def dX(b:Bd)(s:VF)(sn:Sn)(ps:bg (Nat×Mn))(J:a9):a9:=.obj "Hand" (vn b s):: .Y4 (ps.map kB):: .lst ((sn.map o0).map .fz)::J
def HS(b:Bd)(p:VF×Sn)(Z:a9):Prop:=∃ps J,ps.Perm (gC p.1.ac)/\Z=dX b p.1 p.2 ps J
section
variable{b:Bd}{s:VF}{sn:Sn}{ps:bg (Nat×Mn)}{J:a9}{ρ:bu}{i:Nat}{Z:a9}{p:VF×Sn}{k:Nat}{a:Mn}
theorem Pr:(vn b s).lookup ("bed":Str)=-(bD b):=by unfold vn;rw[We]
theorem JC:(vn b s).lookup ("acts":Str)=lD (.rf 1):=by unfold vn;rw[T4,show(("acts":Str)== "bed")=Tw by left];dsimp only;rw[We]
theorem Lc:(vn b s).lookup ("waiting":Str)=-(jH s.wt):=by unfold vn;rw[T4,show(("waiting":Str)== "bed")=Tw by left];dsimp only;rw[T4,show(("waiting":Str)== "acts")=Tw by left];dsimp only;rw[We]
theorem KN:(vn b s).lookup ("once":Str)=-(uy s.oc):=by unfold vn;rw[T4,show(("once":Str)== "bed")=Tw by left];dsimp only;rw[T4,show(("once":Str)== "acts")=Tw by left];dsimp only;rw[T4,show(("once":Str)== "waiting")=Tw by left];dsimp only;rw[We]
theorem KK:(vn b s).lookup ("sent":Str)=lD (.rf 2):=by unfold vn;rw[T4,show(("sent":Str)== "bed")=Tw by left];dsimp only;rw[T4,show(("sent":Str)== "acts")=Tw by left];dsimp only;rw[T4,show(("sent":Str)== "waiting")=Tw by left];dsimp only;rw[T4,show(("sent":Str)== "once")=Tw by left];dsimp only;rw[We]
def So(m:Str):Bool:=(m== "bed"||m== "acts"||m== "waiting"||m== "once"||m== "sent")==Tw
theorem QD(h:So m=To):(vn b s).lookup m=Th:=by unfold So at h;simp only[beq_iff_eq,acg]at h;obtain⟨⟨⟨⟨l,j⟩,g⟩,f⟩,e⟩:=h;unfold vn;rw[T4,l];dsimp only;rw[T4,j];dsimp only;rw[T4,g];dsimp only;rw[T4,f];dsimp only;rw[T4,e];rfl
theorem pG(h:ρ[i]?=lD (lD (.rf 0))):bx "Hand" "bed" (ay i) ρ (dX b s sn ps J)=.ok (.fz (bD b)) (dX b s sn ps J):=jf (bh h) rfl Pr
theorem ib(h:ρ[i]?=lD (lD (.rf 0))):bx "Hand" "acts" (ay i) ρ (dX b s sn ps J)=.ok (.rf 1) (dX b s sn ps J):=jf (bh h) rfl JC
theorem bZ(h:ρ[i]?=lD (lD (.rf 0))):bx "Hand" "waiting" (ay i) ρ (dX b s sn ps J)=.ok (.fz (jH s.wt)) (dX b s sn ps J):=jf (bh h) rfl Lc
theorem Ci(h:ρ[i]?=lD (lD (.rf 0))):bx "Hand" "once" (ay i) ρ (dX b s sn ps J)=.ok (.fz (uy s.oc)) (dX b s sn ps J):=jf (bh h) rfl KN
theorem wP(h:ρ[i]?=lD (lD (.rf 0))):bx "Hand" "sent" (ay i) ρ (dX b s sn ps J)=.ok (.rf 2) (dX b s sn ps J):=jf (bh h) rfl KK
theorem HV(w:Wq):eZ "waiting" (.fz (jH w)) (vn b s)=vn b {s with wt:=w}:=by unfold vn;unfold eZ;rw[ax (by left)];unfold eZ;rw[ax (by left)];unfold eZ;rw[av rfl]
theorem IJ(o:br Int):eZ "once" (.fz (uy o)) (vn b s)=vn b {s with oc:=o}:=by unfold vn;unfold eZ;rw[ax (by left)];unfold eZ;rw[ax (by left)];unfold eZ;rw[ax (by left)];unfold eZ;rw[av rfl]
theorem lS(w:Wq)(h:ρ[i]?=lD (lD (.rf 0)))(e:fe ρ Z=.ok (.fz (jH w)) (dX b s sn ps J)):gc "Hand" "waiting" (ay i) fe ρ Z=.ok (.nx ρ) (dX b {s with wt:=w} sn ps J):=
 (p9 e (bh h) rfl (by exact Tq rfl)).trans (by rw[HV];rfl)
theorem Dq(o:br Int)(h:ρ[i]?=lD (lD (.rf 0)))(e:fe ρ Z=.ok (.fz (uy o)) (dX b s sn ps J)):gc "Hand" "once" (ay i) fe ρ Z=.ok (.nx ρ) (dX b {s with oc:=o} sn ps J):=
 (p9 e (bh h) rfl (by exact Tq rfl)).trans (by rw[IJ];rfl)
theorem cb(e:HS b p Z)(hm:So m=To)(h:ρ[i]?=lD (lD (.rf 0)))(ha:fa ρ Z=.ok xs Z)(hn:(SV.rf 0::xs).length=n)(f:F (.rf 0::xs) Z=.ok x Z'):bc "Hand" m F n (ay i) fa ρ Z=.ok x Z':=by obtain⟨ps,J,g,rfl⟩:=e;exact JL (bh h) rfl (QD hm) ha hn f
theorem GJ(ps:bg (Nat×Mn)):(ps.map kB).map (·.2)=((ps.map (·.2)).map mD).map SV.fz:=by rw[Ui,Ui,Ui];rfl
def AK(ac:Ac):Prop:=∀k a,ac k=lD a->k<5/\LB a
theorem F9(f:HS b p Z)(g:AK p.1.ac)(ha:LB a):∃Z',bU [.rf 0,.fz (mD a)] Z=.ok (.fz (.bool (ny p.1.ac a))) Z'/\HS b p Z':=by
 obtain⟨ps,J,e,rfl⟩:=f;have j:ny p.1.ac a=decide (a∈ps.map (·.2)):=decide_eq_decide.mpr (e.map (·.2)).symm.mem_iff;have lb:∀m∈ps.map (·.2),LB m:=λm hm=>by obtain⟨q,h,rfl⟩:=T3.mp hm;exact(g _ _ ((k7 e).mp h).2).2
 refine⟨dX b p.1 p.2 ps (J++[.lst ((ps.map kB).map (·.2))]),?_,ps,_,e,rfl⟩;rw[j];exact j8 rfl (jh (cJ (ag (af rfl)) (LL (ib rfl) rfl) (Am rfl (iG (by rw[GJ];exact bH)) (JN ha lb))))
theorem Dg(f:sn.length<1000)(h:ρ[i]?=lD (lD (.rf 0)))(e:fe ρ (dX b s sn ps J)=.ok (.fz (o0 (c,d))) (dX b s sn ps J)):pX (bx "Hand" "sent" (ay i)) fe ρ (dX b s sn ps J)=.ok (.fz .none) (dX b s (sn++[(c,d)]) ps J):=
 (tT (wP h) rfl e rfl (by rw[Tj,Tj];omega)).trans (by unfold dX;rw[Uj,Uj];rfl)
theorem r8(e:ps.Perm (gC s.ac))(h:k<5)(o:ρ[0]?=lD (lD (.rf 0)))(n:ρ[1]?=lD (-(nd k)))(m:ρ[2]?=lD (-(mD a))):∃qs:bg (Nat×Mn),qs.Perm (gC (lg s.ac k (lD a)))/\zq (bx "Hand" "acts" (ay 0)) (ae (ad 1)) (ae (ad 2)) ρ (dX b s sn ps J)=.ok (.nx ρ) (dX b {s with ac:=lg s.ac k (lD a)} sn qs J):=by obtain⟨qs,l,j⟩:=Jp e h;have g:ad 1 (cD ρ)=.ok (.fz (nd k),cD ρ):=af (by unfold cD;rw[TH,n];rfl);have f:ad 2 (cD ρ)=.ok (.fz (mD a),cD ρ):=af (by unfold cD;rw[TH,m];rfl);refine⟨qs,j,(L8 (ag f) (ib o) (ag g) rfl rfl (by rw[Tj];have:=E7 e;omega)).trans ?_⟩;rw[l];rfl
theorem rJ(l:HS b p Z)(v:AK p.1.ac)(ha:LB a)(m:k<5)(u:p.2.length<1000):∃Z',bB [.rf 0,.fz (nd k),.fz (mD a)] Z=.ok (.fz .none) Z'/\HS b (eU p k a) Z':=by
 have e0:=qu a;have t:=lP a;cases q:a.isL with
 |false=>
  obtain⟨ps,J,h,rfl⟩:=l;rw[q]at t;obtain⟨f,j,w⟩:=r8 (ρ:=[lD (.rf 0),-(nd k),-(mD a)]) h m rfl rfl rfl;refine⟨_,oV rfl (de (fE (iq (bz (by fail "ev"))) fH) w),f,J,j,?_⟩;have:tY p.1.ac a=[]:=by cases a<;>first|rfl|cases q
  unfold eU;rw[this,Uo]
 |true=>
  rw[q]at t;obtain⟨y,j,A⟩:=F9 l v ha;have g:∀r,ny p.1.ac a=r->(n9 (bT (aK (aM dh (aM bJ (ad 2) (~~~0)) (pC (.str "letter"))))) (uP (bM (bc "Hand" "has_act" bU 2 (ay 0) (ao (ae (ad 2)) aX))))) [lD (.rf 0),-(nd k),-(mD a)] Z=.ok (!r) y:=λr e=>by rw[e]at j;exact jE (bz (by fail "ev")) (on (aV (cb l (by left) rfl (ar (ag (af rfl)) aU) rfl j)))
  obtain⟨ps,J,h,rfl⟩:=A;cases q2:ny p.1.ac a with
  |true=>
   obtain⟨f,o,n⟩:=r8 (ρ:=[lD (.rf 0),-(nd k),-(mD a)]) h m rfl rfl rfl;refine⟨_,oV rfl (de (fE (g To q2) fH) n),f,J,o,?_⟩;have:tY p.1.ac a=[]:=by
    cases a<;>first|cases q|skip
    show(if ny p.1.ac _=To then _ else _)=_;rw[av q2]
   unfold eU;rw[this,Uo]
  |false=>
   cases a<;>first|cases q|skip
   rename_i c;obtain⟨f,o,n⟩:=r8 (ρ:=[lD (.rf 0),-(nd k),-(mD (.Ua c))]) (sn:=p.2++[(c,To)]) h m rfl rfl rfl;have B:bJ (mD (.Ua c)) (.int 1)=-(.str (eD c)):=lf;refine⟨_,oV rfl (de (dW (g Tw q2) (ia (Dg u rfl (ag (show _=Res.ok (PV.fz (.tuple [.str (eD c),.str "down"]),_) by fail "ev"))))) n),f,J,o,?_⟩;have:tY p.1.ac (.Ua c)=[(c,To)]:=by show(if ny p.1.ac _=To then _ else _)=_;rw[ax (by rw[q2];simp)]
   unfold eU;rw[this]
end
end STP
namespace STP
open PySem L2 L3 L10
def VA(a:Int):Mn->Prop
 |.Ua c=>c<26
 |.V2 n=>1<=n/\n<a
 |.none=>True
 |_=>False
theorem VA.lb(h:VA nL m):LB m:=by
 cases m with
 |Ua c=>exact h
 |Yl c n=>exact h.elim
 |_=>trivial
structure SA(b:Bd)(s:VF):Prop where
 ac:∀k a,s.ac k=lD a->(k:Int)<b.n/\VA b.ls.length a
 oc:∀o,s.oc=lD o->1<=o/\o<b.ls.length
structure WV(b:Bd)(ac:Ac)(ks:bg Nat)(g:Int)(w:br (Nat×Int)):Prop where
 ne:ks≠[]
 nd:ks.Nodup
 kn:∀k∈ks,(k:Int)<b.n
 kf:∀k∈ks,ac k=Th
 g0:0<=g
 tp:∀c n,w=lD (c,n)->c<26/\(1<=n/\n<b.ls.length)/\ks.length=1
 ch:w=Th->∀k∈ks,re (b.ls.headD []) k=To
structure SW(b:Bd)(s:VF):Prop where
 sa:SA b s
 wt:∀ks g w,s.wt=lD (ks,g,w)->WV b s.ac ks g w/\g<b.wt
theorem z7{ks:bg Nat}(hd:ks.Nodup)(h:∀k∈ks,k<n):ks.length<=n:=by rw[<-Kx ks];have b:=(se ks).nodup_iff.mpr hd;refine Jy (((Bc ks).and b).imp λh=>by omega) λk a=>h k ((se ks).mem_iff.mp a)
section
variable{b:Bd}(Z:VB b){s:VF}{p:VF×Sn}{ks:bg Nat}{g:Int}{w:br (Nat×Int)}{ac:Ac}{k:Nat}{a:Mn}
include Z
theorem WV.len(h:WV b ac ks g w):ks.length<=5:=z7 h.nd λk e=>by have:=h.kn k e;have:=Z.n5;omega
omit Z in
theorem WV.ajM(h:WV b ac ks g w):1<=ks.length:=List.length_pos_iff.mpr h.ne
theorem SA.ak(h:SA b s):AK s.ac:=λk a e=>by have:=h.ac k a e;have:=Z.n5;exact⟨by omega,(h.ac k a e).2.lb⟩
omit Z in
theorem SA.cm(h:SA b p.1)(f:(k:Int)<b.n)(ha:VA b.ls.length a):SA b (eU p k a).1:=by
 refine⟨λj x e=>?_,h.oc⟩;by_cases z:j=k
 .subst z;have i:lD a=lD x:=(dY (ac:=p.1.ac) (k:=j) (o:=lD a)).symm.trans e;cases i;exact⟨f,ha⟩
 .exact h.ac j x ((fM z).symm.trans e)
omit Z in
theorem SA.gg(h:SA b p.1):SA b (go p k).1:=by
 unfold go;split
 .refine⟨λj x e=>?_,h.oc⟩
  by_cases z:j=k
  .subst z;exact a6 ((dY (ac:=p.1.ac) (k:=j) (o:=Th)).symm.trans e) (by simp)
  .exact h.ac j x ((fM z).symm.trans e)
 .exact h
omit Z in
theorem nV:(eU p k a).2.length<=p.2.length+1:=by
 show(p.2++tY p.1.ac a).length<=_;rw[Tz];have:(tY p.1.ac a).length<=1:=by
  cases a with
  |Ua c=>show(if _ then _ else _:Sn).length<=1;split<;>simp
  |_=>simp[tY]
 omega
omit Z in
theorem Ey(e:bg (Nat×Mn)):∀p:VF×Sn,(gU p e).2.length<=p.2.length+e.length:=by
 induction e with
 |nil=>exact λp=>TB _
 |cons q r f=>intro p;have i:=f (eU p q.1 q.2);have h:=nV (p:=p) (k:=q.1) (a:=q.2);show(gU (eU p q.1 q.2) r).2.length<=_;rw[TR];omega
omit Z in
theorem SA.cms(e:bg (Nat×Mn)):∀{p:VF×Sn},SA b p.1->(∀q∈e,(q.1:Int)<b.n/\VA b.ls.length q.2)->SA b (gU p e).1/\(gU p e).1.wt=p.1.wt/\(gU p e).1.oc=p.1.oc:=by
 induction e with
 |nil=>exact λh _=>⟨h,rfl,rfl⟩
 |cons q r j=>intro p h f;have i:=f q Ts;exact j (h.cm i.1 i.2) λx l=>f x (Tx _ l)
theorem p7(h:re (b.ls.headD []) k=To):∃c,jz b 0 k=.Ua c:=by
 have i:=Z.l1;obtain⟨f,r,e⟩:∃f r,b.ls=f::r:=by
  cases q:b.ls with
  |nil=>rw[q]at i;cases i
  |cons l r=>exact⟨l,r,rfl⟩
 unfold re at h;unfold jz;rw[e]at h⊢;rw[abc,X3];rw[adX]at h;cases q:f[k]? with
 |none=>rw[q]at h;cases h
 |some m=>
  rw[q]at h;cases m with
  |Ua c=>exact⟨c,rfl⟩
  |_=>cases h
theorem Ju(f:(k:Int)<b.n)(h:re (b.ls.headD []) k=To):VA b.ls.length (jz b 0 k):=by have i:=Z.l1;obtain⟨c,e⟩:=p7 Z h;have:=AG Z (L:=0) (by omega) f;rw[e]at this⊢;exact this
theorem Oz(h:WV b ac ks g Th):∀m∈Hs b ks,VA b.ls.length m:=by
 intro m hm;unfold Hs at hm;split at hm
 .rename_i c f
  rcases T1.mp hm with rfl|hm
  .exact(Z.vc c (Wy f)).2.2.2
  .rw[(Zi.mp hm).2];trivial
 .obtain⟨j,e,rfl⟩:=T3.mp hm;exact Ju Z (h.kn j e) (h.ch rfl j e)
theorem wJ(h:WV b ac ks g w):∀q∈ks.zip (gb b ks w),(q.1:Int)<b.n/\VA b.ls.length q.2:=by
 intro q f;have e:=Wa f;refine⟨h.kn _ e.1,?_⟩;cases w with
 |none=>exact Oz Z h _ e.2
 |some i=>obtain⟨c,n⟩:=i;rw[TN.mp e.2];exact(h.tp c n rfl).2.1
def WD(b:Bd)(s:VF):Prop:=∀ks g w,s.wt=lD (ks,g,w)->WV b s.ac ks g w
theorem dZ(h:SA b p.1)(i:WD b p.1):SW b (bS b p).1/\(bS b p).1.wt=Th/\(bS b p).2.length<=p.2.length+5/\(bS b p).1.oc=p.1.oc:=by
 unfold bS;split
 .rename_i q;exact⟨⟨h,λks g w e=>by rw[q]at e;cases e⟩,q,adY _ _,rfl⟩
 .rename_i ks g w q
  have v:=i ks g w q;obtain⟨l,f,j⟩:=SA.cms (ks.zip (gb b ks w)) (p:=({p.1 with wt:=Th},p.2)) ⟨h.ac,h.oc⟩ (wJ Z v);refine⟨⟨l,λ_ _ _ e=>?_⟩,f,?_,j⟩
  .rw[f]at e;cases e
  .have:=Ey (ks.zip (gb b ks w)) ({p.1 with wt:=Th},p.2);have m:=v.len Z;rw[adZ]at this;have:(gU ({p.1 with wt:=Th},p.2) (ks.zip (gb b ks w))).2.length<=p.2.length+min ks.length (gb b ks w).length:=this;omega
omit Z in
theorem CA:∀(l:bg Int) (m:br Int),l.foldl kr m=m\/∃x∈l,l.foldl kr m=lD x
 |[],m=>.inl rfl
 |x::r,m=>by
  rw[Yq];rcases CA r (kr m x) with h|⟨y,hy,h⟩
  .rw[h]
   cases m with
   |none=>exact .inr ⟨x,Ts,rfl⟩
   |some z=>
    show lD (if x>z then x else z)=lD z\/_;split
    .exact .inr ⟨x,Ts,by show lD (if x>z then x else z)=_;rename_i q;rw[av q]⟩
    .exact .inl rfl
  .exact .inr ⟨y,Tx _ hy,h⟩
omit Z in
theorem Dk:∀(l:bg Int) (m:br Int),(∀x∈l,∃y,l.foldl kr m=lD y/\x<=y)/\∀z,m=lD z->∃y,l.foldl kr m=lD y/\z<=y
 |[],m=>⟨λx i=>(by cases i),λz h=>⟨z,h,YU _⟩⟩
 |x::r,m=>by
  rw[Yq];obtain⟨q,o⟩:=Dk r (kr m x);have n:∃z,kr m x=lD z/\x<=z/\∀u,m=lD u->u<=z:=by
   cases m with
   |none=>exact⟨x,rfl,YU _,λu h=>by cases h⟩
   |some u=>
    refine⟨if x>u then x else u,rfl,?_,λv h=>?_⟩
    .split<;>omega
    .cases h;split<;>omega
  obtain⟨z,A,C,t⟩:=n;obtain⟨y,f,B⟩:=o z A;refine⟨λv e=>?_,λu j=>⟨y,f,by have:=t u j;omega⟩⟩;rcases T1.mp e with rfl|e
  .exact⟨y,f,by omega⟩
  .exact q v e
omit Z in
theorem Cd{ac:Ac}{n:Int}:n∈(gC ac).filterMap EH↔∃k,k<5/\ac k=lD (.V2 n):=by
 rw[XA];constructor
 .rintro⟨⟨k,m⟩,f,e⟩
  have h:=fF.mp f;cases m with
  |V2 x=>have:x=n:=TQ e;subst this;exact⟨k,h.1,h.2⟩
  |_=>cases e
 .rintro⟨k,f,e⟩;exact⟨(k,.V2 n),fF.mpr ⟨f,e⟩,rfl⟩
theorem JQ(h:SA b s):0<=zV s.ac/\zV s.ac<b.ls.length/\(∀k n,s.ac k=lD (.V2 n)->n<=zV s.ac)/\(zV s.ac=0\/∃k,s.ac k=lD (.V2 (zV s.ac))):=by
 have o:=Z.l1;have q:=Z.n5;unfold zV;generalize hm:((gC s.ac).filterMap EH).foldl kr Th=m;have j:=(Dk ((gC s.ac).filterMap EH) Th).1;have f:=CA ((gC s.ac).filterMap EH) Th;rw[hm]at j f;have up:∀k n,s.ac k=lD (.V2 n)->∃y,m=lD y/\n<=y:=λk n e=>j n (Cd.mpr ⟨k,by have:=(h.ac k _ e).1;omega,e⟩);cases m with
 |none=>refine⟨YU _,by show(0:Int)<_;omega,λk n e=>?_,.inl rfl⟩;obtain⟨y,i,_⟩:=up k n e;cases i
 |some x=>
  rcases f with f|⟨y,hy,f⟩
  .cases f
  .cases f;obtain⟨k,_,e⟩:=Cd.mp hy;have:=(h.ac k _ e).2;have:1<=x/\x<b.ls.length:=this;refine⟨by show 0<=x;omega,by show x<_;omega,λk n e=>?_,.inr ⟨k,e⟩⟩;obtain⟨y,i,l⟩:=up k n e;cases i;exact l
theorem wI(h:SA b s):0<=jF s.ac s.oc/\jF s.ac s.oc<b.ls.length:=by
 cases q:s.oc with
 |none=>have:=JQ Z h;exact⟨this.1,this.2.1⟩
 |some o=>have:=h.oc o q;exact⟨by show 0<=o;omega,this.2⟩
end
section
variable{b:Bd}{s:VF}{sn:Sn}{ps:bg (Nat×Mn)}{J:a9}{ρ:bu}{i:Nat}{Z:a9}{p:VF×Sn}{k:Nat}{a:Mn}
theorem AR(h:f x=lD y):aL f [x]=lD [y]:=by unfold aL;rw[h];rfl
theorem iz:(l++[c]).set l.length c'=l++[c']:=by simp
theorem pO(f:HS b p Z):∃Z',bK [.rf 0] Z=.ok (.fz (gH p.1)) Z'/\HS b p Z':=by
 obtain⟨ps,J,e,rfl⟩:=f;have h:=E7 e;have j:iB (vV (bx "Hand" "acts" (ay 0))) [lD (.rf 0)] (dX b p.1 p.2 ps J)=.ok ((gC p.1.ac).map λq=>nd q.1) (dX b p.1 p.2 ps (J++[.dead])):=by
  refine(xN (ds:=(gC p.1.ac).map λq=>nd q.1) (K3 (ib rfl) rfl (Hw e) (by rw[Tj];omega)) ?_).trans ?_
  .rw[ES e];refine bH.trans ?_;rw[Ui,Ui];rfl
  .rw[iz];rfl
 have l:eK (fK 0) tm (ph (ao (ae (ad 0)) (ao (vC (bx "Hand" "acts" (ay 1)) (ae (ad 0))) aX))) ((gC p.1.ac).map λq=>nd q.1) [Th,lD (.rf 0)] (dX b p.1 p.2 ps (J++[.dead])) []=.ok (((gC p.1.ac).map pD).map .fz) (dX b p.1 p.2 ps (J++[.dead])):=by refine(pN (λq:Nat×Mn=>nd q.1) (λq=>.fz (pD q)) _ (λρ=>∃o,ρ=[o,lD (.rf 0)]) (gC p.1.ac) _ [] ⟨Th,rfl⟩ (by have:=wE p.1.ac;rw[Vq];omega) ?_).trans (by rw[Ui];rfl);rintro q g ρ ⟨o,rfl⟩;have hm:=fF.mp g;refine⟨[-(nd q.1),lD (.rf 0)],rfl,rfl,?_,_,rfl⟩;exact xG (ar (ag (af rfl)) (ar (JE (ib rfl) (ag (af rfl)) rfl rfl (by rw[nW e hm.1,hm.2];rfl)) aU)) (Tq rfl)
 have tp:Dx ou (ao (ui 1 [0] (iB (vV (bx "Hand" "acts" (ay 0)))) (fK 0) tm (ph (ao (ae (ad 0)) (ao (vC (bx "Hand" "acts" (ay 1)) (ae (ad 0))) aX)))) aX) [lD (.rf 0)] (dX b p.1 p.2 ps J)=.ok (.fz (.tuple ((gC p.1.ac).map pD))) (dX b p.1 p.2 ps (J++[.dead]++[.lst (((gC p.1.ac).map pD).map .fz)])):=
  CH (ar (BQ j l) aU) (AR (iG bH)) rfl
 exact⟨_,j8 rfl (jh (xG (ar tp (ar (bZ rfl) (ar (Ci rfl) aU))) (Tq rfl))),ps,_,e,rfl⟩
theorem Gg(h:HS b p Z):b8 [.rf 0,.fz (nd k)] Z=.ok (.fz (.bool (xZ p.1.wt k))) Z:=by
 obtain⟨ps,J,l,rfl⟩:=h;refine j8 rfl (jh ?_);cases q:p.1.wt with
 |none=>
  have e:oJ (jH p.1.wt) .none=-(.bool Tw):=by rw[q];rfl
  exact Ef (aV (cJ (bZ rfl) (ag aD) (bW e)))
 |some x=>
  obtain⟨f,g,w⟩:=x;have e:oJ (jH p.1.wt) .none=-(.bool To):=by rw[q];rfl
  have j:bJ (jH p.1.wt) (.int 0)=-(.tuple (bA f)):=by rw[q];exact jq
  exact vJ (aV (cJ (bZ rfl) (ag aD) (bW e))) (cJ (ag (af rfl)) (dj (bZ rfl) (ag aD) j) (bW (v4 _ _)))
theorem Qt(E:HS b p Z)(o:AK p.1.ac)(ha:p.1.ac k=lD a)(F:p.2.length<1000):∃Z',jB [.rf 0,.fz (nd k)] Z=.ok (.fz .none) Z'/\HS b (go p k) Z':=by
 obtain⟨ps,J,A,rfl⟩:=E;have G:=(o k a ha).1;have lb:=(o k a ha).2;obtain⟨f,K,v⟩:=HF A
 have m:yU (bx "Hand" "acts" (ay 0)) (ae (ad 1)) [lD (.rf 0),-(nd k),Th] (dX b p.1 p.2 ps J)=.ok (.fz (mD a)) (dX b {p.1 with ac:=lg p.1.ac k Th} p.2 f J):=
  (Kw (ib rfl) rfl (ag (af rfl)) rfl rfl (by rw[nW A G,ha];rfl)).trans (by rw[K];rfl)
 have H:go p k=({p.1 with ac:=lg p.1.ac k Th},p.2++Ng (lg p.1.ac k Th) a):=by unfold go;rw[ha]
 rw[H];have n:AK (lg p.1.ac k Th):=λj x e=>by
  by_cases z:j=k
  .subst z;rw[dY]at e;cases e
  .rw[fM z]at e;exact o j x e
 have e0:=qu a;have N:=lP a;have h:aK (aM dh (aM bJ (ad 2) (~~~0)) (pC (.str "letter"))) (cD [lD (.rf 0),-(nd k),-(mD a)])=.ok (a.isL,cD [lD (.rf 0),-(nd k),-(mD a)]):=by fail "ev"
 have u:Xy (cA (n9 (bT (aK (aM dh (aM bJ (ad 2) (~~~0)) (pC (.str "letter"))))) (uP (bM (bc "Hand" "has_act" bU 2 (ay 0) (ao (ae (ad 2)) aX))))) (bV (pX (bx "Hand" "sent" (ay 0)) (ae (bw {aM bJ (ad 2) (~~~1),pC (.str "up")})))) cC [lD (.rf 0),-(nd k),-(mD a)] (dX b {p.1 with ac:=lg p.1.ac k Th} p.2 f J)) (λ_ Z'=>SV.fz .none=.fz .none/\HS b ({p.1 with ac:=lg p.1.ac k Th},p.2++Ng (lg p.1.ac k Th) a) Z') (λ_ _=>False) (λr Z'=>r=.fz .none/\HS b ({p.1 with ac:=lg p.1.ac k Th},p.2++Ng (lg p.1.ac k Th) a) Z'):=by
  cases q:a.isL with
  |false=>
   rw[q]at h;refine eB (iq (bz h)) (lR ⟨rfl,f,J,v,?_⟩);have:Ng (lg p.1.ac k Th) a=[]:=by cases a<;>first|rfl|cases q
   rw[this,Uo]
  |true=>
   rw[q]at h;obtain⟨B,t,L⟩:=F9 (p:=({p.1 with ac:=lg p.1.ac k Th},p.2)) ⟨f,J,v,rfl⟩ n lb;have g:∀l,ny (lg p.1.ac k Th) a=l->(n9 (bT (aK (aM dh (aM bJ (ad 2) (~~~0)) (pC (.str "letter"))))) (uP (bM (bc "Hand" "has_act" bU 2 (ay 0) (ao (ae (ad 2)) aX))))) [lD (.rf 0),-(nd k),-(mD a)] (dX b {p.1 with ac:=lg p.1.ac k Th} p.2 f J)=.ok (!l) B:=λl e=>by
    have t:bU [.rf 0,.fz (mD a)] (dX b {p.1 with ac:=lg p.1.ac k Th} p.2 f J)=.ok (.fz (.bool l)) B:=by rw[<-e];exact t
    exact jE (bz h) (on (aV (cb (p:=({p.1 with ac:=lg p.1.ac k Th},p.2)) ⟨f,J,v,rfl⟩ (by left) rfl (ar (ag (af rfl)) aU) rfl t)))
   obtain⟨w,C,y,I⟩:=L;rw[I]at g;cases q2:ny (lg p.1.ac k Th) a with
   |true=>
    refine eB (g To q2) (lR ⟨rfl,w,C,y,?_⟩);have:Ng (lg p.1.ac k Th) a=[]:=by
     cases a<;>first|cases q|skip
     show(if ny (lg p.1.ac k Th) _=To then _ else _)=_;rw[av q2]
    rw[this,Uo]
   |false=>
    cases a<;>first|cases q|skip
    rename_i c;have M:bJ (mD (.Ua c)) (.int 1)=-(.str (eD c)):=lf;refine tG (g Tw q2) (i6 (Dg (d:=Tw) F rfl (ag (show _=Res.ok (PV.fz (.tuple [.str (eD c),.str "up"]),_) by fail "ev"))) ⟨rfl,w,C,y,?_⟩);have:Ng (lg p.1.ac k Th) (.Ua c)=[(c,Tw)]:=by show(if ny (lg p.1.ac k Th) _=To then _ else _)=_;rw[ax (by rw[q2];simp)]
    rw[this]
 exact jc rfl (jN m rfl u)
end
section
variable{b:Bd}(Y:VB b){s:VF}{sn:Sn}{ps:bg (Nat×Mn)}{J:a9}{ρ:bu}{i:Nat}{Z:a9}{p:VF×Sn}{k:Nat}{a:Mn}{ks:bg Nat}{g:Int}{w:br (Nat×Int)}
theorem Ij:∀(ks:bg Nat) (e:bg Mn),mH (bA ks) (e.map mD)=(ks.zip e).map pD
 |[],_=>by cases ‹bg Mn›<;>rfl
 |_::_,[]=>rfl
 |k::r,a::t=>by show Tu.tuple [nd k,mD a]::mH (bA r) (t.map mD)=_;rw[Ij r t];rfl
theorem Bf(h:∀c n,w=lD (c,n)->c<26):dh (uJ w) (.tuple [.str "chord"])=-(.bool w.isNone)/\tK (uJ w) (.tuple [.str "chord"])=-(.bool w.isSome):=by
 cases w with
 |none=>
  have l:lY (.tuple [.str "chord"])=To:=by left
  have j:Tu.canLay0 (.tuple [.str "chord"])=To:=by left
  have f:Tu.eqv (.tuple [.str "chord"]) (.tuple [.str "chord"])=To:=by left
  constructor
  .show(if(lY (.tuple [.str "chord"])&&Tu.canLay0 (.tuple [.str "chord"]))=To then lD (RV.fz (.bool (Tu.eqv (.tuple [.str "chord"]) (.tuple [.str "chord"])))) else Th)=_;rw[l,j,f];rfl
  .show(if(lY (.tuple [.str "chord"])&&Tu.canLay0 (.tuple [.str "chord"]))=To then lD (RV.fz (.bool (!Tu.eqv (.tuple [.str "chord"]) (.tuple [.str "chord"])))) else Th)=_;rw[l,j,f];rfl
 |some m=>
  obtain⟨c,n⟩:=m;have lb:LB (.Yl c n):=h c n rfl;have e:Tu.eqv (mD (.Yl c n)) (.tuple [.str "chord"])=Tw:=by show(decide (("tap":Str)= "chord")&&Tu.eqvAll [.str (eD c),.int n] [])=Tw;rw[show decide (("tap":Str)= "chord")=Tw by left];rfl
  constructor
  .show(if(lY (mD (.Yl c n))&&Tu.canLay0 (.tuple [.str "chord"]))=To then lD (RV.fz (.bool (Tu.eqv (mD (.Yl c n)) (.tuple [.str "chord"])))) else Th)=_;rw[G6 lb,show Tu.canLay0 (.tuple [.str "chord"])=To by left,e];rfl
  .show(if(lY (mD (.Yl c n))&&Tu.canLay0 (.tuple [.str "chord"]))=To then lD (RV.fz (.bool (!Tu.eqv (mD (.Yl c n)) (.tuple [.str "chord"])))) else Th)=_;rw[G6 lb,show Tu.canLay0 (.tuple [.str "chord"])=To by left,e];rfl
theorem yT(ks:bg Nat)(w:br (Nat×Int))(f:bg Mn):∀(h:bg (Nat×Mn)) (p:VF×Sn) (Z:a9) (n m:br SV),HS b p Z->AK p.1.ac->(∀q∈h,q.1<5/\LB q.2)->p.2.length+h.length<1000->
  ∃ρ' Z',gP (Mp 2 (lA (fK 4) (lA (fK 5) yK))) (bV (bc "Hand" "come" bB 3 (ay 0) (ao (ae (ad 4)) (ao (ae (ad 5)) aX)))) (h.map pD) [lD (.rf 0),-(.tuple (bA ks)),-(uJ w),-(.list (f.map mD)),n,m] Z=.ok (.nx ρ') Z'/\HS b (gU p h) Z'
 |[],p,Z,n,m,hs,_,_,_=>⟨_,Z,rfl,hs⟩
 |q::r,p,Z,n,m,hs,hA,hq,hl=>by
  rw[TR]at hl;have l:=hq q Ts;obtain⟨t,A,E⟩:=rJ hs hA l.2 l.1 (by omega);have o:AK (eU p q.1 q.2).1.ac:=λj x e=>by
   by_cases z:j=q.1
   .have B:lD q.2=lD x:=by rw[z]at e;exact(dY).symm.trans e
    cases B;exact⟨by rw[z];exact l.1,l.2⟩
   .exact hA j x ((fM z).symm.trans e)
  have:=nV (p:=p) (k:=q.1) (a:=q.2);obtain⟨ρ',Z',y,C⟩:=yT ks w f r (eU p q.1 q.2) t (-(nd q.1)) (-(mD q.2)) E o (λx v=>hq x (Tx _ v)) (by omega);refine⟨ρ',Z',?_,C⟩
  have u:bV (bc "Hand" "come" bB 3 (ay 0) (ao (ae (ad 4)) (ao (ae (ad 5)) aX))) [lD (.rf 0),-(.tuple (bA ks)),-(uJ w),-(.list (f.map mD)),-(nd q.1),-(mD q.2)] Z=.ok (.nx [lD (.rf 0),-(.tuple (bA ks)),-(uJ w),-(.list (f.map mD)),-(nd q.1),-(mD q.2)]) t:=
   ia (cb hs (by left) rfl (ar (ag (af rfl)) (ar (ag (af rfl)) aU)) rfl A)
  show((bV (bc "Hand" "come" bB 3 (ay 0) (ao (ae (ad 4)) (ao (ae (ad 5)) aX))) [lD (.rf 0),-(.tuple (bA ks)),-(uJ w),-(.list (f.map mD)),-(nd q.1),-(mD q.2)] Z).bind _)=_;rw[u,d0];exact y
include Y
theorem l9(u:HS b p Z)(o:SA b p.1)(f:p.1.wt=lD (ks,g,w))(v:WV b p.1.ac ks g w)(L:p.2.length<900):∃Z',b3 [.rf 0] Z=.ok (.fz .none) Z'/\HS b (bS b p) Z':=by
 obtain⟨ps,J,A,rfl⟩:=u;have e0:bJ (jH p.1.wt) (.int 0)=-(.tuple (bA ks)):=by rw[f];exact jq
 have G:bJ (jH p.1.wt) (.int 2)=-(uJ w):=by rw[f];exact qh
 have r:=v.len Y;have t:=v.ajM;have F:=Bf λc n h=>(v.tp c n h).1;have E:bS b p=gU ({p.1 with wt:=Th},p.2) (ks.zip (gb b ks w)):=by unfold bS;rw[f]
 rw[E];have m:aK (aM dh (ad 2) (pC (.tuple [.str "chord"]))) (cD [lD (.rf 0),-(.tuple (bA ks)),-(uJ w),Th,Th,Th])=.ok (w.isNone,cD [lD (.rf 0),-(.tuple (bA ks)),-(uJ w),Th,Th,Th]):=bN (aN (af rfl) aD rfl rfl F.1) rfl;have l:uG (Jg (bT (aK (aM dh (ad 2) (pC (.tuple [(.str "chord")]))))) (jo fX 2 (ao (bx "Hand" "bed" (ay 0)) (ao (ae (ad 1)) aX))) (ae (eT {bw {pC (.str "layer"),aM bJ (ad 2) (~~~2)}}))) [lD (.rf 0),-(.tuple (bA ks)),-(uJ w),Th,Th,Th] (dX b {p.1 with wt:=Th} p.2 ps J)=.ok (.fz (.list ((gb b ks w).map mD))) (dX b {p.1 with wt:=Th} p.2 ps (J++[.dead])):=by
  cases w with
  |none=>have I:=OL Y t r v.kn;exact(xg (Co (bz m) (xq (ar (pG rfl) (ar (ag (af rfl)) aU)) rfl I)) (rT bH)).trans (by rw[iz];rfl)
  |some H=>obtain⟨c,n⟩:=H;have K:bJ (uJ (lD (c,n))) (.int 2)=-(.int n):=qh;exact(xg (Cu (bz m) (gQ (show _=Res.ok (PV.ow [.tuple [.str "layer",.int n]],_) by fail "ev"))) (rT bH)).trans (by rw[iz];rfl)
 have lp:∃e Z',uD (qp (Jb {ad 1,ad 3})) (Mp 2 (lA (fK 4) (lA (fK 5) yK))) (bV (bc "Hand" "come" bB 3 (ay 0) (ao (ae (ad 4)) (ao (ae (ad 5)) aX)))) [lD (.rf 0),-(.tuple (bA ks)),-(uJ w),-(.list ((gb b ks w).map mD)),Th,Th] (dX b {p.1 with wt:=Th} p.2 ps (J++[.dead]))=.ok (.nx e) Z'/\HS b (gU ({p.1 with wt:=Th},p.2) (ks.zip (gb b ks w))) Z':=by
  have M:=Y.n5;obtain⟨e,Z',C,B⟩:=yT ks w (gb b ks w) (ks.zip (gb b ks w)) ({p.1 with wt:=Th},p.2) (dX b {p.1 with wt:=Th} p.2 ps (J++[.dead])) Th Th ⟨ps,_,A,rfl⟩ (SA.ak Y ⟨o.ac,o.oc⟩) (λq y=>by
   have:=wJ Y v q y;exact⟨by omega,this.2.lb⟩) (by
   rw[adZ];show p.2.length+_<1000;omega)
  refine⟨e,Z',?_,B⟩;unfold uD;rw[sS (BZ (ah (af rfl) (ah (af rfl) aC)) rfl rfl rfl),d0,Ij];exact C
 obtain⟨e,Z',lp,j⟩:=lp;refine⟨Z',oV (ρ1:=e) rfl ?_,j⟩;exact de (v8 (dj (bZ rfl) (ag aD) e0) rfl) (de (v8 (dj (bZ rfl) (ag aD) G) rfl) (de (lS Th rfl (ag aD)) (de (v8 l rfl) lp)))
omit Y in
theorem JT{c:bg Nat×Nat}(h:c.2<26):Tu.canLay0 (gX c)=To:=by show(Tu.canLayAll0 (bA c.1)&&(Tu.strOk (eD c.2)&&To))=To;rw[jS,ul h];rfl
omit Y in
theorem N9:∀{cs:bg (bg Nat×Nat)},(∀c∈cs,c.2<26)->tK (.list (cs.map gX)) (.list [])=-(.bool (!cs.isEmpty)):=by
 intro cs h;have j:∀cs:bg (bg Nat×Nat),(∀c∈cs,c.2<26)->Tu.canLayAll0 (cs.map gX)=To:=by
  intro cs
  induction cs with
  |nil=>exact λ_=>rfl
  |cons c r e=>intro h;show(Tu.canLay0 (gX c)&&Tu.canLayAll0 (r.map gX))=To;rw[JT (h c Ts),e λx l=>h x (Tx _ l)];rfl
 have f:∀cs:bg (bg Nat×Nat),Tu.depthAll (cs.map gX)<=2:=by
  intro cs
  induction cs with
  |nil=>exact Ur _
  |cons c r e=>show max (Tu.depth (gX c)) (Tu.depthAll (r.map gX))<=2;refine aiC.mpr ⟨?_,e⟩;show max (Tu.depthAll (bA c.1)+1) (max 0 0)+1<=2;rw[oH];decide
 show(if((Tu.canLayAll0 (cs.map gX)&&decide (Tu.depthAll (cs.map gX)+1<=64))&&To)=To then lD (RV.fz (.bool (!Tu.eqvAll (cs.map gX) []))) else Th)=_;rw[j cs h,aP (show Tu.depthAll (cs.map gX)+1<=64 by have:=f cs;omega)];cases cs<;>rfl
theorem Kg(h:c∈dr b ks):c.2<26:=(Y.vc c (VQ.mp h).1).2.2.2
omit Y in
theorem Dv(h:ks≠[])(e:ks.length<=5):cB (.tuple (bA ks)) (.tuple [nd k])=-(.tuple (bA (ks++[k]))):=by
 show(if bA ks≠[]/\(bA ks).length+1<=1000000 then lD (RV.fz (.tuple (bA ks++[nd k]))) else Th)=_;rw[av ⟨by cases ks with
  |nil=>exact a6 rfl h
  |cons x r=>simp[bA],by rw[ez];omega⟩,Ke]
 rfl
theorem Cc{fa:cT}{Z1:a9}(e:∃ps J,Z1=dX b s sn ps J)(l:ρ[0]?=lD (lD (.rf 0)))(f:ks.length<=5)(h:fa ρ Z1=.ok (.fz (.tuple (bA ks))) Z1):kA tK (jo bL 2 (ao (bx "Hand" "bed" (ay 0)) (ao fa aX))) (ae (eT au)) ρ Z1=.ok (.fz (.bool (!(dr b ks).isEmpty))) (Z1++[.lst (((dr b ks).map gX).map .fz)]++[.lst []]):=by obtain⟨ps,J,rfl⟩:=e;refine cJ (xq (ds:=[bD b,.tuple (bA ks)]) (ar (pG l) (ar h aU)) rfl (Cg Y f)) (gQ (ds:=[]) (ρ':=cD ρ) (nw aC rfl (Ur _))) ?_;exact Am (iG (fD bH)) (iG (ds:=[]) bH) (N9 λc j=>Kg Y j)
theorem ND(l:HS b p Z)(G:SW b p.1)(N:(k:Int)<b.n)(hn:xZ p.1.wt k=Tw):∃Z',dJ [.rf 0,.fz (nd k)] Z=.ok (.fz (.bool (Cz b p.1 k))) Z'/\HS b p Z':=by
 cases q:p.1.wt with
 |none=>
  have m:Cz b p.1 k=Tw:=by unfold Cz;rw[q]
  rw[m];obtain⟨ps,J,j,rfl⟩:=l;have o:rc (jH p.1.wt) .none=-(.bool To):=by rw[q];rfl
  exact⟨_,j8 rfl (pE (dW (ut (aV (cJ (bZ rfl) (ag aD) (bW o)))) (jh (ag aD)))),ps,J,j,rfl⟩
 |some x=>
  obtain⟨ks,g,w⟩:=x;have v:=(G.wt ks g w q).1;have H:=v.len Y;have o:rc (jH p.1.wt) .none=-(.bool Tw):=by rw[q];rfl
  have E:bJ (jH p.1.wt) (.int 2)=-(uJ w):=by rw[q];exact qh
  have e0:bJ (jH p.1.wt) (.int 0)=-(.tuple (bA ks)):=by rw[q];exact jq
  have C:=(Bf λc n h=>(v.tp c n h).1).2;cases w with
  |some P=>
   have m:Cz b p.1 k=Tw:=by unfold Cz;rw[q]
   rw[m];obtain⟨ps,J,j,rfl⟩:=l;exact⟨_,j8 rfl (pE (dW (fu (aV (cJ (bZ rfl) (ag aD) (bW o))) (ut (aV (cJ (dj (bZ rfl) (ag aD) E) (ag aD) (bW C))))) (jh (ag aD)))),ps,J,j,rfl⟩
  |none=>
   have m:Cz b p.1 k=(decide (jF p.1.ac p.1.oc=0)&& !(dr b (ks++[k])).isEmpty):=by unfold Cz;rw[q]
   rw[m];obtain⟨A,L,F⟩:=pO l;have f:(zh (bM (kA rc (bx "Hand" "waiting" (ay 0)) (ae (pC .none)))) (zh (bM (kA tK (ke (bx "Hand" "waiting" (ay 0)) (ae (~~~2))) (ae (pC (.tuple [(.str "chord")]))))) (bM (kA tK (jo dI 1 (ao (bc "Hand" "stands" bK 1 (ay 0) aX) aX)) (ae (~~~0)))))) [lD (.rf 0),-(nd k)] Z=.ok (!decide (jF p.1.ac p.1.oc=0)) A:=by
    have M:bM (kA tK (jo dI 1 (ao (bc "Hand" "stands" bK 1 (ay 0) aX) aX)) (ae (~~~0))) [lD (.rf 0),-(nd k)] Z=.ok (!decide (jF p.1.ac p.1.oc=0)) A:=
     aV (cJ (xk (ar (cb l (by left) rfl aU rfl L) aU) rfl (yW p.1)) (ag aD) (bW (xS _ _)))
    obtain⟨ps,J,j,rfl⟩:=l;exact fu (aV (cJ (bZ rfl) (ag aD) (bW o))) (fu (aV (cJ (dj (bZ rfl) (ag aD) E) (ag aD) (bW C))) M)
   by_cases B:jF p.1.ac p.1.oc=0
   .rw[aP B]at f⊢
    obtain⟨ps,J,j,rfl⟩:=F;have u:k∉ks:=by rw[q]at hn;exact of_decide_eq_false hn
    have r:(ks++[k]).Nodup:=by rw[Wi];exact⟨v.nd,U5.mpr ⟨Vj,YN⟩,λx t y I e=>u (by rw[<-TN.mp I,<-e];exact t)⟩
    have K:(ks++[k]).length<=5:=z7 r λx t=>by
     have O:=Y.n5;rcases Uy.mp t with h|h
     .have:=v.kn x h;omega
     .rw[TN.mp h];omega
    refine⟨_,j8 rfl (de (fE f fH) (jh (Cc Y ⟨ps,J,rfl⟩ rfl K (cJ (dj (bZ rfl) (ag aD) e0) (ag (bQ (ah (af rfl) aC) rfl (Tq rfl))) (bW (Dv v.ne H)))))),ps,_,j,rfl⟩
   .rw[a4 B]at f⊢;exact⟨A,j8 rfl (pE (dW f (jh (ag aD)))),F⟩
end
section
variable{b:Bd}(Y:VB b){s:VF}{sn:Sn}{ps:bg (Nat×Mn)}{J:a9}{ρ:bu}{i:Nat}{Z:a9}{p:VF×Sn}{k:Nat}{a:Mn}{ks:bg Nat}{g:Int}{w:br (Nat×Int)}
include Y
theorem N6(v:WV b p.1.ac ks g w)(hn:k∉ks)(m:(k:Int)<b.n):(ks++[k]).Nodup/\(ks++[k]).length<=5:=by
 have f:(ks++[k]).Nodup:=by rw[Wi];exact⟨v.nd,U5.mpr ⟨Vj,YN⟩,λx j y l e=>hn (by rw[<-TN.mp l,<-e];exact j)⟩
 refine⟨f,z7 f λx j=>?_⟩;have o:=Y.n5;rcases Uy.mp j with h|h
 .have:=v.kn x h;omega
 .rw[TN.mp h];omega
theorem v9(o:SW b p.1)(m:(k:Int)<b.n)(ha:p.1.ac k=Th)(hn:xZ p.1.wt k=Tw)(hm:Cz b p.1 k=To):∃ks g,p.1.wt=lD (ks,g,Th)/\k∉ks/\WV b p.1.ac (ks++[k]) g Th/\g<b.wt:=by
 unfold Cz at hm;split at hm
 .rename_i ks g q
  rw[T6]at hm;obtain⟨v,t⟩:=o.wt ks g Th q;have f:k∉ks:=by rw[q]at hn;exact of_decide_eq_false hn
  obtain⟨l,B⟩:=N6 Y v f m;refine⟨ks,g,q,f,⟨by simp,l,λx e=>?_,λx e=>?_,v.g0,λc n h=>(by cases h),λ_ x e=>?_⟩,t⟩
  .rcases Uy.mp e with h|h
   .exact v.kn x h
   .rw[TN.mp h];exact m
  .rcases Uy.mp e with h|h
   .exact v.kf x h
   .rw[TN.mp h];exact ha
  .have j:=hm.2
   cases qo:dr b (ks++[k]) with
   |nil=>rw[qo]at j;cases j
   |cons c r=>
    have u:c∈dr b (ks++[k]):=by rw[qo];exact Ts
    obtain⟨A,y⟩:=VQ.mp u;have:=Vi.mp y x e;exact(Y.vc c A).2.2.1 x (a5 this)
 .cases hm
theorem Jv(t:HS b p Z)(l:SW b p.1)(h:p.1.wt=lD (ks,g,Th))(v:WV b p.1.ac (ks++[k]) g Th)(j:WV b p.1.ac ks g Th)(u:p.2.length<900):∃Z',dm [.rf 0,.fz (nd k)] Z=.ok (.fz .none) Z'/\HS b (rb b p k) Z':=by
 obtain⟨ps,J,m,rfl⟩:=t;have n:=v.len Y;have e0:bJ (jH p.1.wt) (.int 0)=-(.tuple (bA ks)):=by rw[h];exact jq
 have E:bJ (jH p.1.wt) (.int 1)=-(.int g):=by rw[h];exact lf
 have C:rb b p k=if(dr b (ks++[k])).map (·.1.length)=[(ks++[k]).length] then bS b ({p.1 with wt:=lD (ks++[k],g,Th)},p.2) else({p.1 with wt:=lD (ks++[k],g,Th)},p.2):=by unfold rb;rw[h]
 have G:HS b ({p.1 with wt:=lD (ks++[k],g,Th)},p.2) (dX b {p.1 with wt:=lD (ks++[k],g,Th)} p.2 ps J):=⟨ps,J,m,rfl⟩;have F:eK (fK 0) tm (ae (ji fP {aM bJ (ad 0) (~~~0)})) ((dr b (ks++[k])).map gX) [Th] (dX b {p.1 with wt:=lD (ks++[k],g,Th)} p.2 ps (J++[.dead])) []=.ok ((bA ((dr b (ks++[k])).map (·.1.length))).map .fz) (dX b {p.1 with wt:=lD (ks++[k],g,Th)} p.2 ps (J++[.dead])):=by
  refine(pN gX (λc=>.fz (nd c.1.length)) _ (λρ=>∃o,ρ=[o]) (dr b (ks++[k])) _ [] ⟨Th,rfl⟩ ?_ ?_).trans (by unfold bA;rw[Ui,Ui];rfl)
  .have:=Xd (λc:bg Nat×Nat=>(ks++[k]).all λk=>decide (k∈c.1)) b.cs;have:=Y.c4;show 0+(dr b (ks++[k])).length<=_;unfold dr;omega
  .rintro c _ ρ ⟨o,rfl⟩;have r:bJ (gX c) (.int 0)=-(.tuple (bA c.1)):=jq;refine⟨[-(gX c)],rfl,rfl,ag (gM (ah (aN (af rfl) aD rfl rfl r) aC) rfl ((kL _).trans (by rw[ez]))),_,rfl⟩
 have B:iB (jo bL 2 (ao (bx "Hand" "bed" (ay 0)) (ao (ae (ad 2)) aX))) [lD (.rf 0),-(nd k),-(.tuple (bA (ks++[k])))] (dX b {p.1 with wt:=lD (ks++[k],g,Th)} p.2 ps J)=.ok ((dr b (ks++[k])).map gX) (dX b {p.1 with wt:=lD (ks++[k],g,Th)} p.2 ps (J++[.dead])):=
  (xN (xq (ar (pG rfl) (ar (ag (af rfl)) aU)) rfl (Cg Y n)) bH).trans (by rw[iz];rfl)
 have rt:eT {ji fP {ad 2}} (cD [lD (.rf 0),-(nd k),-(.tuple (bA (ks++[k])))])=.ok (.ow (bA [(ks++[k]).length]),cD [lD (.rf 0),-(nd k),-(.tuple (bA (ks++[k])))]):=by refine nw (ah (gM (ah (af rfl) aC) rfl ((kL _).trans (by rw[ez]))) aC) rfl (Tq rfl)
 have f:bM (kA dh (ui 1 [] (iB (jo bL 2 (ao (bx "Hand" "bed" (ay 0)) (ao (ae (ad 2)) aX)))) (fK 0) tm (ae (ji fP {aM bJ (ad 0) (~~~0)}))) (ae (eT {ji fP {ad 2}}))) [lD (.rf 0),-(nd k),-(.tuple (bA (ks++[k])))] (dX b {p.1 with wt:=lD (ks++[k],g,Th)} p.2 ps J)=.ok (decide ((dr b (ks++[k])).map (·.1.length)=[(ks++[k]).length])) (dX b {p.1 with wt:=lD (ks++[k],g,Th)} p.2 ps (J++[.dead])++[.lst ((bA ((dr b (ks++[k])).map (·.1.length))).map .fz)]++[.lst ((bA [(ks++[k]).length]).map .fz)]):=
  aV (cJ (BQ B F) (gQ rt) (Am (iG (fD bH)) (iG bH) (wb _ _)))
 have e:HS b ({p.1 with wt:=lD (ks++[k],g,Th)},p.2) (dX b {p.1 with wt:=lD (ks++[k],g,Th)} p.2 ps (J++[.dead])++[.lst ((bA ((dr b (ks++[k])).map (·.1.length))).map .fz)]++[.lst ((bA [(ks++[k]).length]).map .fz)]):=⟨ps,_,m,rfl⟩;generalize (dX b {p.1 with wt:=lD (ks++[k],g,Th)} p.2 ps (J++[.dead])++[.lst ((bA ((dr b (ks++[k])).map (·.1.length))).map .fz)]++[.lst ((bA [(ks++[k]).length]).map .fz)]:a9)=Z3 at f e;rw[C];refine jc rfl (jN (cJ (dj (bZ rfl) (ag aD) e0) (ag (bQ (ah (af rfl) aC) rfl (Tq rfl))) (bW (Dv j.ne (j.len Y)))) rfl (BC (lS (lD (ks++[k],g,Th)) rfl (xG (ar (ag (af rfl)) (ar (dj (bZ rfl) (ag aD) E) (ar (ag aD) aU))) (Tq rfl))) (yu f (λq=>?_) λq=>?_)))
 .rw[av (a5 q)];obtain⟨H,A,y⟩:=l9 Y e ⟨l.sa.ac,l.sa.oc⟩ rfl v u;exact i6 (cb e (by left) rfl aU rfl A) ⟨rfl,y⟩
 .rw[ax (of_decide_eq_false q)];exact lR ⟨rfl,e⟩
theorem Ki(f:SW b p.1)(h:p.1.wt=lD (ks,g,Th))(v:WV b p.1.ac (ks++[k]) g Th)(j:g<b.wt):SW b (rb b p k).1:=by
 have l:rb b p k=if(dr b (ks++[k])).map (·.1.length)=[(ks++[k]).length] then bS b ({p.1 with wt:=lD (ks++[k],g,Th)},p.2) else({p.1 with wt:=lD (ks++[k],g,Th)},p.2):=by unfold rb;rw[h]
 rw[l];split
 .exact(dZ Y (p:=({p.1 with wt:=lD (ks++[k],g,Th)},p.2)) ⟨f.sa.ac,f.sa.oc⟩ λ_ _ _ e=>by cases e;exact v).1
 .exact⟨⟨f.sa.ac,f.sa.oc⟩,λ_ _ _ e=>by cases e;exact⟨v,j⟩⟩
omit Y in
theorem Cl(s:VF)(m:Mn):(d8 s m).ac=s.ac/\(d8 s m).wt=s.wt:=by unfold d8;split<;>exact⟨rfl,rfl⟩
omit Y in
theorem Cq{m:Mn}(h:SA b s):SA b (d8 s m):=by
 unfold d8;split
 .exact h
 .exact⟨h.ac,λo e=>by cases e⟩
theorem Pt(F:HS b p Z)(S:SA b p.1)(hw:p.1.wt=Th)(U:(k:Int)<b.n)(hl:p.2.length<900):∃Z',gf [.rf 0,.fz (nd k)] Z=.ok (.fz .none) Z'/\HS b (Ae b p k) Z':=by
 obtain⟨Q,P⟩:=wI Y S;have M:=K6 Y Q P U;obtain⟨u,K⟩:=wq Y Q P U;obtain⟨Z1,h1,YA⟩:=pO F;have h5:=Y.n5;have eb:Ae b p k=wX b (jF p.1.ac p.1.oc) (d8 p.1 (look b (jF p.1.ac p.1.oc) k),p.2) k (look b (jF p.1.ac p.1.oc) k):=rfl;rw[eb];have T:jo dI 1 (ao (bc "Hand" "stands" bK 1 (ay 0) aX) aX) [lD (.rf 0),-(nd k),Th,Th,Th] Z=.ok (.fz (.int (jF p.1.ac p.1.oc))) Z1:=xk (ar (cb F (by left) rfl aU rfl h1) aU) rfl (yW p.1);generalize jF p.1.ac p.1.oc=L at M u K T Q P;generalize look b L k=m at M u K;obtain⟨ps,J,hp,rfl⟩:=YA;have lb:=u.lb;have c0:=qu m;have c1:=QY m;have c2:=Np m;have c3:=lP m;have c4:=JU m;have eL:dh (.int L) (.int 0)=-(.bool (decide (L=0))):=jJ _ _;have B:(aO (cA (bT (aK (aM zl (ad 4) (bw {pC (.str "layer"),pC (.str "once")})))) (gc "Hand" "once" (ay 0) (ae (pC .none))) cC) cC) [lD (.rf 0),-(nd k),-(.int L),-(mD m),-(.str (wd m))] (dX b p.1 p.2 ps J)=.ok (.nx [lD (.rf 0),-(nd k),-(.int L),-(mD m),-(.str (wd m))]) (dX b (d8 p.1 m) p.2 ps J):=by
  have t:bT (aK (aM zl (ad 4) (bw {pC (.str "layer"),pC (.str "once")}))) [lD (.rf 0),-(nd k),-(.int L),-(mD m),-(.str (wd m))] (dX b p.1 p.2 ps J)=.ok (!(m.acy||m.isO)) (dX b p.1 p.2 ps J):=bz (by fail "ev");unfold d8;cases q:(m.acy||m.isO) with
  |true=>rw[q]at t;rw[av rfl];exact de (fE t fH) fH
  |false=>rw[q]at t;rw[ax TV];exact de (dW t (Dq Th rfl (ag aD))) fH
 have R:=Cl p.1 m;have I:SA b (d8 p.1 m):=Cq S;have e:ps.Perm (gC (d8 p.1 m).ac):=by rw[R.1];exact hp
 have A:HS b (d8 p.1 m,p.2) (dX b (d8 p.1 m) p.2 ps J):=⟨ps,J,e,rfl⟩;generalize d8 p.1 m=s2 at B R I e A;have O:Xy ((cA (bT (aK (aM dh (ad 4) (pC (.str "tap"))))) (gc "Hand" "waiting" (ay 0) (ae (bw {bw {ad 1},~~~0,ad 3}))) (cA (n9 (bT (aK (aM dh (ad 4) (pC (.str "letter"))))) (n9 (bT (aK (aM dh (ad 2) (~~~0)))) (bM (kA tK (jo bL 2 (ao (bx "Hand" "bed" (ay 0)) (ao (ae (bw {ad 1})) aX))) (ae (eT au)))))) (gc "Hand" "waiting" (ay 0) (ae (bw {bw {ad 1},~~~0,pC (.tuple [(.str "chord")])}))) (cA (bT (aK (aM dh (ad 4) (pC (.str "once"))))) (aO (bV (bc "Hand" "come" bB 3 (ay 0) (ao (ae (ad 1)) (ao (ae (pC (.tuple [(.str "none")]))) aX))))
 (gc "Hand" "once" (ay 0) (ae (aM bJ (ad 3) (~~~1))))) (bV (bc "Hand" "come" bB 3 (ay 0) (ao (ae (ad 1)) (ao (ae (ad 3)) aX))))))) [lD (.rf 0),-(nd k),-(.int L),-(mD m),-(.str (wd m))] (dX b s2 p.2 ps J)) (λ_ Z'=>SV.fz .none=.fz .none/\HS b (wX b L (s2,p.2) k m) Z') (λ_ _=>False) (λr Z'=>r=.fz .none/\HS b (wX b L (s2,p.2) k m) Z'):=by
  have y:∀{Z:a9},bT (aK (aM dh (ad 4) (pC (.str "tap")))) [lD (.rf 0),-(nd k),-(.int L),-(mD m),-(.str (wd m))] Z=.ok m.isT Z:=bz (by fail "ev");have E:∀{Z:a9},bT (aK (aM dh (ad 4) (pC (.str "letter")))) [lD (.rf 0),-(nd k),-(.int L),-(mD m),-(.str (wd m))] Z=.ok m.isL Z:=bz (by fail "ev");have C:∀{Z:a9},bT (aK (aM dh (ad 4) (pC (.str "once")))) [lD (.rf 0),-(nd k),-(.int L),-(mD m),-(.str (wd m))] Z=.ok m.isO Z:=bz (by fail "ev");have G:∀{Z:a9},bT (aK (aM dh (ad 2) (~~~0))) [lD (.rf 0),-(nd k),-(.int L),-(mD m),-(.str (wd m))] Z=.ok (decide (L=0)) Z:=bz (by fail "ev");have kt:∀{Z:a9},ae (bw {ad 1}) [lD (.rf 0),-(nd k),-(.int L),-(mD m),-(.str (wd m))] Z=.ok (.fz (.tuple (bA [k]))) Z:=ag (bQ (ah (af rfl) aC) rfl (Tq rfl));have cm:∀{Z:a9},HS b (s2,p.2) Z->VA b.ls.length m->∃Z',bV (bc "Hand" "come" bB 3 (ay 0) (ao (ae (ad 1)) (ao (ae (ad 3)) aX))) [lD (.rf 0),-(nd k),-(.int L),-(mD m),-(.str (wd m))] Z=.ok (.nx [lD (.rf 0),-(nd k),-(.int L),-(mD m),-(.str (wd m))]) Z'/\HS b (eU (s2,p.2) k m) Z':=λ{Z} F va=>by obtain⟨Z',l,j⟩:=rJ (k:=k) F (I.ak Y) va.lb (by omega) (show p.2.length<1000 by omega);exact⟨Z',ia (cb F (by left) rfl (ar (ag (af rfl)) (ar (ag (af rfl)) aU)) rfl l),j⟩
  cases m with
  |below=>exact a6 rfl K
  |Yl c n=>refine tG y (oG (lS (lD ([k],0,lD (c,n))) rfl (ag (ρ':=cD [lD (.rf 0),-(nd k),-(.int L),-(mD (.Yl c n)),-(.str (wd (.Yl c n)))]) ?_)) ⟨rfl,ps,J,e,rfl⟩);show _=Res.ok (PV.fz (.tuple [.tuple [nd k],.int 0,mD (.Yl c n)]),_);fail "ev"
  |Ua c=>
   obtain⟨d1,d2⟩:VA b.ls.length (.Ua c)/\True:=⟨u,trivial⟩;by_cases H:L=0
   .rw[aP H]at G
    have ov:=Cc Y (Z1:=dX b s2 p.2 ps J) ⟨ps,J,rfl⟩ rfl (Tq rfl) kt;have N:HS b (s2,p.2) (dX b s2 p.2 ps J++[.lst (((dr b [k]).map gX).map .fz)]++[.lst []]):=⟨ps,_,e,rfl⟩;have v:wX b L (s2,p.2) k (.Ua c)=if(!(dr b [k]).isEmpty)=To then({s2 with wt:=lD ([k],0,Th)},p.2) else eU (s2,p.2) k (.Ua c):=by show(if(decide (L=0)&& !(dr b [k]).isEmpty)=To then _ else _)=_;rw[aP H,aaZ]
    rw[v];refine eB y (yu (jE E (jE G (aV ov))) (λq=>?_) λq=>?_)
    .rw[av q];refine oG (lS (lD ([k],0,Th)) rfl (ag (ρ':=cD [lD (.rf 0),-(nd k),-(.int L),-(mD (.Ua c)),-(.str (wd (.Ua c)))]) ?_)) ⟨rfl,ps,_,e,rfl⟩;show _=Res.ok (PV.fz (.tuple [.tuple [nd k],.int 0,.tuple [.str "chord"]]),_);fail "ev"
    .rw[ax (by rw[q];simp)];obtain⟨Z',l,j⟩:=cm N u;exact eB C (oG l ⟨rfl,j⟩)
   .rw[a4 H]at G
    have v:wX b L (s2,p.2) k (.Ua c)=eU (s2,p.2) k (.Ua c):=by show(if(decide (L=0)&& !(dr b [k]).isEmpty)=To then _ else _)=_;rw[a4 H,YJ,ax TV]
    rw[v];obtain⟨Z',l,j⟩:=cm A u;exact eB y (eB (jE E (iq G)) (eB C (oG l ⟨rfl,j⟩)))
  |V2 n=>obtain⟨Z',l,j⟩:=cm A u;exact eB y (eB (iq E) (eB C (oG l ⟨rfl,j⟩)))
  |none=>obtain⟨Z',l,j⟩:=cm A trivial;exact eB y (eB (iq E) (eB C (oG l ⟨rfl,j⟩)))
  |once n=>obtain⟨Z',l,j⟩:=rJ (k:=k) (a:=.none) A (I.ak Y) trivial (by omega) (show p.2.length<1000 by omega);have i1:bJ (mD (.once n)) (.int 1)=-(.int n):=lf;obtain⟨qs,J2,hq,rfl⟩:=j;refine eB y (eB (iq E) (tG C (BC (ia (cb A (by left) rfl (ar (ag (af rfl)) (ar (ag aD) aU)) rfl l)) (oG (Dq (lD n) rfl (ag (ρ':=cD [lD (.rf 0),-(nd k),-(.int L),-(mD (.once n)),-(.str (wd (.once n)))]) ?_)) ⟨rfl,qs,J2,hq,rfl⟩))));show _=Res.ok (PV.fz (.int n),_);exact aN (rv:=.fz (.int n)) (af rfl) aD rfl rfl i1
 refine jc (ρ:=[lD (.rf 0),-(nd k),Th,Th,Th]) rfl (jN T rfl (jN (xk (ds:=[bD b,.int L,nd k]) (ar (pG rfl) (ar (ag (af rfl)) (ar (ag (af rfl)) aU))) rfl M) rfl (jN (ag (d:=.str (wd m)) (ρ':=cD [lD (.rf 0),-(nd k),-(.int L),-(mD m),Th]) (aN (rv:=.fz (.str (wd m))) (af rfl) aD rfl rfl c0)) rfl ?_)));refine .eq ?_ O;have X:∀{f g:eV} {ρ:bu} {Z Z':a9},aO f cC ρ Z=.ok (.nx ρ) Z'->aO f g ρ Z=g ρ Z':=λ{f g ρ Z Z'} h=>by
  unfold aO at h⊢;cases q:f ρ Z with
  |bad=>rw[q]at h;cases h
  |er x o=>rw[q]at h;cases h
  |ok fl o=>
   rw[q]at h;cases fl with
   |nx r=>cases h;rfl
   |_=>cases h
 exact X B
end
section
variable{b:Bd}(Y:VB b){s:VF}{sn:Sn}{ps:bg (Nat×Mn)}{J:a9}{ρ:bu}{i:Nat}{Z:a9}{p:VF×Sn}{k:Nat}{a:Mn}{ks:bg Nat}{g:Int}{w:br (Nat×Int)}
include Y
omit Y in
theorem B8(h:SA b s)(f:s.wt=Th):SW b s:=⟨h,λ_ _ _ e=>by rw[f]at e;cases e⟩
theorem NN(B:SA b p.1)(N:p.1.wt=Th)(y:(k:Int)<b.n)(ha:p.1.ac k=Th):SW b (Ae b p k).1:=by
 obtain⟨I,H⟩:=wI Y B;obtain⟨f,v⟩:=wq Y I H y;have P:Ae b p k=wX b (jF p.1.ac p.1.oc) (d8 p.1 (look b (jF p.1.ac p.1.oc) k),p.2) k (look b (jF p.1.ac p.1.oc) k):=rfl;rw[P];generalize jF p.1.ac p.1.oc=L at f v I H;generalize look b L k=m at f v;have A:=Cl p.1 m;have l:SA b (d8 p.1 m):=Cq B;have j:=A.2.trans N;have u:(d8 p.1 m).ac k=Th:=by rw[A.1];exact ha
 generalize d8 p.1 m=s2 at l j u;have T:=Y.w1;have E:[k].Nodup:=U5.mpr ⟨Vj,YN⟩;have F:∀x∈[k],(x:Int)<b.n:=λx t=>by rw[TN.mp t];exact y
 have G:∀x∈[k],s2.ac x=Th:=λx t=>by rw[TN.mp t];exact u
 have cm:∀m,VA b.ls.length m->SW b (eU (s2,p.2) k m).1:=λm K=>B8 (l.cm y K) j;cases m with
 |below=>exact a6 rfl v
 |Yl c n=>refine⟨⟨l.ac,l.oc⟩,λ_ _ _ e=>?_⟩;cases e;exact⟨⟨by simp,E,F,G,YU _,λS M e=>by cases e;exact⟨f.1,f.2,rfl⟩,λe=>by cases e⟩,by omega⟩
 |Ua c=>
  show SW b (if(decide (L=0)&& !(dr b [k]).isEmpty)=To then({s2 with wt:=lD ([k],0,Th)},p.2) else eU (s2,p.2) k (.Ua c)).1;split
  .rename_i q
   refine⟨⟨l.ac,l.oc⟩,λ_ _ _ e=>?_⟩;cases e;refine⟨⟨by simp,E,F,G,YU _,λS M e=>(by cases e),λ_ x t=>?_⟩,by omega⟩;have C:=(T6 _ _▸q:_/\_).2;cases qo:dr b [k] with
   |nil=>rw[qo]at C;cases C
   |cons c r=>
    have O:c∈dr b [k]:=by rw[qo];exact Ts
    obtain⟨R,Q⟩:=VQ.mp O;exact(Y.vc c R).2.2.1 x (a5 (Vi.mp Q x t))
  .exact cm _ f
 |V2 n=>exact cm _ f
 |none=>exact cm _ trivial
 |once n=>have h:=cm .none trivial;exact⟨⟨h.sa.ac,λo e=>by cases e;exact f⟩,λks g w e=>by have e:s2.wt=lD (ks,g,w):=e;rw[j]at e;cases e⟩
theorem SW.wd(h:SW b s):WD b s:=λks g w e=>(h.wt ks g w e).1
omit Y in
theorem Bx(e:bg (Nat×Mn)):∀{p:VF×Sn},p.1.ac k=Th->k∉e.map (·.1)->(gU p e).1.ac k=Th:=by
 induction e with
 |nil=>exact λh _=>h
 |cons q r f=>intro p h hn;rw[TX,T1,not_or]at hn;exact f (p:=eU p q.1 q.2) ((fM hn.1).trans h) hn.2
omit Y in
theorem Ab(ha:p.1.ac k=Th)(hn:xZ p.1.wt k=Tw):(bS b p).1.ac k=Th:=by
 unfold bS;split
 .exact ha
 .rename_i ks g w q;refine Bx _ (p:=({p.1 with wt:=Th},p.2)) ha λz=>?_;rw[q]at hn;obtain⟨x,e,rfl⟩:=T3.mp z;exact of_decide_eq_false hn (Wa e).1
theorem Hz(e:SW b p.1)(f:(k:Int)<b.n):SW b (gR b p k).1:=by
 unfold gR;split
 .exact e
 .rename_i q
  rw[Ys,not_or]at q;have ha:p.1.ac k=Th:=by
   cases z:p.1.ac k with
   |none=>rfl
   |some x=>rw[z]at q;exact a6 rfl q.1
  have hn:xZ p.1.wt k=Tw:=by
   cases z:xZ p.1.wt k with
   |false=>rfl
   |true=>exact a6 z q.2
  split
  .rename_i h;obtain⟨ks,g,m,o,l,j⟩:=v9 Y e f ha hn h;exact Ki Y e m l j
  .have d:=dZ Y e.sa (SW.wd Y e);exact NN Y d.1.sa d.2.1 f (Ab ha hn)
theorem Jf(h:HS b p Z)(e:SW b p.1)(B:(k:Int)<b.n)(Q:p.2.length<800):∃Z',im [.rf 0,.fz (nd k)] Z=.ok (.fz .none) Z'/\HS b (gR b p k) Z':=by
 have R:=Y.n5;have A:k<5:=by omega
 have O:zh (bM (ym Tw (ae (ad 1)) (bx "Hand" "acts" (ay 0)))) (bM (bc "Hand" "is_waiting" b8 2 (ay 0) (ao (ae (ad 1)) aX))) [lD (.rf 0),-(nd k)] Z=.ok ((p.1.ac k).isSome||xZ p.1.wt k) Z:=by
  have I:=cb (ρ:=[lD (.rf 0),-(nd k)]) (i:=0) (m:= "is_waiting") (fa:=ao (ae (ad 1)) aX) h (by left) rfl (ar (ag (af rfl)) aU) rfl (Gg h);obtain⟨ps,J,y,rfl⟩:=h
  have u:ym Tw (ae (ad 1)) (bx "Hand" "acts" (ay 0)) [lD (.rf 0),-(nd k)] (dX b p.1 p.2 ps J)=.ok (.fz (.bool (p.1.ac k).isSome)) (dX b p.1 p.2 ps J):=
   (Bw (ag (af rfl)) (ib rfl) rfl rfl).trans (by rw[show j4 (ps.map kB) (.inl (k:Int))=_ from nW y A];cases p.1.ac k<;>rfl)
  cases q:(p.1.ac k).isSome with
  |true=>rw[q]at u;rw[WW];exact ut (aV u)
  |false=>rw[q]at u;rw[X4];exact fu (aV u) (aV I)
 refine jc rfl (zA O (λq=>?_) λq=>oW ?_)
 .unfold gR;rw[av q];exact vX ⟨rfl,h⟩
 rw[acg]at q;have ha:p.1.ac k=Th:=by
  cases z:p.1.ac k with
  |none=>rfl
  |some x=>rw[z]at q;exact a6 q.1 (by simp)
 have L:gR b p k=if Cz b p.1 k=To then rb b p k else Ae b (bS b p) k:=by unfold gR;rw[ax (by rw[q.1,q.2];simp)]
 rw[L];obtain⟨P,H,f⟩:=ND Y h e B q.2;refine zA (aV (cb h (by left) rfl (ar (ag (af rfl)) aU) rfl H)) (λt=>?_) λt=>oW ?_
 .rw[av t];obtain⟨ks,g,j,T,N,S⟩:=v9 Y e B ha q.2 t;obtain⟨o,C,l⟩:=Jv Y f e j N (e.wt _ _ _ j).1 (by omega);exact Pw (lK (cb f (by left) rfl (ar (ag (af rfl)) aU) rfl C) (vX ⟨rfl,l⟩))
 .rw[ax (by rw[t];simp)]
  have d:=dZ Y e.sa (SW.wd Y e);have F:∀o,HS b (bS b p) o->Xy (bV (bc "Hand" "begin" gf 2 (ay 0) (ao (ae (ad 1)) aX)) [lD (.rf 0),-(nd k)] o) (λ_ Z'=>SV.fz .none=.fz .none/\HS b (Ae b (bS b p) k) Z') (λ_ _=>False) (λr Z'=>r=.fz .none/\HS b (Ae b (bS b p) k) Z'):=λo l=>by obtain⟨U,K,v⟩:=Pt Y l d.1.sa d.2.1 B (by have:=d.2.2.1;omega);exact i6 (cb l (by left) rfl (ar (ag (af rfl)) aU) rfl K) ⟨rfl,v⟩
  cases qw:p.1.wt with
  |none=>
   have M:bS b p=p:=by unfold bS;rw[qw]
   have j:oJ (jH p.1.wt) .none=-(.bool Tw):=by rw[qw];rfl
   have E:=F P (by rw[M];exact f);obtain⟨ps,J,y,rfl⟩:=f;exact tZ (aV (cJ (bZ rfl) (ag aD) (bW j))) (oW E)
  |some x=>
   obtain⟨ks,g,w⟩:=x;have j:oJ (jH p.1.wt) .none=-(.bool To):=by rw[qw];rfl
   obtain⟨o,C,l⟩:=l9 Y f e.sa qw (e.wt _ _ _ qw).1 (by omega);have G:=cb (ρ:=[lD (.rf 0),-(nd k)]) (i:=0) (m:= "decide") f (by left) rfl aU rfl C;obtain⟨ps,J,y,rfl⟩:=f;exact wm (aV (cJ (bZ rfl) (ag aD) (bW j))) (lK G (F o l))
theorem l8(e:SW b p.1)(f:xZ p.1.wt k=To):SW b (cj b p k).1/\(cj b p k).2.length<=p.2.length+5:=by
 unfold cj;split
 .have d:=dZ Y e.sa (SW.wd Y e);exact⟨d.1,d.2.2.1⟩
 .rename_i ks g c n q;have v:=(e.wt _ _ _ q).1;rw[q]at f;have h:=v.kn k (a5 f);have j:=(v.tp c n rfl).1;refine⟨B8 (SA.cm ⟨e.sa.ac,e.sa.oc⟩ h j) rfl,?_⟩;have:=nV (p:=({p.1 with wt:=Th},p.2)) (k:=k) (a:=.Ua c);have:(eU ({p.1 with wt:=Th},p.2) k (.Ua c)).2.length<=p.2.length+1:=this;omega
 .exact⟨e,adY _ _⟩
theorem jt(j:HS b p Z)(e:SW b p.1)(f:xZ p.1.wt k=To)(K:p.2.length<800):∃Z',gF [.rf 0,.fz (nd k)] Z=.ok (.fz .none) Z'/\HS b (cj b p k) Z':=by
 have M:=Y.n5;cases q:p.1.wt with
 |none=>rw[q]at f;cases f
 |some x=>
  obtain⟨ks,g,w⟩:=x;have v:=(e.wt _ _ _ q).1;have l:k∈ks:=by rw[q]at f;exact a5 f
  have A:bJ (jH p.1.wt) (.int 2)=-(uJ w):=by rw[q];exact qh
  have G:=(Bf λc n h=>(v.tp c n h).1).1;have u:∀{Z:a9},bT (aK (aM dh (ad 2) (pC (.tuple [.str "chord"])))) [lD (.rf 0),-(nd k),-(uJ w)] Z=.ok w.isNone Z:=bz (bN (aN (af rfl) aD rfl rfl G) rfl);cases w with
  |none=>
   have r:cj b p k=bS b p:=by unfold cj;rw[q]
   rw[r];obtain⟨I,o,t⟩:=l9 Y j e.sa q v (by omega);have C:=cb (ρ:=[lD (.rf 0),-(nd k),-(uJ Th)]) (i:=0) (m:= "decide") j (by left) rfl aU rfl o;obtain⟨ps,J,y,rfl⟩:=j;exact jc rfl (jN (dj (bZ rfl) (ag aD) A) rfl (tG u (i6 C ⟨rfl,t⟩)))
  |some H=>
   obtain⟨c,n⟩:=H;have r:cj b p k=eU ({p.1 with wt:=Th},p.2) k (.Ua c):=by unfold cj;rw[q]
   rw[r];have F:=(v.tp c n rfl).1;have L:=v.kn k l;obtain⟨ps,J,y,rfl⟩:=j;have B:HS b ({p.1 with wt:=Th},p.2) (dX b {p.1 with wt:=Th} p.2 ps J):=⟨ps,J,y,rfl⟩;obtain⟨I,o,t⟩:=rJ (k:=k) (a:=.Ua c) B (SA.ak Y ⟨e.sa.ac,e.sa.oc⟩) F (by omega) (show p.2.length<1000 by omega);have E:bJ (uJ (lD (c,n))) (.int 1)=-(.str (eD c)):=lf;exact jc rfl (jN (dj (bZ rfl) (ag aD) A) rfl (eB u (BC (lS Th rfl (ag aD)) (i6 (cb B (by left) rfl (ar (ag (af rfl)) (ar (ag (bQ (ah aD (ah (aN (af rfl) aD rfl rfl E) aC)) rfl (Tq rfl))) aU)) rfl o) ⟨rfl,t⟩))))
omit Y in
theorem Mw(f:SW b p.1):SW b (go p k).1:=by
 refine⟨f.sa.gg,?_⟩;unfold go;split
 .intro ks g w e;obtain⟨v,j⟩:=f.wt ks g w e;exact⟨⟨v.ne,v.nd,v.kn,λx h=>by
   by_cases z:x=k
   .rw[z];exact dY
   .exact(fM z).trans (v.kf x h),v.g0,v.tp,v.ch⟩,j⟩
 .exact f.wt
theorem LX(e:SW b p.1):SW b (mh b p k).1:=by
 unfold mh;split
 .rename_i q;exact Mw (l8 Y e q).1
 .exact Mw e
theorem Jq(e:HS b p Z)(h:SW b p.1)(C:(k:Int)<b.n)(t:p.2.length<700):∃Z',iY [.rf 0,.fz (nd k)] Z=.ok (.fz .none) Z'/\HS b (mh b p k) Z':=by
 have E:=Y.n5;have j:k<5:=by omega
 have f:∀{p:VF×Sn} {Z:a9},HS b p Z->SW b p.1->p.2.length<800->Xy (cA (bM (ym Tw (ae (ad 1)) (bx "Hand" "acts" (ay 0)))) (bV (bc "Hand" "go" jB 2 (ay 0) (ao (ae (ad 1)) aX))) cC [lD (.rf 0),-(nd k)] Z) (λ_ Z'=>SV.fz .none=.fz .none/\HS b (go p k) Z') (λ_ _=>False) (λr Z'=>r=.fz .none/\HS b (go p k) Z'):=λ{p Z} e h t=>by
  cases qa:p.1.ac k with
  |none=>
   have y:go p k=p:=by unfold go;rw[qa]
   rw[y];obtain⟨ps,J,l,rfl⟩:=e;refine eB (aV ((Bw (ag (af rfl)) (ib rfl) rfl rfl).trans (by rw[show j4 (ps.map kB) (.inl (k:Int))=_ from nW l j,qa];rfl))) (lR ⟨rfl,ps,J,l,rfl⟩)
  |some a=>obtain⟨F,u,A⟩:=Qt e (h.sa.ak Y) qa (by omega);have o:=cb (ρ:=[lD (.rf 0),-(nd k)]) (i:=0) (m:= "go") (fa:=ao (ae (ad 1)) aX) e (by left) rfl (ar (ag (af rfl)) aU) rfl u;obtain⟨ps,J,l,rfl⟩:=e;exact tG (aV ((Bw (ag (af rfl)) (ib rfl) rfl rfl).trans (by rw[show j4 (ps.map kB) (.inl (k:Int))=_ from nW l j,qa];rfl))) (i6 o ⟨rfl,A⟩)
 refine jc rfl (zA (aV (cb e (by left) rfl (ar (ag (af rfl)) aU) rfl (Gg e))) (λq=>?_) λq=>?_)
 .unfold mh;rw[av q];obtain⟨G,v,B⟩:=jt Y e h q (by omega);have z:=l8 Y h q;exact lK (cb e (by left) rfl (ar (ag (af rfl)) aU) rfl v) (f B z.1 (by omega))
 .unfold mh;rw[ax (by rw[q];simp)];exact oW (f e h (by omega))
theorem Ka(f:SW b p.1):SW b (gv b p).1:=by
 unfold gv;split
 .exact f
 .rename_i ks g w q
  obtain⟨v,l⟩:=f.wt ks g w q;have j:WV b p.1.ac ks (g+1) w:=⟨v.ne,v.nd,v.kn,v.kf,by have:=v.g0;omega,v.tp,v.ch⟩;split
  .exact(dZ Y (p:=({p.1 with wt:=lD (ks,g+1,w)},p.2)) ⟨f.sa.ac,f.sa.oc⟩ λ_ _ _ e=>by cases e;exact j).1
  .rename_i h;exact⟨⟨f.sa.ac,f.sa.oc⟩,λ_ _ _ e=>by cases e;exact⟨j,by omega⟩⟩
theorem J5(n:HS b p Z)(e:SW b p.1)(A:p.2.length<800):∃Z',fZ [.rf 0] Z=.ok (.fz .none) Z'/\HS b (gv b p) Z':=by
 obtain⟨ps,J,l,rfl⟩:=n;cases q:p.1.wt with
 |none=>
  have f:gv b p=p:=by unfold gv;rw[q]
  rw[f];have h:rc (jH p.1.wt) .none=-(.bool To):=by rw[q];rfl
  exact jc rfl (wm (aV (cJ (bZ rfl) (ag aD) (bW h))) (vX ⟨rfl,ps,J,l,rfl⟩))
 |some x=>
  obtain⟨ks,g,w⟩:=x;have v:=(e.wt _ _ _ q).1;have m:WV b p.1.ac ks (g+1) w:=⟨v.ne,v.nd,v.kn,v.kf,by have:=v.g0;omega,v.tp,v.ch⟩;have f:gv b p=if g+1=b.wt then bS b ({p.1 with wt:=lD (ks,g+1,w)},p.2) else({p.1 with wt:=lD (ks,g+1,w)},p.2):=by unfold gv;rw[q]
  rw[f];have h:rc (jH p.1.wt) .none=-(.bool Tw):=by rw[q];rfl
  have e0:bJ (jH p.1.wt) (.int 0)=-(.tuple (bA ks)):=by rw[q];exact jq
  have u:bJ (jH p.1.wt) (.int 2)=-(uJ w):=by rw[q];exact qh
  have t:bJ (jH p.1.wt) (.int 1)=-(.int g):=by rw[q];exact lf
  have r:bJ (bD b) (.int 3)=-(.int b.wt):=OX rfl;have j:HS b ({p.1 with wt:=lD (ks,g+1,w)},p.2) (dX b {p.1 with wt:=lD (ks,g+1,w)} p.2 ps J):=⟨ps,J,l,rfl⟩;refine jc rfl (tZ (aV (cJ (bZ rfl) (ag aD) (bW h))) (oW (jN (cJ (dj (bZ rfl) (ag aD) t) (ag aD) (bW (fY _ _))) rfl (BC (lS (lD (ks,g+1,w)) rfl (xG (ar (dj (bZ rfl) (ag aD) e0) (ar (ag (af rfl)) (ar (dj (bZ rfl) (ag aD) u) aU))) (Tq rfl))) (yu (aV (cJ (ag (af rfl)) (dj (pG rfl) (ag aD) r) (bW (jJ _ _)))) (λz=>?_) λz=>?_)))))
  .rw[av (a5 z)];obtain⟨B,o,y⟩:=l9 Y j ⟨e.sa.ac,e.sa.oc⟩ rfl m (show p.2.length<900 by omega);exact i6 (cb j (by left) rfl aU rfl o) ⟨rfl,y⟩
  .rw[ax (of_decide_eq_false z)];exact lR ⟨rfl,j⟩
def Z8.adh:Z8->Bool
 |.turn=>To
 |_=>Tw
def Z8.isDown:Z8->Bool
 |.down _=>To
 |_=>Tw
def EV(b:Bd):Z8->Prop
 |.down k=>(k:Int)<b.n
 |.up k=>(k:Int)<b.n
 |.turn=>True
theorem rV(f:SW b s)(h:EV b e):SW b (ce b s e).1:=by
 cases e with
 |down k=>exact Hz Y f h
 |up k=>exact LX Y f
 |turn=>exact Ka Y f
omit Y in
theorem vR:∀l:bg (Nat×Mn),aL sU (l.map pD)=lD (l.map kB)
 |[]=>rfl
 |q::r=>by rw[TX];unfold aL;rw[vR r];rfl
omit Y in
theorem zH:∀(l f:bg (Nat×Mn)),((f++l).map (·.1)).Nodup->nu (f.map kB) (l.map kB)=(f++l).map kB
 |[],f,_=>by rw[Uo];rfl
 |q::r,f,h=>by
  have hn:∀x∈f,x.1≠q.1:=λx j e=>by rw[Uj,Wi]at h;exact h.2.2 _ (T3.mpr ⟨x,j,rfl⟩) q.1 Ts e
  have t:ko (f.map kB) (kB q).1 (kB q).2=(f++[q]).map kB:=by
   unfold ko;rw[ax ?_,Uj]
   .rfl
   .intro z;obtain⟨kv,o,n⟩:=Z7.mp z;obtain⟨x,m,rfl⟩:=T3.mp o;have:=Sum.inl.inj (a5 n);exact hn x m (by omega)
  show nu (ko (f.map kB) (kB q).1 (kB q).2) (r.map kB)=_;rw[t,zH r (f++[q]) (by rw[Ux];exact h),Ux];rfl
omit Y in
theorem Lh:dU [.rf 0,.fz (bD b),.fz (gH s)] [.obj "Hand" []]=.ok (.fz .none) (dX b s [] (gC s.ac) []):=by
 have e0:bJ (gH s) (.int 0)=-(.tuple ((gC s.ac).map pD)):=jq;have y:bJ (gH s) (.int 1)=-(jH s.wt):=lf;have v:bJ (gH s) (.int 2)=-(uy s.oc):=qh;have A:eZ "bed" (.fz (bD b)) []=([("bed",.fz (bD b))]:bg (Str×SV)):=rfl;have q:eZ "acts" (.rf 1) ([("bed",.fz (bD b))]:bg (Str×SV))=([("bed",.fz (bD b)),("acts",.rf 1)]:bg (Str×SV)):=by unfold eZ;rw[ax (by left)];rfl
 have o:eZ "waiting" (.fz (jH s.wt)) ([("bed",.fz (bD b)),("acts",.rf 1)]:bg (Str×SV))=([("bed",.fz (bD b)),("acts",.rf 1),("waiting",.fz (jH s.wt))]:bg (Str×SV)):=by unfold eZ;rw[ax (by left)];unfold eZ;rw[ax (by left)];rfl
 have n:eZ "once" (.fz (uy s.oc)) ([("bed",.fz (bD b)),("acts",.rf 1),("waiting",.fz (jH s.wt))]:bg (Str×SV))=([("bed",.fz (bD b)),("acts",.rf 1),("waiting",.fz (jH s.wt)),("once",.fz (uy s.oc))]:bg (Str×SV)):=by unfold eZ;rw[ax (by left)];unfold eZ;rw[ax (by left)];unfold eZ;rw[ax (by left)];rfl
 have m:eZ "sent" (.rf 2) ([("bed",.fz (bD b)),("acts",.rf 1),("waiting",.fz (jH s.wt)),("once",.fz (uy s.oc))]:bg (Str×SV))=vn b s:=by unfold eZ;rw[ax (by left)];unfold eZ;rw[ax (by left)];unfold eZ;rw[ax (by left)];unfold eZ;rw[ax (by left)];rfl
 have r:nu [] ((gC s.ac).map kB)=(gC s.ac).map kB:=zH (gC s.ac) [] (tN s.ac);have e:∀{x:SV} {ρ:bu} {fs:bg (Str×SV)} {Z:a9} {j:cT} {f:Str} {c:Cell} {l:a9},ρ[0]?=lD (lD (.rf 0))->j ρ Z=.ok x (.obj "Hand" fs::l)->fs.length<100->gc "Hand" f (ay 0) j ρ Z=.ok (.nx ρ) (.obj "Hand" (eZ f x fs)::l):=λh u t=>(p9 u (bh h) rfl t).trans rfl
 have ha:zn (ae (aM bJ (ad 2) (~~~0))) [lD (.rf 0),-(bD b),-(gH s)] [.obj "Hand" ([("bed",.fz (bD b))]:bg (Str×SV))]=.ok (.rf 1) [.obj "Hand" ([("bed",.fz (bD b))]:bg (Str×SV)),.Y4 ((gC s.ac).map kB)]:=
  (KM (ag (d:=.tuple ((gC s.ac).map pD)) (aN (rv:=.fz (.tuple ((gC s.ac).map pD))) (af rfl) aD rfl rfl e0)) (vR _)).trans (by rw[r];rfl)
 refine oV (ρ:=[lD (.rf 0),-(bD b),-(gH s)]) (ρ1:=[lD (.rf 0),-(bD b),-(gH s)]) rfl (de (e rfl (c:=.dead) (ag (d:=bD b) (af rfl)) (Tq rfl)) (de (e rfl (c:=.dead) ha (Tq rfl)) (de (e rfl (c:=.dead) (ag (d:=jH s.wt) (aN (rv:=.fz (jH s.wt)) (af rfl) aD rfl rfl y)) (Tq rfl)) (de (e rfl (c:=.dead) (ag (d:=uy s.oc) (aN (rv:=.fz (uy s.oc)) (af rfl) aD rfl rfl v)) (Tq rfl)) ?_))));rw[q,o,n];refine(e (fs:=([("bed",.fz (bD b)),("acts",.rf 1),("waiting",.fz (jH s.wt)),("once",.fz (uy s.oc))]:bg (Str×SV))) rfl (c:=.dead) (gQ (ds:=[]) (nw aC rfl (Ur _))) (Tq rfl)).trans ?_;show RS.ok _ (Cell.obj "Hand" (eZ "sent" (.rf 2) ([("bed",.fz (bD b)),("acts",.rf 1),("waiting",.fz (jH s.wt)),("once",.fz (uy s.oc))]:bg (Str×SV)))::_)=_;rw[m];rfl
omit Y in
theorem Li(e:Z8):∃x:Str,bJ (fU e) (.int 0)=-(.str x)/\dh (.str x) (.str "turn")=-(.bool (e.adh))/\dh (.str x) (.str "down")=-(.bool (e.isDown)):=by
 have h:Tu.strOk "down"=To:=by left
 have j:Tu.strOk "up"=To:=by left
 have f:Tu.strOk "turn"=To:=by left
 cases e with
 |down k=>exact⟨"down",jq,BR h f (by left),Mq h⟩
 |up k=>exact⟨"up",jq,BR j f (by left),BR j h (by left)⟩
 |turn=>exact⟨"turn",jq,Mq f,BR f h (by left)⟩
theorem JD(o:SW b s)(y:EV b e):∃Z',lC [.fz (bD b),.fz (gH s),.fz (fU e)] []=.ok (.tp [.rf 2,.fz (gH (ce b s e).1)]) Z'/\sh Z' (.rf 2)=lD (.list ((ce b s e).2.map o0)):=by
 have f:HS b (s,[]) (dX b s [] (gC s.ac) []):=⟨gC s.ac,[],.refl _,rfl⟩;obtain⟨x,u,B,A⟩:=Li e;have n:∀{Z:a9},bT (aK (aM dh (aM bJ (ad 2) (~~~0)) (pC (.str "turn")))) [-(bD b),-(gH s),-(fU e),lD (.rf 0)] Z=.ok (e.adh) Z:=bz (bN (aN (aN (af rfl) aD rfl rfl u) aD rfl rfl B) rfl);have v:∀{Z:a9},bT (aK (aM dh (aM bJ (ad 2) (~~~0)) (pC (.str "down")))) [-(bD b),-(gH s),-(fU e),lD (.rf 0)] Z=.ok (e.isDown) Z:=bz (bN (aN (aN (af rfl) aD rfl rfl u) aD rfl rfl A) rfl);have j:∀{Z:a9},HS b (ce b s e) Z->Xy (hJ (ph (ao (bx "Hand" "sent" (ay 3)) (ao (bc "Hand" "stands" bK 1 (ay 3) aX) aX))) [-(bD b),-(gH s),-(fU e),lD (.rf 0)] Z) (λ_ Z'=>SV.fz .none=.tp [.rf 2,.fz (gH (ce b s e).1)]/\sh Z' (.rf 2)=lD (.list ((ce b s e).2.map o0))) (λ_ _=>False) (λr Z'=>r=.tp [.rf 2,.fz (gH (ce b s e).1)]/\sh Z' (.rf 2)=lD (.list ((ce b s e).2.map o0))):=λ{Z} hs=>by obtain⟨t,h,l⟩:=pO hs;have m:=cb (ρ:=[-(bD b),-(gH s),-(fU e),lD (.rf 0)]) (i:=3) (m:= "stands") hs (by left) rfl aU rfl h;obtain⟨ps,J,G,rfl⟩:=hs;obtain⟨E,H,F,rfl⟩:=l;exact PR (Re (ar (wP rfl) (ar m aU)) (Tq rfl) rfl rfl) ⟨rfl,iG rfl⟩
 have C:uV "Hand" dU 3 (ao (ae (ad 0)) (ao (ae (ad 1)) aX)) [-(bD b),-(gH s),-(fU e),Th] []=.ok (.rf 0) (dX b s [] (gC s.ac) []):=OQ (ar (ag (af rfl)) (ar (ag (af rfl)) aU)) rfl Lh;refine jc rfl (jN C rfl ?_);cases e with
 |turn=>obtain⟨t,h,l⟩:=J5 Y f o (show 0<800 by decide);exact wm n (lK (cb f (by left) rfl aU rfl h) (j l))
 |down k=>obtain⟨t,h,l⟩:=Jf Y f o y (show 0<800 by decide);have q:bJ (fU (.down k)) (.int 1)=-(nd k):=lf;exact tZ n (wm v (lK (cb f (by left) rfl (ar (ag (aN (af rfl) aD rfl rfl q)) aU) rfl h) (j l)))
 |up k=>obtain⟨t,h,l⟩:=Jq Y f o y (show 0<700 by decide);have q:bJ (fU (.up k)) (.int 1)=-(nd k):=lf;exact tZ n (tZ v (lK (cb f (by left) rfl (ar (ag (aN (af rfl) aD rfl rfl q)) aU) rfl h) (j l)))
theorem QF{e:Z8}(h:SW b s)(l:EV b e):k6 lC 3 [.fz (bD b),.fz (gH s),.fz (fU e)] Z=.ok (.tp [.rf Z.length,.fz (gH (ce b s e).1)]) (Z++[.lst (((ce b s e).2.map o0).map .fz)]):=by
 obtain⟨f,n,m⟩:=JD Y h l;unfold k6;rw[av (show([.fz (bD b),.fz (gH s),.fz (fU e)]:bg SV).length=3 from rfl),show aL wk [.fz (bD b),.fz (gH s),.fz (fU e)]=lD [bD b,gH s,fU e] from rfl];dsimp only;rw[show[bD b,gH s,fU e].map SV.fz=[.fz (bD b),.fz (gH s),.fz (fU e)] from rfl,n];show(match EN f Z.length [.rf 2,.fz (gH (ce b s e).1)] with
  |some (l',cs,js)=>if js.Nodup then RS.ok (SV.tp l') (Z++cs.map Rx) else .bad
  |none=>.bad)=_
 have j:EN f Z.length [.rf 2,.fz (gH (ce b s e).1)]=lD ([.rf Z.length,.fz (gH (ce b s e).1)],[(ce b s e).2.map o0],[2]):=by unfold EN;rw[m];rfl
 rw[j];dsimp only;rw[av (by decide)];rfl
end
def v7:VF:=⟨λ_=>Th,Th,Th⟩
theorem nQ(b:Bd):SW b v7:=⟨⟨λk a e=>(by cases e),λo e=>(by cases e)⟩,λf g w e=>(by cases e)⟩
theorem C8{α:Type}{f:α->D}{n:Nat}:∀{l:bg α},(∀a∈l,Tu.depth (f a)<=n)->Tu.depthAll (l.map f)<=n
 |[],_=>Ur _
 |a::r,h=>aiC.mpr ⟨h a Ts,C8 λx b=>h x (Tx _ b)⟩
theorem Mx{d:D}(b:Tu.canLay0 d=To)(a:Tu.depth d<=64):lY d=To:=by unfold lY;rw[b,aP a];rfl
theorem xX{d:D}(h:lY d=To):Tu.canLay0 d=To:=by unfold lY at h;exact(T6 _ _▸h:_/\_).1
theorem LA{d:D}(h:lY d=To):tK d d=-(.bool Tw):=by unfold tK;rw[h,xX h,VD,av rfl,X9 d (xX h)];rfl
theorem C1{d:D}(h:lY d=To):dh d d=-(.bool To):=by unfold dh;rw[h,xX h,VD,av rfl,X9 d (xX h)]
def Xu(sn:Sn):Prop:=∀q∈sn,q.1<26
section
variable{b:Bd}(Z:VB b){s:VF}{p:VF×Sn}{k:Nat}{a:Mn}
theorem Xu.app{x y:Sn}(f:Xu x)(e:Xu y):Xu (x++y):=λq g=>(Uy.mp g).elim (f q) (e q)
theorem lO(h:Xu p.2)(ha:LB a):Xu (eU p k a).2:=by
 refine h.app λq e=>?_;cases a with
 |Ua c=>
  have e:q∈(if ny p.1.ac (.Ua c)=To then[] else[(c,To)]:Sn):=e;split at e
  .cases e
  .rw[TN.mp e];exact ha
 |_=>cases e
theorem HU(e:bg (Nat×Mn)):∀{p:VF×Sn},Xu p.2->(∀q∈e,LB q.2)->Xu (gU p e).2:=by
 induction e with
 |nil=>exact λh _=>h
 |cons q r g=>exact λh f=>g (lO h (f q Ts)) λx i=>f x (Tx _ i)
theorem M0(h:Xu p.2)(ha:SA b p.1):Xu (go p k).2:=by
 unfold go;split
 .rename_i a q
  have lb:=(ha.ac k a q).2.lb;refine h.app λx e=>?_;cases a with
  |Ua c=>
   have e:x∈(if ny (lg p.1.ac k Th) (.Ua c)=To then[] else[(c,Tw)]:Sn):=e;split at e
   .cases e
   .rw[TN.mp e];exact lb
  |_=>cases e
 .exact h
include Z
theorem oz(h:Xu p.2)(i:WD b p.1):Xu (bS b p).2:=by
 unfold bS;split
 .exact h
 .rename_i e g w q;exact HU _ (p:=({p.1 with wt:=Th},p.2)) h λx f=>(wJ Z (i e g w q) x f).2.lb
theorem Os(h:Xu p.2)(g:SA b p.1)(i:(k:Int)<b.n):Xu (Ae b p k).2:=by
 obtain⟨o,l⟩:=wI Z g;obtain⟨e,f⟩:=wq Z (k:=k) o l i;have j:Ae b p k=wX b (jF p.1.ac p.1.oc) (d8 p.1 (look b (jF p.1.ac p.1.oc) k),p.2) k (look b (jF p.1.ac p.1.oc) k):=rfl;rw[j];generalize look b (jF p.1.ac p.1.oc) k=m at e f;generalize jF p.1.ac p.1.oc=L at e;have lb:=e.lb;cases m with
 |Yl c n=>exact h
 |Ua c=>
  show Xu (if(decide (L=0)&& !(dr b [k]).isEmpty)=To then({d8 p.1 (.Ua c) with wt:=lD ([k],0,Th)},p.2) else eU (d8 p.1 (.Ua c),p.2) k (.Ua c)).2;split
  .exact h
  .exact lO (p:=(d8 p.1 (.Ua c),p.2)) h lb
 |V2 n=>exact lO (p:=(d8 p.1 (.V2 n),p.2)) h lb
 |once n=>exact lO (p:=(d8 p.1 (.once n),p.2)) (k:=k) (a:=.none) h trivial
 |none=>exact lO (p:=(d8 p.1 .none,p.2)) h lb
 |below=>exact a6 rfl f
theorem B9{e:Z8}(h:SW b s)(l:EV b e):Xu (ce b s e).2:=by
 have f:Xu []:=λq o=>by cases o
 cases e with
 |turn=>
  show Xu (gv b (s,[])).2;unfold gv;split
  .exact f
  .rename_i i g w q
   have v:=(h.wt i g w q).1;split
   .exact oz Z (p:=({s with wt:=lD (i,g+1,w)},[])) f λ_ _ _ e=>by cases e;exact⟨v.ne,v.nd,v.kn,v.kf,by have:=v.g0;omega,v.tp,v.ch⟩
   .exact f
 |up k=>
  show Xu (mh b (s,[]) k).2;unfold mh;split
  .rename_i q
   have z:=l8 Z (p:=(s,[])) h q;refine M0 ?_ z.1.sa;unfold cj;split
   .exact oz Z (p:=(s,[])) f (SW.wd Z h)
   .rename_i c n e;have r:c<26:=((h.wt _ _ _ e).1.tp c n rfl).1;exact lO (p:=({s with wt:=Th},[])) f r
   .exact f
  .exact M0 (p:=(s,[])) f h.sa
 |down k=>
  show Xu (gR b (s,[]) k).2;unfold gR;split
  .exact f
  .rename_i q
   rw[Ys,not_or]at q;have ha:s.ac k=Th:=by
    cases z:s.ac k with
    |none=>rfl
    |some x=>exact a6 (show(s.ac k).isSome=To by rw[z];rfl) q.1
   have hn:xZ s.wt k=Tw:=by
    cases z:xZ s.wt k with
    |false=>rfl
    |true=>exact a6 z q.2
   split
   .rename_i m
    obtain⟨i,g,j,y,t,u⟩:=v9 Z (p:=(s,[])) h l ha hn m;have j:s.wt=lD (i,g,Th):=j;unfold rb;dsimp only;rw[j];dsimp only;split
    .exact oz Z (p:=({s with wt:=lD (i++[k],g,Th)},[])) f λ_ _ _ e=>by cases e;exact t
    .exact f
   .have d:=dZ Z (p:=(s,[])) h.sa (SW.wd Z h);exact Os Z (oz Z (p:=(s,[])) f (SW.wd Z h)) d.1.sa l
end
end STP
namespace K71
open PySem L2 L3 STP
def qN:FS:=(eS (Pp (aK (aM P3 (ad 1) (ji fP {ad 0}))) (aM bJ (ad 0) (ad 1)) (~~~0)))
def bf:FN:=gA 2 qN
def lu:FS:=(cw (fQ (aM uB (aM jx (aM cB (aM uB (ad 0) (~~~1000033)) (ad 1)) (aM cB (ad 1) (~~~521))) (~~~1000033)) (gN 3))
 (cw (fQ (aM uB (aM cB (aM cB (aM jx (ad 3) (ad 3)) (aM En (ad 0) (~~~1000033))) (aM jx (~~~7) (ad 1))) (~~~999983)) (gN 3))
 (eS (aM uB (aM En (ad 3) (~~~3)) (ad 2)))))
def aH:FN:=gA 4 lu
def eJ:FS:=(cw (fQ (aM ke (pC (.str "abc")) (cK aH 3 {ad 0,~~~5,~~~3})) (gN 3))
 (cw (fQ (aM cB (~~~1) (cK aH 3 {ad 0,~~~7,ji Dw {~~~1,aM xj (ad 2) (~~~1)}})) (gN 4))
 (cw (fQ (cK aH 3 {ad 0,~~~3,~~~8}) (gN 5))
 (cw (pd (wc (aK (aM F1 (ad 1) (~~~0))) (aK (aM F1 (ad 5) (~~~5)))) (eS (bw {pC (.str "below")})) gu)
 (cw (pd (wc (aK (aM F1 (ad 2) (~~~1))) (aK (aM dh (ad 5) (~~~3)))) (eS (bw {pC (.str "layer"),ad 4})) gu)
 (cw (pd (wc (aK (aM F1 (ad 2) (~~~1))) (aK (aM dh (ad 5) (~~~4)))) (eS (bw {pC (.str "tap"),ad 3,ad 4})) gu)
 (cw (pd (wc (aK (aM F1 (ad 2) (~~~1))) (aK (aM dh (ad 5) (~~~5)))) (eS (bw {pC (.str "once"),ad 4})) gu)
 (eS (bw {pC (.str "letter"),ad 3})))))))))
def eN:FN:=gA 6 eJ
def jZ:FS:=(cw (fQ (cK bf 2 {ad 0,~~~0}) (gN 2))
 (cw (fQ (aM cB (~~~1) (cK aH 3 {ad 2,~~~1,ad 1})) (gN 3))
 (cw (fQ (aM cB (~~~1) (cK aH 3 {ad 2,~~~2,~~~2})) (gN 4))
 (cw (fQ (eT au) (gN 5))
 (cw (xz (tV mJ {ad 4}) (gN 6) (cw (fQ (fA 1 [0,3,6] (tV mJ {ad 3}) (gN 0) dH (cK bf 2 {ad 1,aM cB (aM cB (~~~1) (aM jx (ad 2) (ad 3))) (ad 0)})) (gN 7))
 (ve (Ie 5 (ji ou {fA 1 [6,4] (jV (ad 7)) (gN 0) dH (cK eN 3 {ad 0,ad 1,ad 2})})))))
 (cw (fQ (ji ou {fA 1 [5] (tV mJ {ad 3}) (gN 0) (aK (aM dh (aM bJ (aM bJ (aM bJ (ad 1) (~~~0)) (ad 0)) (~~~0)) (pC (.str "letter")))) (ad 0)}) (gN 8))
 (cw (fQ (bw au) (gN 9))
 (cw (pd (wc (aK (aM F1 (ji fP {ad 8}) (~~~1))) (aK (aM F1 (cK aH 3 {ad 2,~~~17,~~~3}) (~~~0)))) (fQ (bw {bw {GK SB (ad 8) tt (iS (~~~2)),aM ke (pC (.str "abd")) (cK aH 3 {ad 2,~~~19,~~~3})}}) (gN 9)) gu)
 (eS (bw {ad 3,ji ou {ad 5},ad 9,aM cB (~~~1) (cK aH 3 {ad 2,~~~23,~~~2})}))))))))))
def iM:FN:=gA 10 jZ
def jQ:FS:=(cw (fQ (cK bf 2 {ad 0,~~~0}) (gN 1))
 (cw (fQ (fA 1 [0] (tV mJ {~~~3}) (gN 0) dH (bw {pC (.str "letter"),aM ke (pC (.str "abc")) (cK aH 3 {cK bf 2 {ad 1,aM cB (~~~1) (ad 0)},~~~5,~~~3})})) (gN 2))
 (cw (fQ (aM bJ (eT {bw {~~~0,~~~1},bw {~~~0,~~~2},bw {~~~1,~~~2}}) (cK aH 3 {ad 1,~~~29,~~~3})) (gN 3))
 (eS (bw {~~~3,bw {ji ou {ad 2}},bw {bw {ad 3,aM ke (pC (.str "abd")) (cK aH 3 {ad 1,~~~19,~~~3})}},aM cB (~~~1) (cK aH 3 {ad 1,~~~23,~~~2})})))))
def eP:FN:=gA 4 jQ
def kM:FS:=(cw (fQ (cK bf 2 {ad 0,~~~9}) (gN 1))
 (cw (fQ (fA 1 [0] (tV mJ {cK aH 3 {ad 1,~~~131,~~~3}}) (gN 0) dH (cK aH 3 {cK bf 2 {ad 1,aM cB (~~~10) (ad 0)},~~~127,~~~7})) (gN 2))
 (eS (Ql yA (pC (.str "")) {fA 1 [] (jV (ad 2)) (gN 0) dH (aM ke (pC (.str "aabbcdz")) (ad 0))}))))
def iX:FN:=gA 3 kM
def jd:FS:=(cw (fQ (ji L9.QH {aM bJ (ad 0) (~~~0)}) (gN 1))
 (eS (aM cB (aM cB (fA 1 [] (jV (ad 1)) (gN 0) dH (bw {pC (.str "down"),ad 0})) (fA 1 [] (jV (ad 1)) (gN 0) dH (bw {pC (.str "up"),ad 0}))) (eT {bw {pC (.str "turn"),~~~0}}))))
def gB:FN:=gA 2 jd
def kS:FS:=(cw (xz (jV (ad 2)) (gT 2 (EK (gN 3) (EK (gN 4) Nr))) (pd (aK (aM dh (ad 4) (pC (.str "down")))) (cw (pd (aK (aM tK (GK mX (ad 0) (iS (ad 1)) (iS (aM cB (ad 1) (~~~1)))) (ad 3))) (eS (pC .none)) gu)
 (fQ (aM cB (ad 1) (~~~1)) (gN 1))) gu))
 (eS (ad 1)))
def i7:FN:=gA 5 kS
def kQ:FS:=(cw (fQ (fA 1 [] (tV mJ {aM bJ (ad 0) (~~~0)}) (gN 0) dH (bw {pC (.str "down"),ad 0})) (gN 1))
 (cw (fQ (fA 1 [] (tV mJ {aM bJ (ad 0) (~~~0)}) (gN 0) dH (bw {pC (.str "up"),ad 0})) (gN 2))
 (eS (aM cB (aM cB (ad 1) (ad 2)) (eT {bw {pC (.str "turn"),~~~0}})))))
def gK:FN:=gA 3 kQ
def jj:FS:=(cw (fQ (Ql yA (pC (.str "")) {fA 2 [] (jV (ad 2)) (gT 2 (EK (gN 0) (EK (gN 1) Nr))) (aK (aM dh (ad 1) (pC (.str "down")))) (ad 0)}) (gN 3))
 (cw (fQ (aM cB (ad 1) (ji Jx {ad 3})) (gN 4))
 (cw (pd (aK (aM tK (GK mX (ad 0) (iS (ad 1)) (iS (ad 4))) (ad 3))) (eS (pC .none)) gu)
 (eS (ad 4)))))
def gI:FN:=gA 5 jj
end K71
namespace K71
open PySem L2 L3 L10 STP
def dC:eV:=(aO (cA (bM (zc To (ae (ad 1)) (bx "Places" "numbers" (ay 0)))) (aO (cA (bM (kA Sq (Dx fP (ao (bx "Places" "found" (ay 0)) aX)) (bx "Places" "most" (ay 0)))) (rN "TooMany" "most" (bx "Places" "most" (ay 0))) cC)
 (aO (pB (bx "Places" "numbers" (ay 0)) (ae (ad 1)) (Dx fP (ao (bx "Places" "found" (ay 0)) aX)))
 (bV (pX (bx "Places" "found" (ay 0)) (ae (bw {ad 1,ad 2,ad 3})))))) cC)
 (hJ (mQ (bx "Places" "numbers" (ay 0)) (ae (ad 1)))))
def cc:jr:=dg 4 dC
def cV:eV:=(aO (gc "Places" "most" (ay 0) (ae (ad 2)))
 (aO (gc "Places" "found" (ay 0) (ae (eT au)))
 (aO (gc "Places" "numbers" (ay 0) wY)
 (bV (uj "Places" "enter" cc 4 (ay 0) (ao (ae (ad 1)) (ao (ae (pC .none)) (ao (ae (pC .none)) aX))))))))
def c7:jr:=dg 3 cV
def qK:eV:=(aO (cO (uG (ae (cK gK 1 {ad 0}))) (fK 3))
 (aO (cO (HI "Places" c7 3 (ao (ae (bw {pC (.tuple [(.tuple []),.none,.none]),~~~0})) (ao (ae (ad 2)) aX))) (fK 4))
 (aO (cO (ae (~~~0)) (fK 5))
 (aO (AD (bM (kA P3 (ae (ad 5)) (Dx fP (ao (bx "Places" "found" (ay 4)) aX)))) (aO (cO (ke (ke (bx "Places" "found" (ay 4)) (ae (ad 5))) (ae (~~~0))) (fK 6))
 (aO (uD (qp (jV (ad 3))) (fK 7) (aO (cO (uG (vp STP.lC 3 (ao (ae (ad 0)) (ao (ae (aM bJ (ad 6) (~~~0))) (ao (ae (ad 7)) aX))))) (fK 8))
 (aO (cO (ae (cK gI 3 {ad 1,aM bJ (ad 6) (~~~1),aM bJ (ad 8) (~~~0)})) (fK 9))
 (cA (bT (aK (aM oJ (ad 9) (pC .none)))) (bV (uj "Places" "enter" cc 4 (ay 4) (ao (ae (bw {aM bJ (ad 8) (~~~1),ad 9})) (ao (ae (ad 5)) (ao (ae (ad 7)) aX))))) cC))))
 (Fu 5 Qj (ae (~~~1))))))
 (hJ (ay 4))))))
def gW:jr:=dg 10 qK
def lh:eV:=(aO (cO (ae (eT au)) (fK 3))
 (aO (cO (ae (eT au)) (fK 4))
 (aO (uD (iB (bx "Places" "found" (Dn gW 3 [] (ao (ae (ad 0)) (ao (ae (ad 1)) (ao (ae (ad 2)) aX)))))) (Mp 3 (lA (fK 5) (lA (fK 6) (lA (fK 7) yK)))) (aO (cO (Jg (bT (aK (aM rc (ad 6) (pC .none)))) (ae (~~~0)) (kA cB (ke (ay 3) (ae (ad 6))) (ae (~~~1)))) (fK 8))
 (aO (bV (pX (ay 3) (ae (ad 8))))
 (bV (pX (ay 4) (ae (bw {aM bJ (ad 5) (~~~0),aM bJ (ad 5) (~~~1),ad 8})))))))
 (hJ (ay 4)))))
def a8:jr:=dg 9 lh
def mE:eV:=(aO (cO wY (fK 2))
 (aO (cO (ae (~~~0)) (fK 3))
 (aO (LD.ack (ay 0) (fK 4) (aO (cA (zh (bT (FQ (aK (Fg "tuple" (ad 4))))) (zh (bT (aK (aM tK (ji fP {ad 4}) (~~~3)))) (zh (bM (zc Tw (ae (GK NG (ad 4) tt (iS (~~~2)))) (ay 2))) (bT (aK (aM P3 (aM bJ (ad 4) (~~~2)) (ad 3))))))) (hJ (ae (pC .none))) cC)
 (aO (cO (ae (aM bJ (ad 4) (~~~2))) (fK 3))
 (pB (ay 2) (ae (GK NG (ad 4) tt (iS (~~~2)))) (ae (aM bJ (ad 4) (~~~2)))))))
 (hJ (ay 2)))))
def d6:jr:=dg 5 mE
def mw:eV:=(aO (cO (Oc (ae (bw {bw {bw au,pC .none,pC .none},~~~0})) (ae (pC (.bool To)))) (fK 3))
 (aO (uD (iB (og (ay 2))) (Mp 2 (lA (fK 4) (lA (fK 5) yK))) (aO (cO (mQ (ay 2) (ae (bw {ad 4,ad 5}))) (fK 6))
 (uD (qp (jV (cK gB 1 {ad 0}))) (fK 7) (aO (cO (uG (vp STP.lC 3 (ao (ae (ad 0)) (ao (ae (ad 4)) (ao (ae (ad 7)) aX))))) (Mp 2 (lA (fK 8) (lA (fK 9) yK))))
 (aO (cO (ae (cK i7 3 {ad 1,ad 5,ad 8})) (fK 10))
 (cA (bT (aK (aM oJ (ad 10) (pC .none)))) (aO (cA (bM (kA F1 (rK (ay 2) (ae (bw {ad 9,ad 10})) (ae (aM cB (ad 6) (~~~2)))) (ae (aM cB (ad 6) (~~~1))))) (hJ (ae (pC (.bool Tw)))) cC)
 (cA (bM (kA dh (mQ (ay 2) (ae (bw {ad 9,ad 10}))) (ae (aM cB (ad 6) (~~~1))))) (pB (ay 3) (ae (bw {ad 9,ad 10})) (ae (pC (.bool To)))) cC)) cC))))))
 (hJ (kA dh (rY (ay 3)) (rY (ay 2))))))
def fq:jr:=dg 11 mw
def cU:jr:=λxs Z=>match k6 a8 3 xs Z with
 |.ok (.rf i) o=>(match o[i]? with
  |some (.lst ys)=>.ok (.fz (nd ys.length)) o
  |_=>.bad)
 |.er x o=>if x.cls=("TooMany":Str) then(match x.fs with
  |[(f,.int k)]=>if f=("most":Str) then .ok (.fz (.tuple [.str "many",.int k])) o else .bad
  |_=>.bad) else .bad
 |_=>.bad
def MF:eV:=(aO (cO (ae (cK iM 2 {ad 0,~~~2})) (fK 1))
 (aO (cA (bT (aK (aM dh (cK aH 3 {cK bf 2 {ad 0,~~~0},~~~31,~~~6}) (~~~1)))) (cO (ae (cK eP 1 {ad 0})) (fK 1)) cC)
 (aO (cO (ae (cK iX 1 {ad 0})) (fK 2))
 (aO (cO (tI a8 3 [(.int 400)] (ao (ae (ad 1)) (ao (ae (ad 2)) aX))) (fK 3))
 (aO (cA (zh (uP (bM (Jz "list" (ay 3)))) (zh (bM (kA dh (Dx fP (ao (ay 3) aX)) (ae (~~~0)))) (bM (kA tK (ke (ay 3) (ae (~~~0))) (ae (bw {bw {bw au,pC .none,pC .none},~~~0,~~~0})))))) (hJ (ae (pC (.bool Tw)))) cC)
 (aO (cO (qM d6 2 (ao (ay 3) (ao (ae (ad 2)) aX))) (fK 4))
 (aO (cA (zh (bM (NH (ay 4))) (uP (bM (qM fq 3 (ao (ae (ad 1)) (ao (ae (ad 2)) (ao (ay 4) aX))))))) (hJ (ae (pC (.bool Tw)))) cC)
 (aO (bV (pX (ay 3) (ae (pC .none))))
 (aO (cO (tI a8 3 [(.int 400)] (ao (ae (ad 1)) (ao (ae (ad 2)) aX))) (fK 3))
 (aO (cA (bM (Df (qM d6 2 (ao (ay 3) (ao (ae (ad 2)) aX))) (ay 4))) (hJ (ae (pC (.bool Tw)))) cC)
 (aO (cO (jo aH 3 (ao (ae (cK bf 2 {ad 0,~~~13})) (ao (ae (~~~137)) (ao (Dx fP (ao (ay 3) aX)) aX)))) (fK 5))
 (hJ (Bo (kA dh (qM cU 3 (ao (ae (ad 1)) (ao (ae (ad 2)) (ao (Dx fP (ao (ay 3) aX)) aX)))) (Dx fP (ao (ay 3) aX))) (kA dh (qM cU 3 (ao (ae (ad 1)) (ao (ae (ad 2)) (ao (ae (ad 5)) aX)))) (ae (bw {pC (.str "many"),ad 5}))))))))))))))))
def F_law:jr:=dg 6 MF
section
variable{ρ ρ1:bu}{Z Z1 Y Z3:a9}{x y z:SV}{i:Nat}{d:D}{X:bg (D×D)}
theorem oS(h:Z[i]?=lD (.dd X)):jg Z (.rf i)=lD (i,X):=by unfold jg;dsimp only;rw[h]
theorem CC(a:fk ρ Z=.ok x Z1)(hd:fd ρ Z1=.ok (.rf i) Y)(e:hG x=lD k)(b:Y[i]?=lD (.dd X)):zc neg fk fd ρ Z=.ok (.fz (.bool ((eF X k).isSome !=neg))) Y:=by unfold zc;rw[a,d0,hd,d0,e];show((RS.UB Y (jg Y (.rf i))).bind _)=_;rw[oS b];rfl
theorem tj(hd:fd ρ Z=.ok (.rf i) Z1)(a:fk ρ Z1=.ok x Y)(f:hG x=lD k)(e:Y[i]?=lD (.dd X))(b:eF X k=lD d):mQ fd fk ρ Z=.ok (.fz d) Y:=by unfold mQ;rw[hd,d0,a,d0,f];show((RS.UB Y (jg Y (.rf i))).bind _)=_;rw[oS e];show((RS.UB Y (eF X k)).bind _)=_;rw[b];rfl
theorem sK(a:fv ρ Z=.ok (.fz d) Z1)(hd:fd ρ Z1=.ok (.rf i) Y)(e:fk ρ Y=.ok x Z3)(g:hG x=lD k)(f:Z3[i]?=lD (.dd X))(b:X.length<1000000):pB fd fk fv ρ Z=.ok (.nx ρ) (Z3.set i (.dd (g9 X k d))):=by unfold pB;rw[a,d0,hd,d0,e,d0,g];show((RS.UB Z3 (jg Z3 (.rf i))).bind _)=_;rw[oS f];show(if X.length<1000000 then _ else _)=_;rw[av b]
theorem oj(ha:fa ρ Z=.ok xs Z1)(hn:xs.length=n)(a:F xs Z1=.ok x Y):qM F n fa ρ Z=.ok x Y:=by unfold qM;rw[ha,d0,av hn,a,za]
end
theorem zM{l r:a9}:(l++r)[l.length+t]?=r[t]? :=by rw[Um (by omega),V4]
theorem Km{l r:a9}:(l++r).set (l.length+t) c=l++r.set t c:=by rw[YC _ _ (by omega),V4]
structure Pl where
 p:D
 b:D
 e:D
def Jj(q:Pl):D:=.tuple [q.p,q.b,q.e]
def i9:bg Pl->D->br Nat
 |[],_=>Th
 |q::r,p=>if Tu.eqv q.p p=To then lD 0 else(i9 r p).map (·+1)
def jD:Nat->bg Pl->bg (D×D)
 |_,[]=>[]
 |k,q::r=>(q.p,nd k)::jD (k+1) r
theorem oM:∀(k:Nat) (fs:bg Pl) (p:D),eF (jD k fs) p=(i9 fs p).map λi=>nd (k+i)
 |_,[],_=>rfl
 |k,q::r,p=>by
  have a:=oM (k+1) r p;unfold eF at a⊢;unfold jD i9;rw[Uw];cases Tu.eqv q.p p with
  |true=>rfl
  |false=>dsimp only;rw[a,ax TV,Option.map_map];congr 1;funext i;show nd (k+1+i)=nd (k+(i+1));rw[Zh,abF 1 i]
theorem zm:∀(k:Nat) (fs:bg Pl) (q:Pl),jD k (fs++[q])=jD k fs++[(q.p,nd (k+fs.length))]
 |k,[],q=>rfl
 |k,a::r,q=>by show(a.p,nd k)::jD (k+1) (r++[q])=(a.p,nd k)::(jD (k+1) r++[(q.p,nd (k+(r.length+1)))]);rw[zm (k+1) r q,Zh,abF 1 r.length]
theorem CG:∀(k:Nat) (fs:bg Pl),(jD k fs).length=fs.length
 |_,[]=>rfl
 |k,q::r=>dw (·+1) (CG (k+1) r)
theorem JS(h:i9 fs p=Th):g9 (jD 0 fs) p (nd fs.length)=jD 0 (fs++[⟨p,b,e⟩]):=by
 have g:=oM 0 fs p;rw[h]at g;unfold eF at g;have a:((jD 0 fs).find? λkv=>Tu.eqv kv.1 p)=Th:=by
  cases q:(jD 0 fs).find? λkv=>Tu.eqv kv.1 p with
  |none=>rfl
  |some x=>rw[q]at g;cases g
 unfold g9;rw[a,zm,Wx];rfl
theorem FC(h:i9 fs q.p=Th)(f:Tu.eqv q.p q.p=To):i9 (fs++[q]) q.p=lD fs.length:=by
 induction fs with
 |nil=>show(if Tu.eqv q.p q.p=To then lD 0 else _)=_;rw[av f];rfl
 |cons a r b=>
  unfold i9 at h;show(if Tu.eqv a.p q.p=To then lD 0 else(i9 (r++[q]) q.p).map (·+1))=_;by_cases e:Tu.eqv a.p q.p=To
  .rw[av e]at h;cases h
  .rw[ax e]at h⊢;rw[b (by cases k:i9 r q.p with|none=>rfl|some _=>rw[k]at h;cases h)];rfl
theorem xa(h:LD.keyD p=To):Tu.eqv p p=To:=by
 refine X9 p (LD.kd_lay p ?_);cases p with
 |tuple xs=>unfold LD.keyD at h;rw[T6]at h;unfold LD.kd;exact h.1
 |_=>simp[LD.keyD]at h
def pF(m:Int)(j k:Nat):bg (Str×SV):=[("most",.fz (.int m)),("found",.rf j),("numbers",.rf k)]
structure PSt(i j k:Nat)(m:Int)(fs:bg Pl)(Z:a9):Prop where
 o:Z[i]?=lD (.obj "Places" (pF m j k))
 f:Z[j]?=lD (.lst ((fs.map Jj).map .fz))
 n:Z[k]?=lD (.dd (jD 0 fs))
 jk:j≠k
 ij:i≠j
 ik:i≠k
 lt:fs.length<100000
def uO(j k:Nat)(fs:bg Pl)(Z:a9):a9:=(Z.set k (.dd (jD 0 fs))).set j (.lst ((fs.map Jj).map .fz))
section
variable{i j k:Nat}{m:Int}{fs:bg Pl}{Z:a9}{p b e:D}
theorem PSt.ent(h:PSt i j k m fs Z)(l:fs.length+1<100000):PSt i j k m (fs++[q]) (uO j k (fs++[q]) Z):=by
 have g:=(Tn.mp h.f).1;have a:=(Tn.mp h.n).1;refine⟨?_,?_,?_,h.jk,h.ij,h.ik,by rw[Tz];exact l⟩
 .unfold uO;rw[Ue (db h.ij),Ue (db h.ik)];exact h.o
 .unfold uO;rw[UL (by rw[UJ];exact g)]
 .unfold uO;rw[Ue h.jk,UL a]
theorem Fc:(pF m j k).lookup ("most":Str)=-(.int m):=by rfl
theorem pP:(pF m j k).lookup ("found":Str)=lD (.rf j):=by rfl
theorem yI:(pF m j k).lookup ("numbers":Str)=lD (.rf k):=by rfl
theorem vh:(pF m j k).lookup ("enter":Str)=Th:=by rfl
theorem G0(a:LD.keyD p=To):hG (.fz p)=lD p:=av a
theorem vO(h:PSt i j k m fs Z)(hm:L9.Qy (.int m)=To)(O:m<=1000)(E:LD.keyD p=To):cc [.rf i,.fz p,.fz b,.fz e] Z=(match i9 fs p with
  |some t=>.ok (.fz (nd t)) Z
  |none=>if m<=(fs.length:Int) then .er ⟨"TooMany",[("most",.int m)]⟩ Z else .ok (.fz (nd fs.length)) (uO j k (fs++[⟨p,b,e⟩]) Z)):=by
 have w:=G0 E;have A:∀{a:a9},a[i]?=lD (.obj "Places" (pF m j k))->bx "Places" "numbers" (ay 0) [lD (.rf i),-(p),-(b),-(e)] a=.ok (.rf k) a:=λz=>jf (bh rfl) z yI;have F:∀{a:a9},a[i]?=lD (.obj "Places" (pF m j k))->bx "Places" "found" (ay 0) [lD (.rf i),-(p),-(b),-(e)] a=.ok (.rf j) a:=λz=>jf (bh rfl) z pP;have B:∀{a:a9},a[i]?=lD (.obj "Places" (pF m j k))->bx "Places" "most" (ay 0) [lD (.rf i),-(p),-(b),-(e)] a=.ok (.fz (.int m)) a:=λz=>jf (bh rfl) z Fc;have u:∀{a:a9},ae (ad 1) [lD (.rf i),-(p),-(b),-(e)] a=.ok (.fz p) a:=ag (af rfl);have g:=CC (neg:=To) u (A h.o) w h.n;rw[oM]at g;have get:∀{l:bg Pl} {a:a9} {t:Nat},a[i]?=lD (.obj "Places" (pF m j k))->a[k]?=lD (.dd (jD 0 l))->i9 l p=lD t->hJ (mQ (bx "Places" "numbers" (ay 0)) (ae (ad 1))) [lD (.rf i),-(p),-(b),-(e)] a=.ok (.rt (.fz (nd t))) a:=λK J I=>by refine jh (tj (A K) u w J ?_);rw[oM,I];show lD (nd (0+_))=_;rw[Wx]
 have v:=CH (ar (F h.o) aU) (by unfold aL;rw[iG h.f];rfl) ((jw _).trans (by rw[Tj]));cases q:i9 fs p with
 |some t=>rw[q]at g;refine j8 rfl ?_;exact de (fE (aV g) fH) (get h.o h.n q)
 |none=>
  rw[q]at g;dsimp only;by_cases r:m<=(fs.length:Int)
  .rw[av r]
   have y:=aV (cJ v (B h.o) (bW ((DM _ _).trans (by rw[aP r]))));show dg 4 dC _ _=_;unfold dg;show((dC [lD (.rf i),-(p),-(b),-(e)] Z).bind _)=_;have N:dC [lD (.rf i),-(p),-(b),-(e)] Z=.er ⟨"TooMany",[("most",.int m)]⟩ Z:=by unfold dC;unfold aO;rw[dW (aV g) rfl,dW y rfl,Ee (B h.o) hm];rfl
   rw[N];rfl
  .rw[ax r]
   have y:=aV (cJ v (B h.o) (bW ((DM _ _).trans (by rw[a4 r]))));have C:=sK v (A h.o) u w h.n (by rw[CG];have:=h.lt;omega);rw[JS q]at C;have L:(Z.set k (.dd (jD 0 (fs++[⟨p,b,e⟩]))))[i]?=lD (.obj "Places" (pF m j k)):=(Ue (db h.ik)).trans h.o;have G:(Z.set k (.dd (jD 0 (fs++[⟨p,b,e⟩]))))[j]?=lD (.lst ((fs.map Jj).map .fz)):=(Ue (db h.jk)).trans h.f;have H:=tT (fe:=ae (bw {ad 1,ad 2,ad 3})) (x:=.fz (Jj ⟨p,b,e⟩)) (F L) G (ag (bQ (ah (af rfl) (ah (af rfl) (ah (af rfl) aC))) rfl (Tq rfl))) G (by rw[Tj,Tj];have:=h.lt;omega);have M:(Z.set k (.dd (jD 0 (fs++[⟨p,b,e⟩])))).set j (.lst ((fs.map Jj).map SV.fz++[.fz (Jj ⟨p,b,e⟩)]))=uO j k (fs++[⟨p,b,e⟩]) Z:=by unfold uO;rw[Uj,Uj];rfl
   rw[M]at H;have P:=h.ent (q:=⟨p,b,e⟩) (by omega);refine j8 rfl ?_;exact de (dW (aV g) (de (fE y fH) (de C (ia H)))) (get P.o P.n (FC q (xa E)))
end
def ka(Z:a9)(m:Int)(fs:bg Pl)(J:a9):a9:=Z++(Cell.obj "Places" (pF m (Z.length+1) (Z.length+2)):: .lst ((fs.map Jj).map .fz):: .dd (jD 0 fs)::J)
theorem z5(h:fs.length<100000):PSt Z.length (Z.length+1) (Z.length+2) m fs (ka Z m fs J):=
 ⟨by have:=zM (l:=Z) (r:=Cell.obj "Places" (pF m (Z.length+1) (Z.length+2)):: .lst ((fs.map Jj).map .fz):: .dd (jD 0 fs)::J) (t:=0);exact this,zM,zM,by omega,by omega,by omega,h⟩
theorem Ce:uO (Z.length+1) (Z.length+2) fs' (ka Z m fs J)=ka Z m fs' J:=by unfold uO ka;rw[Km,Km];rfl
def TM(m:Int):Xc:=⟨"TooMany",[("most",.int m)]⟩
theorem yo(a:0<=m)(h:m<=1000):L9.Qy (.int m)=To:=by refine aP (ac0 (Nat.log2_le_self m.natAbs) ?_);omega
theorem Fw(l:LD.keyD p=To)(j:0<=m)(f:m<=1000):c7 [.rf Z.length,.fz p,.fz (.int m)] (Z++[.obj "Places" []])=if m<=0 then .er (TM m) (ka Z m [] []) else .ok (.fz .none) (ka Z m [⟨p,.none,.none⟩] []):=by
 have i:gc "Places" "most" (ay 0) (ae (ad 2)) [lD (.rf Z.length),-(p),-(.int m)] (Z++[.obj "Places" []])=.ok (.nx [lD (.rf Z.length),-(p),-(.int m)]) (Z++[.obj "Places" [("most",.fz (.int m))]]):=
  (p9 (ag (af rfl)) (bh rfl) bH (by decide)).trans (by rw[iz];rfl)
 have h:gc "Places" "found" (ay 0) (ae (eT au)) [lD (.rf Z.length),-(p),-(.int m)] (Z++[.obj "Places" [("most",.fz (.int m))]])=.ok (.nx [lD (.rf Z.length),-(p),-(.int m)]) (Z++[.obj "Places" [("most",.fz (.int m)),("found",.rf (Z.length+1))],.lst []]):=by refine(p9 (gQ (by fail "ev")) (bh rfl) (by rw[Ux];exact zM (t:=0)) (Tq rfl)).trans ?_;rw[Ux,show Z.length=Z.length+0 from rfl,Km,Tz];rfl
 have g:gc "Places" "numbers" (ay 0) wY [lD (.rf Z.length),-(p),-(.int m)] (Z++[.obj "Places" [("most",.fz (.int m)),("found",.rf (Z.length+1))],.lst []])=.ok (.nx [lD (.rf Z.length),-(p),-(.int m)]) (ka Z m [] []):=by refine(p9 rfl (bh rfl) (by rw[Ux];exact zM (t:=0)) (Tq rfl)).trans ?_;rw[Ux,show Z.length=Z.length+0 from rfl,Km,Tz];rfl
 have P:PSt Z.length (Z.length+1) (Z.length+2) m [] (ka Z m [] []):=z5 (by decide);have n:=vO (b:=.none) (e:=.none) P (yo j f) f l;have a:=CN (F:=cc) (fo:=ay 0) (fa:=ao (ae (ad 1)) (ao (ae (pC .none)) (ao (ae (pC .none)) aX))) (ρ:=[lD (.rf Z.length),-(p),-(.int m)]) (bh rfl) P.o vh (ar (ag (af rfl)) (ar (ag aD) (ar (ag aD) aU))) rfl;rw[n]at a;have a:uj "Places" "enter" cc 4 (ay 0) (ao (ae (ad 1)) (ao (ae (pC .none)) (ao (ae (pC .none)) aX))) [lD (.rf Z.length),-(p),-(.int m)] (ka Z m [] [])=if m<=0 then .er (TM m) (ka Z m [] []) else .ok (.fz (nd 0)) (uO (Z.length+1) (Z.length+2) [⟨p,.none,.none⟩] (ka Z m [] [])):=a
 rw[Ce]at a;show dg 3 cV _ _=_;unfold dg;show((cV [lD (.rf Z.length),-(p),-(.int m)] (Z++[.obj "Places" []])).bind _)=_;unfold cV;rw[de i rfl,de h rfl,de g rfl];unfold bV;rw[a];split<;>rfl
theorem wF:∀{l:bg α},(∀a∈l,LD.kd (f a)=To)->LD.kds (l.map f)=To
 |[],_=>by rw[Xx,LD.kds]
 |a::r,h=>by rw[TX,LD.kds,h a Ts,wF λx b=>h x (Tx _ b)];rfl
theorem LF:∀ks:bg Nat,LD.kds (bA ks)=To:=λks=>wF λa _=>by show LD.kd (.int a)=To;rw[LD.kd]
theorem Mu(h:LB m):LD.kd (mD m)=To:=by
 cases m with
 |Ua c=>show LD.kd (.tuple [.str "letter",.str (eD c)])=To;simp only[LD.kd,LD.kds];rw[ul h,show Tu.strOk "letter"=To by left];rfl
 |V2 n=>show LD.kd (.tuple [.str "layer",.int n])=To;simp only[LD.kd,LD.kds];rw[show Tu.strOk "layer"=To by left];rfl
 |Yl c n=>show LD.kd (.tuple [.str "tap",.str (eD c),.int n])=To;simp only[LD.kd,LD.kds];rw[ul h,show Tu.strOk "tap"=To by left];rfl
 |once n=>show LD.kd (.tuple [.str "once",.int n])=To;simp only[LD.kd,LD.kds];rw[show Tu.strOk "once"=To by left];rfl
 |none=>show LD.kd (.tuple [.str "none"])=To;simp only[LD.kd,LD.kds];rw[show Tu.strOk "none"=To by left];rfl
 |below=>show LD.kd (.tuple [.str "below"])=To;simp only[LD.kd,LD.kds];rw[show Tu.strOk "below"=To by left];rfl
theorem MQ(h:SW b s):LD.kd (gH s)=To/\Tu.depth (gH s)<=4:=by
 have j:LD.kds ((gC s.ac).map pD)=To:=wF λq l=>by show LD.kd (.tuple [nd q.1,mD q.2])=To;simp only[LD.kd,LD.kds];rw[Mu (h.sa.ac _ _ (fF.mp l).2).2.lb];rfl
 have o:∀m:Mn,Tu.depth (mD m)<=1:=λm=>by cases m<;>exact Tq rfl
 have p:Tu.depthAll ((gC s.ac).map pD)<=2:=C8 λq _=>by show max 0 (max (Tu.depth (mD q.2)) 0)+1<=2;have:=o q.2;omega
 have f:LD.kd (jH s.wt)=To/\Tu.depth (jH s.wt)<=2:=by
  cases q:s.wt with
  |none=>exact⟨by show LD.kd .none=To;rw[LD.kd],Ur _⟩
  |some x=>
   obtain⟨a,g,w⟩:=x;have v:=(h.wt a g w q).1;constructor
   .show LD.kd (.tuple [.tuple (bA a),.int g,uJ w])=To
    simp only[LD.kd,LD.kds];rw[LF];cases w with
    |none=>show(To&&(To&&(LD.kd (.tuple [.str "chord"])&&To)))=To;simp only[LD.kd,LD.kds];rw[show Tu.strOk "chord"=To by left];rfl
    |some i=>obtain⟨c,n⟩:=i;have lb:LB (.Yl c n):=(v.tp c n rfl).1;show(To&&(To&&(LD.kd (mD (.Yl c n))&&To)))=To;rw[Mu lb];rfl
   .show max (Tu.depthAll (bA a)+1) (max 0 (max (Tu.depth (uJ w)) 0))+1<=2
    rw[oH];cases w with
    |none=>exact Tq rfl
    |some i=>exact Tq rfl
 have e:LD.kd (uy s.oc)=To/\Tu.depth (uy s.oc)=0:=by cases s.oc<;>exact⟨by show LD.kd _=To;unfold uy;simp only[LD.kd],rfl⟩
 constructor
 .show LD.kd (.tuple [.tuple ((gC s.ac).map pD),jH s.wt,uy s.oc])=To;simp only[LD.kd,LD.kds];rw[j,f.1,e.1];rfl
 .show max (Tu.depthAll ((gC s.ac).map pD)+1) (max (Tu.depth (jH s.wt)) (max (Tu.depth (uy s.oc)) 0))+1<=4;rw[e.2];have:=f.2;omega
def lZ(n:Nat):bg Z8:=(TY n).map .down++(TY n).map .up++[.turn]
theorem FR{b:Bd}{n:Nat}(hn:b.n=n):∀e∈lZ n,EV b e:=by
 intro e a;rcases Uy.mp a with a|a
 .rcases Uy.mp a with a|a
  .obtain⟨k,f,rfl⟩:=T3.mp a;have:=V0.mp f;show(k:Int)<b.n;omega
  .obtain⟨k,f,rfl⟩:=T3.mp a;have:=V0.mp f;show(k:Int)<b.n;omega
 .rw[TN.mp a];trivial
theorem Ln(h:xs.length+ys.length<=1000000):cB (.list xs) (.list ys)=lD (.ow (xs++ys)):=av h
theorem Qw(b:Bd):bJ (bD b) (.int 0)=-(.int b.n):=jq
theorem Py{b:Bd}{n:Nat}(hn:b.n=n)(l:n<=5):gK [bD b]=.ok (.ow ((lZ n).map fU)):=by
 have i:mJ [.int b.n]=lD (bA (TY n)):=by rw[hn];exact rX (by omega)
 have j:=Qw b;have a:(TY n).length<=1000:=by rw[Uq];omega
 have f:ku (dG (gN 0) dH (bw {pC (.str "down"),ad 0}) (bA (TY n)) [Th] [])=.ok ((TY n).map λk=>fU (.down k)):=jP nd (λk=>fU (.down k)) (TY n) a rfl λk _=>bQ (ah aD (ah (af rfl) aC)) rfl (Tq rfl);have e:ku (dG (gN 0) dH (bw {pC (.str "up"),ad 0}) (bA (TY n)) [Th] [])=.ok ((TY n).map λk=>fU (.up k)):=jP nd (λk=>fU (.up k)) (TY n) a rfl λk _=>bQ (ah aD (ah (af rfl) aC)) rfl (Tq rfl);have h:cB (.list ((TY n).map λk=>fU (.down k))) (.list ((TY n).map λk=>fU (.up k)))=lD (.ow (((TY n).map λk=>fU (.down k))++(TY n).map λk=>fU (.up k))):=Ln (by rw[Tj,Tj];omega);have g:cB (.list (((TY n).map λk=>fU (.down k))++(TY n).map λk=>fU (.up k))) (.list [fU .turn])=lD (.ow ((lZ n).map fU)):=(Ln (by rw[Tz,Tj,Tj];show _+1<=_;omega)).trans (by unfold lZ;rw[Uj,Uj,Ui,Ui];rfl);refine jL rfl ?_;unfold kQ;refine cR (dL (by fail "ev") rfl f) rfl rfl ?_;refine cR (dL (by fail "ev") rfl e) rfl rfl ?_;exact eW (aN (aN (nz rfl) (nz rfl) rfl rfl h) (nw (ah (bQ (ah aD (ah aD aC)) rfl (Tq rfl)) aC) rfl (Tq rfl)) rfl rfl g) rfl rfl
abbrev zf(d:D):br PV:=-(d)
abbrev zo(l:bg D):br PV:=lD (.ow l)
def eA(w:bg Nat):Str:=⟨(w.map (97+·)).toArray⟩
theorem rO(w:bg Nat):(eA w).length=w.length:=by show((w.map (97+·)).toArray).size=_;rw[TU,Tj]
theorem LS{v w:bg Nat}(h:eA v=eA w):v=w:=by have a:v.map (97+·)=w.map (97+·):=dw (λz:Str=>z.cps.toList) h;exact(Zj λx y e=>by omega).mp a
theorem FU{w:bg Nat}(h:∀c∈w,c<26):Tu.strOk (eA w)=To:=by show((w.map (97+·)).toArray.all λc=>decide (c<0x110000))=To;rw[<-ac6];refine Vi.mpr λc b=>?_;obtain⟨d,a,rfl⟩:=T3.mp b;have:=h d a;exact aP (by omega)
theorem C7(v w:bg Nat):eA v++eA w=eA (v++w):=by show(⟨(v.map (97+·)).toArray++(w.map (97+·)).toArray⟩:Str)=⟨((v++w).map (97+·)).toArray⟩;rw[Uj];simp
theorem OY{w:bg Nat}(h:w.length<=1000):Jx [.str (eA w)]=-(nd w.length):=by show(if(eA w).length<=1000000 then lD (RV.fz (.int (eA w).length)) else Th)=_;rw[rO,av (by omega)]
theorem MO(a b n:Nat):Ul.Str.strSliceIndices (lD (a:Int)) (lD (b:Int)) 1 n=Ul.Str.strSliceIndices (lD (acw (min a n):Int)) (lD (acw (min b n):Int)) 1 n:=by
 unfold Ul.Str.strSliceIndices;dsimp only;rw[ax (show¬(a:Int)<0 by omega),ax (show¬(b:Int)<0 by omega),ax (show¬(acw (min a n):Int)<0 by omega),ax (show¬(acw (min b n):Int)<0 by omega)];congr 1
 .rw[av (by decide),av (by decide)];omega
 .rw[av (by decide),av (by decide)];omega
theorem Ct{w:bg Nat}(h:w.length<=1000){a b:Nat}(j:a<=b):mX (.str (eA w)) (lD (a:Int)) (lD (b:Int))=-(.str (eA ((w.drop a).take (b - a)))):=by
 have f:=rO w;have g:Txt.slice (eA w) (lD (a:Int)) (lD (b:Int))=eA ((w.drop a).take (b - a)):=by
  have e:=agl (eA w) (a:=min a w.length) (b:=min b w.length) (by omega) (by rw[f];omega);rw[f,<-MO]at e;have l:((eA w).cps.toList.drop (min a w.length)).take (min b w.length - min a w.length)=((w.drop a).take (b - a)).map (97+·):=by
   show((w.map (97+·)).drop (min a w.length)).take (min b w.length - min a w.length)=_;rw[aeV,aeW];by_cases q:a<=w.length
   .rw[aet q,List.take_eq_take_iff,Wu,Tj];omega
   .rw[Vc (by rw[Tj];omega),Vc (by rw[Tj];omega),aeX,aeX]
  rw[l]at e;unfold Txt.slice;rw[f];split
  .rename_i z
   rw[T6]at z;have z:=eq_of_beq z.2;have n:=PySem.sliceIndices_le (lD (a:Int)) (lD (b:Int)) w.length;have m:(aeu (λi=>(eA w).cps[i]?) (Ul.Str.strSliceIndices (lD (a:Int)) (lD (b:Int)) 1 w.length)).length=((w.drop a).take (b - a)).length:=by rw[e,Tj]
   rw[MO,agm (by omega) (by omega),Tj,Uq]at z;rw[Yk (by rw[Wu];omega)];by_cases q:a=0
   .rw[q];rfl
   .rw[List.length_eq_zero_iff.mp (show w.length=0 by omega),List.drop_nil]
  .show(⟨(aeu (λi=>(eA w).cps[i]?) _).toArray⟩:Str)=_;rw[e];rfl
 show(if(eA w).length<=1000000 then lD (RV.fz (.str (Txt.slice (eA w) (lD (a:Int)) (lD (b:Int))))) else Th)=_;rw[f,av (by omega),g]
theorem G7:∀w:bg Nat,ZP (⟨#[]⟩:Str) (w.map eD)=eA w
 |[]=>rfl
 |[c]=>rfl
 |c::d::r=>by show eD c++(⟨#[]⟩:Str)++ZP (⟨#[]⟩:Str) ((d::r).map eD)=_;rw[G7 (d::r),show eD c++(⟨#[]⟩:Str)=eD c by show(⟨#[97+c]++ #[]⟩:Str)=_;simp;rfl];exact C7 [c] (d::r)
theorem C3{w:bg Nat}(h:w.length<=1000):yA "" [.list (w.map λc=>.str (eD c))]=-(.str (eA w)):=by
 have a:("":Str)=⟨#[]⟩:=by left
 show(match wA (w.map λc=>.str (eD c)) with
   |some b=>if ac2 "" b=To then lD (RV.fz (.str (Txt.join "" b))) else Th
   |none=>Th)=_
 rw[show(w.map λc=>Tu.str (eD c))=(w.map eD).map .str by rw[Ui];rfl,IX];dsimp only;have ok:ac2 "" (w.map eD)=To:=by unfold ac2;have:=agn (sep:= "") (texts:=w.map eD) (B:=1) (λz e=>by obtain⟨n,_,rfl⟩:=T3.mp e;exact TB _) (by rw[Tj,a];show _+_*0<=_;omega);rw[this];rfl
 rw[av ok,show Txt.join "" (w.map eD)=ZP "" (w.map eD) from ago _ _,a,G7]
theorem Kh(v w:bg Nat):Tu.eqv (.str (eA v)) (.str (eA w))=decide (v=w):=by
 rw[Tu.eqv];by_cases h:v=w
 .rw[aP h,h];simp
 .rw[a4 h];exact beq_eq_false_iff_ne.mpr λz=>h (LS z)
theorem Gs{v w:bg Nat}(b:∀c∈v,c<26)(a:∀c∈w,c<26):tK (.str (eA v)) (.str (eA w))=-(.bool (!decide (v=w))):=by unfold tK;rw[show lY (.str (eA v))=To from Mx (FU b) (by show 0<=64;decide),show Tu.canLay0 (.str (eA w))=To from FU a,VD,av rfl,Kh]
theorem Mh{f:Str->bg D->br RV}{fo:FE}{fa:FA}{ρ ρ1 a:bp}{pv:PV}{z:Str}{ps:bg PV}{ds:bg D}{rv:RV}(b:fo ρ=.ok (pv,ρ1))(hz:Db pv=lD z)(ha:fa ρ1=.ok (ps,a))(hd:uI a ps=lD ds)(e:f z ds=lD rv):Ql f fo fa ρ=.ok (rv.pv,a):=by unfold Ql;rw[b,dP];dsimp only;rw[hz,aW,dP,ha,dP,hd,aW,dP,e,aW,dP]
def lz(sn:Sn):bg Nat:=(sn.filter (·.2)).map (·.1)
theorem N8{sn:Sn}(h:Xu sn):∀c∈lz sn,c<26:=λc b=>by obtain⟨q,a,rfl⟩:=T3.mp b;exact h q (VQ.mp a).1
theorem LI(sn:Sn):(lz sn).length<=sn.length:=by unfold lz;rw[Tj];exact Xd _ _
theorem Gr{sn:Sn}(g:sn.length<=1000):ku (dG (gT 2 (EK (gN 0) (EK (gN 1) Nr))) (aK (aM dh (ad 1) (pC (.str "down")))) (ad 0) (sn.map o0) [Th,Th] [])=.ok ((lz sn).map λc=>.str (eD c)):=by
 have e:∀d:Bool,dh (.str (if d=To then "down" else "up")) (.str "down")=-(.bool d):=λd=>by
  cases d
  .exact(Od (by left) (by left)).trans (by rw[show((if Tw=To then "down" else "up":Str)== "down")=Tw by left])
  .exact(Od (by left) (by left)).trans (by rw[show((if To=To then "down" else "up":Str)== "down")=To by left])
 rw[xl o0 (λq=>if q.2=To then lD (Tu.str (eD q.1)) else Th) (λρ=>∃a d,ρ=[a,d]) sn ⟨Th,Th,rfl⟩ g ?_]
 .congr 1
  unfold lz;rw[Ui];clear g
  induction sn with
  |nil=>rfl
  |cons x r f=>
   cases q:x.2 with
   |true=>rw[X6 (b:=Tu.str (eD x.1)) (by rw[av q]),abd q,f];rfl
   |false=>rw[X5 (by rw[ax (by rw[q];simp)]),abe (by rw[q];simp),f]
 .rintro⟨c,d⟩ h ρ ⟨x,y,rfl⟩
  cases d with
  |true=>exact⟨[zf (.str (eD c)),zf (.str (if To=To then "down" else "up"))],zY (x:=.str (eD c)) rfl (bN (aN (rv:=.fz (.bool To)) (af rfl) aD rfl rfl (e To)) rfl) (af rfl) rfl rfl,_,_,rfl⟩
  |false=>exact⟨[zf (.str (eD c)),zf (.str (if Tw=To then "down" else "up"))],Pf rfl (bN (aN (rv:=.fz (.bool Tw)) (af rfl) aD rfl rfl (e Tw)) rfl) rfl,_,_,rfl⟩
def x4(w:bg Nat)(d:Nat)(sn:Sn):br Nat:=if(w.drop d).take (lz sn).length=lz sn then lD (d+(lz sn).length) else Th
def PP:br Nat->D
 |some k=>nd k
 |none=>.none
theorem KI{w:bg Nat}(i:∀c∈w,c<26)(m:w.length<=3){d:Nat}(hd:d<=3){sn:Sn}(j:Xu sn)(n:sn.length<=900):gI [.str (eA w),nd d,.list (sn.map o0)]=.ok (.fz (PP (x4 w d sn))):=by
 have o:=LI sn;have cm:=Gr (sn:=sn) (by omega);have h:=C3 (w:=lz sn) (by omega);have g:=OY (w:=lz sn) (by omega);have e:=N8 j;have f:=Ct (w:=w) (by omega) (a:=d) (b:=d+(lz sn).length) (by omega);rw[V4]at f;have ne:=Gs (v:=(w.drop d).take (lz sn).length) (w:=lz sn) (λc l=>i c (ach (YO l))) e;refine jL (ρ:=[zf (.str (eA w)),zf (nd d),zf (.list (sn.map o0)),Th,Th]) rfl ?_;unfold jj;refine cR (ρ3:=[zf (.str (eA w)),zf (nd d),zf (.list (sn.map o0)),zf (.str (eA (lz sn))),Th]) (Mh (rv:=.fz (.str (eA (lz sn)))) aD rfl (ah (dL (cs:=[]) (ds:=sn.map o0) (hW (d:=.list (sn.map o0)) (af rfl) rfl rfl) rfl cm) aC) rfl h) rfl rfl ?_;refine cR (ρ3:=[zf (.str (eA w)),zf (nd d),zf (.list (sn.map o0)),zf (.str (eA (lz sn))),zf (nd (d+(lz sn).length))]) (aN (rv:=.fz (nd (d+(lz sn).length))) (af rfl) (gM (rv:=.fz (nd (lz sn).length)) (ah (af rfl) aC) rfl g) rfl rfl (fY _ _)) rfl rfl ?_;refine qH (bN (aN (zD (rv:=.fz (.str (eA ((w.drop d).take (lz sn).length)))) (af rfl) (iw (af rfl) rfl) (iw (af rfl) rfl) rfl f) (af rfl) rfl rfl ne) rfl) (λq=>?_) (λq=>gG ?_)
 .have q:¬(w.drop d).take (lz sn).length=lz sn:=by simpa using q
  refine j7 (rv:=.fz .none) aD rfl ?_;unfold x4;rw[ax q];rfl
 .have q:(w.drop d).take (lz sn).length=lz sn:=by simpa using q
  refine eW (rv:=.fz (nd (d+(lz sn).length))) (af rfl) rfl ?_;unfold x4;rw[av q];rfl
def AO:Mn->Mn
 |.Yl _ n=>.V2 n
 |.once _=>.none
 |m=>m
def P2:Mn->br (Nat×Int)
 |.Yl c n=>lD (c,n)
 |_=>Th
def Ca(b:Bd)(x:Nat)(k:Nat)(a:Mn):Prop:=a=jz b 0 k\/a=.Ua x\/a=.none
def Na(b:Bd)(k:Nat)(a:Mn):Prop:=a=AO (jz b 0 k)\/a=AO (jz b 1 k)
structure IN(b:Bd)(s:VF):Prop where
 ac:∀k a,s.ac k=lD a->Na b k a
 wt:∀ks g w,s.wt=lD (ks,g,w)->∃k c n,ks=[k]/\w=lD (c,n)/\(jz b 0 k=.Yl c n\/jz b 1 k=.Yl c n)
structure IC(b:Bd)(x:Nat)(s:VF):Prop where
 ac:∀k a,s.ac k=lD a->Ca b x k a
 wt:∀ks g w,s.wt=lD (ks,g,w)->w=Th/\∃k,ks=[k]
 oc:s.oc=Th
section
variable{b:Bd}{p:VF×Sn}{s:VF}{k x:Nat}
theorem zz{Q:Nat->Mn->Prop}(h:∀k a,ac k=lD a->Q k a)(f:∀a,o=lD a->Q k a):∀j a,lg ac k o j=lD a->Q j a:=λj a e=>by
 by_cases z:j=k
 .subst z;rw[dY]at e;exact f a e
 .rw[fM z]at e;exact h j a e
theorem uT{Q:Nat->Mn->Prop}(h:∀j a,j≠k->p.1.ac j=lD a->Q j a):∀j a,(go p k).1.ac j=lD a->Q j a:=λj a e=>by
 unfold go at e;cases z:p.1.ac k with
 |none=>rw[z]at e;exact h j a (λq=>by subst q;rw[z]at e;cases e) e
 |some y=>
  rw[z]at e;by_cases q:j=k
  .subst q;exact a6 ((dY).symm.trans e) (by simp)
  .exact h j a q ((fM q).symm.trans e)
theorem mx:(go p k).1.wt=p.1.wt/\(go p k).1.oc=p.1.oc:=by unfold go;split<;>exact⟨rfl,rfl⟩
theorem Al(s:VF)(m:Mn):(d8 s m).ac=s.ac/\(d8 s m).wt=s.wt:=by unfold d8;split<;>exact⟨rfl,rfl⟩
theorem JM(a:VB b)(f:SA b s)(g:b.ls.length<=2):look b (jF s.ac s.oc) k=jz b 0 k\/look b (jF s.ac s.oc) k=jz b 1 k:=by
 obtain⟨i,h⟩:=wI a f;have:(jF s.ac s.oc).toNat=0\/(jF s.ac s.oc).toNat=1:=by omega
 unfold look;split
 .exact .inl rfl
 .rcases this with e|e<;>rw[e]
  .exact .inl rfl
  .exact .inr rfl
theorem IN.dec(h:IN b p.1):IN b (bS b p).1/\(bS b p).1.wt=Th:=by
 unfold bS;split
 .rename_i q;exact⟨h,q⟩
 .rename_i f g w q
  obtain⟨k,c,n,rfl,rfl,i⟩:=h.wt f g w q;refine⟨⟨?_,λ_ _ _ e=>(by cases e)⟩,rfl⟩;refine zz h.ac λa e=>?_;cases e;rcases i with e|e
  .exact .inl (by rw[e];rfl)
  .exact .inr (by rw[e];rfl)
theorem IN.step(l:VB b)(C:b.ls.length<=2)(i:b.cs=[])(r:SW b s)(h:IN b s)(I:EV b e):IN b (ce b s e).1:=by
 have t:∀f,dr b f=[]:=λf=>by unfold dr;rw[i];rfl
 cases e with
 |turn=>
  show IN b (gv b (s,[])).1;unfold gv;split
  .exact h
  .rename_i f g w q
   have v:IN b {s with wt:=lD (f,g+1,w)}:=⟨h.ac,λ_ _ _ e=>by cases e;exact h.wt f g w q⟩;split
   .exact(IN.dec v).1
   .exact v
 |up k=>
  show IN b (mh b (s,[]) k).1;unfold mh;split
  .rename_i q
   cases z:s.wt with
   |none=>rw[show xZ s.wt k=Tw by rw[z];rfl]at q;cases q
   |some y=>
    obtain⟨f,g,w⟩:=y;obtain⟨G,c,n,rfl,rfl,H⟩:=h.wt f g w z;have e:STP.cj b (s,[]) k=eU ({s with wt:=Th},[]) k (.Ua c):=by unfold STP.cj;dsimp only;rw[z]
    rw[e];refine⟨uT λj a B o=>h.ac j a ((fM B).symm.trans o),λf g w e=>?_⟩;rw[mx.1]at e;cases e
  .refine⟨uT λj a _ o=>h.ac j a o,λf g w e=>?_⟩;rw[mx.1]at e;exact h.wt f g w e
 |down k=>
  show IN b (gR b (s,[]) k).1;unfold gR;split
  .exact h
  .rw[ax (by
    unfold Cz;split
    .rw[t];simp
    .simp)]
   have d:=IN.dec (p:=(s,[])) h;have A:=dZ l (p:=(s,[])) r.sa (SW.wd l r);generalize bS b (s,[])=p at d A;obtain⟨h,E⟩:=d;have lo:=JM (k:=k) l A.1.sa C;unfold Ae;have u:=Al p.1 (look b (jF p.1.ac p.1.oc) k);generalize d8 p.1 (look b (jF p.1.ac p.1.oc) k)=s' at u;generalize look b (jF p.1.ac p.1.oc) k=m at lo;generalize jF p.1.ac p.1.oc=L;have i:∀a,a=AO m->IN b (eU (s',p.2) k a).1:=λa F=>by
    refine⟨zz (λj y e=>h.ac j y (by rw[<-u.1];exact e)) λy e=>?_,λf g w e=>?_⟩
    .cases e
     rw[F];rcases lo with e|e
     .exact .inl (by rw[e])
     .exact .inr (by rw[e])
    .have e:s'.wt=_:=e;rw[u.2,E]at e;cases e
   cases m with
   |Yl c n=>refine⟨λj y e=>h.ac j y (by rw[<-u.1];exact e),λf g w e=>?_⟩;cases e;exact⟨k,c,n,rfl,rfl,by rcases lo with e|e<;>simp[<-e]⟩
   |Ua c=>show IN b (if(decide (L=0)&& !(dr b [k]).isEmpty)=To then _ else eU (s',p.2) k (.Ua c)).1;rw[t,ax (by simp)];exact i _ rfl
   |once n=>have:=i .none rfl;exact⟨this.ac,this.wt⟩
   |V2 n=>exact i _ rfl
   |none=>exact i _ rfl
   |below=>exact i _ rfl
theorem xx:∀{l:bg α},q∈l.zip (l.map f)->q.2=f q.1
 |[],h=>by cases h
 |a::r,h=>by
  rcases T1.mp h with rfl|h
  .rfl
  .exact xx h
theorem HZ{Q:Nat->Mn->Prop}(f:bg (Nat×Mn)):∀{p:VF×Sn},(∀k a,p.1.ac k=lD a->Q k a)->(∀q∈f,Q q.1 q.2)->(∀k a,(gU p f).1.ac k=lD a->Q k a)/\(gU p f).1.wt=p.1.wt/\(gU p f).1.oc=p.1.oc:=by
 induction f with
 |nil=>exact λh _=>⟨h,rfl,rfl⟩
 |cons q r i=>intro p h g;exact i (zz h λa e=>by cases e;exact g q Ts) λy j=>g y (Tx _ j)
theorem Q0(f:b.cs=[([0,1],x)])(ks:bg Nat):∀q∈ks.zip (Hs b ks),Ca b x q.1 q.2:=by
 intro q a;unfold Hs at a;split at a
 .rename_i c e
  have cm:=Wy e;rw[f]at cm;have cm:=TN.mp cm;rcases T1.mp (Wa a).2 with h|h
  .exact .inr (.inl (by rw[h,cm]))
  .exact .inr (.inr (Zi.mp h).2)
 .exact .inl (xx a)
structure IC0(b:Bd)(x:Nat)(s:VF):Prop where
 ac:∀k a,s.ac k=lD a->Ca b x k a
 wt:∀ks g w,s.wt=lD (ks,g,w)->w=Th
 oc:s.oc=Th
theorem IC.z(h:IC b x s):IC0 b x s:=⟨h.ac,λa g w e=>(h.wt a g w e).1,h.oc⟩
theorem IC0.dec(j:b.cs=[([0,1],x)])(h:IC0 b x p.1):IC b x (bS b p).1/\(bS b p).1.wt=Th:=by
 unfold bS;split
 .rename_i q;exact⟨⟨h.ac,λ_ _ _ e=>(by rw[q]at e;cases e),h.oc⟩,q⟩
 .rename_i a g w q;have i:=h.wt a g w q;subst i;obtain⟨m,f,l⟩:=HZ (p:=({p.1 with wt:=Th},p.2)) (a.zip (Hs b a)) h.ac (Q0 j a);exact⟨⟨m,λ_ _ _ e=>(by rw[show(gU ({p.1 with wt:=Th},p.2) (a.zip (gb b a Th))).1.wt=Th from f]at e;cases e),l.trans h.oc⟩,f⟩
theorem QP(f:VB b)(i:SA b s)(l:b.cs=[([0,1],x)])(o:b.n<=2)(h:IC b x s):jF s.ac s.oc=0:=by
 rw[h.oc];show(((gC s.ac).filterMap EH).foldl kr Th).getD 0=0;have:(gC s.ac).filterMap EH=[]:=aaJ.mpr λq j=>by
  have g:=(fF.mp j).2;have r:=(i.ac q.1 q.2 g).1;have ok:=(f.vc ([0,1],x) (by rw[l];exact Ts)).2.2.1 q.1 (by
   have:q.1=0\/q.1=1:=by omega
   rcases this with e|e<;>simp[e])
  obtain⟨c,m⟩:=p7 f ok;obtain⟨k,a⟩:=q;rcases h.ac k a g with rfl|rfl|rfl
  .show EH (k,jz b 0 k)=Th;rw[m];rfl
  .rfl
  .rfl
 rw[this];rfl
theorem IC.step(m:VB b)(H:b.n<=2)(l:b.cs=[([0,1],x)])(C:SW b s)(h:IC b x s)(J:EV b e):IC b x (ce b s e).1:=by
 cases e with
 |turn=>
  show IC b x (gv b (s,[])).1;unfold gv;split
  .exact h
  .rename_i i g w q
   have E:IC b x {s with wt:=lD (i,g+1,w)}:=⟨h.ac,λ_ _ _ e=>by cases e;exact h.wt i g w q,h.oc⟩;split
   .exact(IC0.dec l E.z).1
   .exact E
 |up k=>
  show IC b x (mh b (s,[]) k).1;unfold mh;split
  .rename_i q
   cases z:s.wt with
   |none=>rw[show xZ s.wt k=Tw by rw[z];rfl]at q;cases q
   |some y=>
    obtain⟨i,g,w⟩:=y;obtain⟨rfl,A,rfl⟩:=h.wt i g w z;have e:STP.cj b (s,[]) k=bS b (s,[]):=by unfold STP.cj;dsimp only;rw[z]
    rw[e];obtain⟨d,t⟩:=IC0.dec l (p:=(s,[])) h.z;exact⟨uT λj a _ B=>d.ac j a B,λi g w e=>(by rw[mx.1,t]at e;cases e),mx.2.trans d.oc⟩
  .exact⟨uT λj a _ B=>h.ac j a B,λi g w e=>(by rw[mx.1]at e;exact h.wt i g w e),mx.2.trans h.oc⟩
 |down k=>
  show IC b x (gR b (s,[]) k).1;unfold gR;split
  .exact h
  .split
   .rename_i o
    unfold Cz at o;split at o
    .rename_i i g z
     rw[T6]at o;obtain⟨_,A,rfl⟩:=h.wt i g Th z;have G:dr b ([A]++[k])=[([0,1],x)]:=by
      have r:=o.2;unfold dr at r⊢;rw[l]at r⊢;rw[Wv]at r⊢;split
      .rfl
      .rename_i f;rw[ax f]at r;simp at r
     unfold rb;rw[z];dsimp only;rw[G,av (show aev (λx=>x.1.length) [(([0,1]:bg Nat),x)]=[([A]++[k]).length] from rfl)];exact(IC0.dec l ⟨h.ac,λ_ _ _ e=>(by cases e;rfl),h.oc⟩).1
    .cases o
   .obtain⟨d,t⟩:=IC0.dec l (p:=(s,[])) h.z
    have ds:=dZ m (p:=(s,[])) C.sa (SW.wd m C);generalize bS b (s,[])=p at d t ds;have K:(k:Int)<b.n:=J;have ok:=(m.vc ([0,1],x) (by rw[l];exact Ts)).2.2.1 k (by
     have:k=0\/k=1:=by omega
     rcases this with e|e<;>simp[e])
    obtain⟨c,F⟩:=p7 m ok;unfold Ae;have I:look b 0 k=.Ua c:=by unfold look;rw[show(0:Int).toNat=0 from rfl,F];rfl
    rw[QP m ds.1.sa l H d,I];have u:=Al p.1 (.Ua c);have v:(d8 p.1 (.Ua c)).oc=Th:=rfl;generalize d8 p.1 (.Ua c)=s' at u v;show IC b x (if(decide ((0:Int)=0)&& !(dr b [k]).isEmpty)=To then({s' with wt:=lD ([k],0,Th)},p.2) else eU (s',p.2) k (.Ua c)).1;split
    .exact⟨λj y e=>d.ac j y (by rw[<-u.1];exact e),λi g w e=>(by cases e;exact⟨rfl,k,rfl⟩),v⟩
    .exact⟨zz (λj y e=>d.ac j y (by rw[<-u.1];exact e)) λy e=>(by cases e;exact .inl F.symm),λi g w e=>(by have e:s'.wt=_:=e;rw[u.2,t]at e;cases e),v⟩
def QB(e a:br Mn):Ac:=λk=>if k=0 then e else if k=1 then a else Th
theorem QQ(f:SA b s)(g:b.n<=2):s.ac=QB (s.ac 0) (s.ac 1):=funext λk=>by
 unfold QB;split
 .rename_i e;rw[e]
 .split
  .rename_i e;rw[e]
  .cases q:s.ac k with
   |none=>rfl
   |some a=>have:=(f.ac k a q).1;omega
def A3(b:Bd)(k:Nat):bg (br Mn):=[Th,lD (AO (jz b 0 k)),lD (AO (jz b 1 k))]
def A4(b:Bd)(x k:Nat):bg (br Mn):=[Th,lD (jz b 0 k),lD (.Ua x),lD .none]
def W4(b:Bd)(k:Nat):bg (Int×br (Nat×Int)):=[(0,P2 (jz b 0 k)),(0,P2 (jz b 1 k)),(1,P2 (jz b 0 k)),(1,P2 (jz b 1 k))]
def Sc(F:Nat->bg (br Mn))(W:Nat->bg (Int×br (Nat×Int)))(o:br Int):bg VF:=
 ((F 0).flatMap λe=>(F 1).map λa=>⟨QB e a,Th,o⟩)++((W 0).flatMap λw=>(F 1).map λa=>⟨QB Th a,lD ([0],w.1,w.2),o⟩)++(W 1).flatMap λw=>(F 0).map λe=>⟨QB e Th,lD ([1],w.1,w.2),o⟩
theorem BU(f:SW b s)(i:b.n<=2)(e:∀k,s.ac k∈F k)(j:∀ks g w,s.wt=lD (ks,g,w)->∃k,ks=[k]/\(g,w)∈W k):s∈Sc F W s.oc:=by
 have a:=QQ f.sa i;cases q:s.wt with
 |none=>refine UK _ (UK _ (Vk.mpr ⟨s.ac 0,e 0,T3.mpr ⟨s.ac 1,e 1,?_⟩⟩));rw[<-a,<-q]
 |some y=>
  obtain⟨ks,g,w⟩:=y;obtain⟨k,rfl,hm⟩:=j ks g w q;have v:=(f.wt _ _ _ q).1;have l:=v.kn k Ts;have h:=v.kf k Ts;have:k=0\/k=1:=by omega
  rcases this with rfl|rfl
  .rw[h]at a;refine UK _ (Uh _ (Vk.mpr ⟨(g,w),hm,T3.mpr ⟨s.ac 1,e 1,?_⟩⟩));rw[<-a,<-q]
  .rw[h]at a;refine Uh _ (Vk.mpr ⟨(g,w),hm,T3.mpr ⟨s.ac 0,e 0,?_⟩⟩);rw[<-a,<-q]
theorem few(i:VB b)(A:b.n<=2)(J:b.ls.length<=2)(Q:b.wt<=2):∃(l:bg VF) (I:VF->Prop),l.length<=66/\I v7/\(∀s,I s->SW b s/\s∈l)/\∀s e,I s->EV b e->I (ce b s e).1:=by
 by_cases F:b.cs=[]
 .refine⟨([Th,lD 1]:bg (br Int)).flatMap (Sc (A3 b) (W4 b)),λs=>SW b s/\IN b s,TB 66,⟨nQ b,λk a e=>(by cases e),λm g w e=>(by cases e)⟩,λs h=>⟨h.1,?_⟩,λs e h u=>⟨rV i h.1 u,h.2.step i J F h.1 u⟩⟩
  refine Vk.mpr ⟨s.oc,?_,BU h.1 A (λk=>?_) λm g w e=>?_⟩
  .cases q:s.oc with
   |none=>exact Ts
   |some o=>
    have:=h.1.sa.oc o q;have e:o=1:=by omega
    rw[e];exact Tx _ Ts
  .cases q:s.ac k with
   |none=>exact Ts
   |some a=>
    rcases h.2.ac k a q with rfl|rfl
    .exact Tx _ Ts
    .exact Tx _ (Tx _ Ts)
  .obtain⟨k,c,n,rfl,rfl,B⟩:=h.2.wt m g w e
   have v:=h.1.wt _ _ _ e;have M:=v.1.g0;have L:=v.2;have t:lD (c,n)=P2 (jz b 0 k)\/lD (c,n)=P2 (jz b 1 k):=by rcases B with e|e<;>simp[e,P2]
   have:g=0\/g=1:=by omega
   refine⟨k,rfl,?_⟩;unfold W4;rcases this with rfl|rfl<;>rcases t with e|e<;>rw[e]<;>simp
 .obtain⟨x,K⟩:∃x,b.cs=[([0,1],x)]:=by
   have one:∀c∈b.cs,c.1=[0,1]:=λc hm=>by
    obtain⟨P,O,N,_⟩:=i.vc c hm;have j:∀k∈c.1,k<2:=λk B=>by
     have E:=i.l1;obtain⟨l,r,H⟩:∃l r,b.ls=l::r:=by
      cases q:b.ls with
      |nil=>rw[q]at E;cases E
      |cons l r=>exact⟨l,r,rfl⟩
     have R:=i.vl 0 l (by rw[H];rfl);have:=N k B;unfold re at this;rw[H,adX]at this;cases q:l[k]? with
     |none=>rw[q]at this;cases this
     |some y=>have:=(Tn.mp q).1;omega
    match hq:c.1,P,O,j with
    |[a,d],_,h,j=>
     have:=j a Ts;have:=j d (Tx _ Ts);have h:=(U7.mp h).1 d Ts;obtain rfl:a=0:=by omega
     obtain rfl:d=1:=by omega
     rfl
    |a::d::f::r,_,h,j=>have C:=(U7.mp h).1 d Ts;have G:=(U7.mp (U7.mp h).2).1 f Ts;have:=j f (Tx _ (Tx _ Ts));omega
   cases e:b.cs with
   |nil=>exact a6 e F
   |cons c r=>
    have C:=one c (by rw[e];exact Ts);cases r with
    |nil=>exact⟨c.2,by rw[<-C]⟩
    |cons d r=>have G:=one d (by rw[e];exact Tx _ Ts);have:=i.cu;rw[e]at this;exact a6 (C.trans G.symm) ((U7.mp this).1 d Ts)
  refine⟨Sc (A4 b x) (λ_=>[(0,Th),(1,Th)]) Th,λs=>SW b s/\IC b x s,by show 32<=66;decide,⟨nQ b,λk a e=>(by cases e),λm g w e=>(by cases e),rfl⟩,λs h=>⟨h.1,?_⟩,λs e h u=>⟨rV i h.1 u,h.2.step i A K h.1 u⟩⟩;rw[<-h.2.oc];refine BU h.1 A (λk=>?_) λm g w e=>?_
  .cases q:s.ac k with
   |none=>exact Ts
   |some a=>rcases h.2.ac k a q with rfl|rfl|rfl<;>simp[A4]
  .obtain⟨rfl,k,rfl⟩:=h.2.wt m g w e
   have v:=h.1.wt _ _ _ e;have M:=v.1.g0;have L:=v.2;have:g=0\/g=1:=by omega
   exact⟨k,rfl,by rcases this with rfl|rfl<;>simp⟩
end
structure I3(b:Bd)(K:bg Nat)(x:Nat)(s:VF):Prop where
 ac:∀k a,s.ac k=lD a->Ca b x k a
 wt:∀ks g w,s.wt=lD (ks,g,w)->w=Th/\∃k,ks=[k]/\k∈K
 oc:s.oc=Th
section
variable{b:Bd}{p:VF×Sn}{s:VF}{k x:Nat}{K:bg Nat}
theorem Q4(f:b.cs=[(K,x)])(ks:bg Nat):∀q∈ks.zip (Hs b ks),Ca b x q.1 q.2:=by
 intro q a;unfold Hs at a;split at a
 .rename_i c e
  have cm:=Wy e;rw[f]at cm;have cm:=TN.mp cm;rcases T1.mp (Wa a).2 with h|h
  .exact .inr (.inl (by rw[h,cm]))
  .exact .inr (.inr (Zi.mp h).2)
 .exact .inl (xx a)
theorem I3.dec(j:b.cs=[(K,x)])(ha:∀k a,p.1.ac k=lD a->Ca b x k a)(f:∀ks g w,p.1.wt=lD (ks,g,w)->w=Th)(h:p.1.oc=Th):I3 b K x (bS b p).1/\(bS b p).1.wt=Th:=by
 unfold bS;split
 .rename_i q;exact⟨⟨ha,λ_ _ _ e=>(by rw[q]at e;cases e),h⟩,q⟩
 .rename_i ks g w q;have f:=f ks g w q;subst f;obtain⟨m,i,l⟩:=HZ (p:=({p.1 with wt:=Th},p.2)) (ks.zip (Hs b ks)) ha (Q4 j ks);exact⟨⟨m,λ_ _ _ e=>(by rw[show(gU ({p.1 with wt:=Th},p.2) (ks.zip (gb b ks Th))).1.wt=Th from i]at e;cases e),l.trans h⟩,i⟩
theorem I3.dc(f:b.cs=[(K,x)])(h:I3 b K x p.1):I3 b K x (bS b p).1/\(bS b p).1.wt=Th:=I3.dec f h.ac (λa g w e=>(h.wt a g w e).1) h.oc
theorem Qz(f:VB b)(g:SA b s)(j:∀k:Nat,(k:Int)<b.n->re (b.ls.headD []) k=To)(h:I3 b K x s):jF s.ac s.oc=0:=by
 rw[h.oc];show(((gC s.ac).filterMap EH).foldl kr Th).getD 0=0;have:(gC s.ac).filterMap EH=[]:=aaJ.mpr λq i=>by
  have e:=(fF.mp i).2;obtain⟨c,l⟩:=p7 f (j q.1 (g.ac q.1 q.2 e).1);obtain⟨k,a⟩:=q;rcases h.ac k a e with rfl|rfl|rfl
  .show EH (k,jz b 0 k)=Th;rw[l];rfl
  .rfl
  .rfl
 rw[this];rfl
theorem BW(e:b.cs=[(K,x)])(h:(dr b ks).isEmpty=Tw):dr b ks=[(K,x)]/\∀k∈ks,k∈K:=by
 unfold dr at h⊢;rw[e]at h⊢;rw[Wv]at h⊢;split
 .rename_i f;exact⟨rfl,λk a=>a5 (Vi.mp f k a)⟩
 .rename_i f;rw[ax f]at h;cases h
theorem I3.step(l:VB b)(A:∀k:Nat,(k:Int)<b.n->re (b.ls.headD []) k=To)(f:b.cs=[(K,x)])(I:K.length=2)(t:SW b s)(h:I3 b K x s)(H:EV b e):I3 b K x (ce b s e).1:=by
 cases e with
 |turn=>
  show I3 b K x (gv b (s,[])).1;unfold gv;split
  .exact h
  .rename_i ks g w q
   have B:I3 b K x {s with wt:=lD (ks,g+1,w)}:=⟨h.ac,λ_ _ _ e=>by cases e;exact h.wt ks g w q,h.oc⟩;split
   .exact(I3.dc f B).1
   .exact B
 |up k=>
  show I3 b K x (mh b (s,[]) k).1;unfold mh;split
  .rename_i q
   cases z:s.wt with
   |none=>rw[show xZ s.wt k=Tw by rw[z];rfl]at q;cases q
   |some y=>
    obtain⟨ks,g,w⟩:=y;obtain⟨rfl,_⟩:=h.wt ks g w z;have e:STP.cj b (s,[]) k=bS b (s,[]):=by unfold STP.cj;dsimp only;rw[z]
    rw[e];obtain⟨d,m⟩:=I3.dc f (p:=(s,[])) h;exact⟨uT λj a _ r=>d.ac j a r,λks g w e=>(by rw[mx.1,m]at e;cases e),mx.2.trans d.oc⟩
  .exact⟨uT λj a _ r=>h.ac j a r,λks g w e=>(by rw[mx.1]at e;exact h.wt ks g w e),mx.2.trans h.oc⟩
 |down k=>
  show I3 b K x (gR b (s,[]) k).1;unfold gR;split
  .exact h
  .split
   .rename_i i
    unfold Cz at i;split at i
    .rename_i ks g z;rw[T6]at i;obtain⟨_,v,rfl,_⟩:=h.wt ks g Th z;have E:=(BW f (ks:=[v]++[k]) (by simpa using i.2)).1;unfold rb;rw[z];dsimp only;rw[E,av (show aev (λx=>x.1.length) [(K,x)]=[([v]++[k]).length] by show[K.length]=[2];rw[I])];exact(I3.dec f h.ac (λ_ _ _ e=>(by cases e;rfl)) h.oc).1
    .cases i
   .obtain⟨d,m⟩:=I3.dc f (p:=(s,[])) h
    have ds:=dZ l (p:=(s,[])) t.sa (SW.wd l t);generalize bS b (s,[])=p at d m ds;obtain⟨c,C⟩:=p7 l (A k H);unfold Ae;have F:look b 0 k=.Ua c:=by unfold look;rw[show(0:Int).toNat=0 from rfl,C];rfl
    rw[Qz l ds.1.sa A d,F];have u:=Al p.1 (.Ua c);have o:(d8 p.1 (.Ua c)).oc=Th:=rfl;generalize d8 p.1 (.Ua c)=s' at u o;show I3 b K x (if(decide ((0:Int)=0)&& !(dr b [k]).isEmpty)=To then({s' with wt:=lD ([k],0,Th)},p.2) else eU (s',p.2) k (.Ua c)).1;split
    .rename_i q;rw[T6]at q;have G:=(BW f (by simpa using q.2)).2 k Ts;exact⟨λj y e=>d.ac j y (by rw[<-u.1];exact e),λks g w e=>(by cases e;exact⟨rfl,k,rfl,G⟩),o⟩
    .exact⟨zz (λj y e=>d.ac j y (by rw[<-u.1];exact e)) λy e=>(by cases e;exact .inl C.symm),λks g w e=>(by have e:s'.wt=_:=e;rw[u.2,m]at e;cases e),o⟩
def Rn(f e a:br Mn):Ac:=λk=>if k=0 then f else if k=1 then e else if k=2 then a else Th
theorem RZ(f:SA b s)(g:b.n<=3):s.ac=Rn (s.ac 0) (s.ac 1) (s.ac 2):=funext λk=>by
 unfold Rn;split
 .rename_i e;rw[e]
 .split
  .rename_i e;rw[e]
  .split
   .rename_i e;rw[e]
   .cases q:s.ac k with
    |none=>rfl
    |some a=>have:=(f.ac k a q).1;omega
def fr(k j:Nat)(l:bg (br Mn)):bg (br Mn):=if j=k then[Th] else l
def S3(b:Bd)(x:Nat):bg VF:=(A4 b x 0).flatMap λf=>(A4 b x 1).flatMap λe=>(A4 b x 2).map λa=>⟨Rn f e a,Th,Th⟩
def Rq(b:Bd)(x k:Nat):bg VF:=([0,1]:bg Int).flatMap λg=>(fr k 0 (A4 b x 0)).flatMap λf=>(fr k 1 (A4 b x 1)).flatMap λe=>(fr k 2 (A4 b x 2)).map λa=>⟨Rn f e a,lD ([k],g,Th),Th⟩
theorem B2(k:Nat)(a:k<3):(Rq b x k).length=32:=by
 have:k=0\/k=1\/k=2:=by omega
 rcases this with rfl|rfl|rfl<;>rfl
theorem Sy(f:VB b)(H:b.n<=3)(O:b.wt<=2)(M:∀k:Nat,(k:Int)<b.n->re (b.ls.headD []) k=To)(B:b.cs=[(K,x)])(G:K.length=2):∃(l:bg VF) (I:VF->Prop),l.length<=128/\I v7/\(∀s,I s->SW b s/\s∈l)/\∀s e,I s->EV b e->I (ce b s e).1:=by
 have u:∀k∈K,k<3:=λk h=>by
  obtain⟨c,E⟩:=p7 f ((f.vc (K,x) (by rw[B];exact Ts)).2.2.1 k h);apply Classical.byContradiction;intro z;have:jz b 0 k=.none:=by
   unfold jz;cases q:b.ls[0]? with
   |none=>rfl
   |some l=>have:=(f.vl 0 l q).1;rw[X3,List.getElem?_eq_none (by omega)];rfl
  rw[this]at E;cases E
 obtain⟨i,j,rfl⟩:∃i j,K=[i,j]:=by
  match K,G with
  |[i,j],_=>exact⟨i,j,rfl⟩
 refine⟨S3 b x++(Rq b x i++Rq b x j),λs=>SW b s/\I3 b [i,j] x s,?_,⟨nQ b,λk a e=>(by cases e),λt g w e=>(by cases e),rfl⟩,λs h=>⟨h.1,?_⟩,λs e h A=>⟨rV f h.1 A,h.2.step f M B G h.1 A⟩⟩
 .rw[Tz,Tz,B2 i (u i Ts),B2 j (u j (Tx _ Ts))];exact TB 128
 .have F:=RZ h.1.sa H
  have m:∀k,s.ac k∈A4 b x k:=λk=>by
   cases q:s.ac k with
   |none=>exact Ts
   |some a=>
    rcases h.2.ac k a q with rfl|rfl|rfl
    .exact Tx _ Ts
    .exact Tx _ (Tx _ Ts)
    .exact Tx _ (Tx _ (Tx _ Ts))
  have C:=h.2.oc;cases q:s.wt with
  |none=>refine UK _ (Vk.mpr ⟨s.ac 0,m 0,Vk.mpr ⟨s.ac 1,m 1,T3.mpr ⟨s.ac 2,m 2,?_⟩⟩⟩);rw[<-F,<-q,<-C]
  |some y=>
   obtain⟨t,g,w⟩:=y;obtain⟨rfl,k,rfl,J⟩:=h.2.wt t g w q;obtain⟨v,P⟩:=h.1.wt _ _ _ q;have L:=v.kf k Ts;have Q:=v.g0;have r:∀j,s.ac j∈fr k j (A4 b x j):=λj=>by
    unfold fr;split
    .rename_i e;rw[e,L];exact Ts
    .exact m j
   have N:g∈([0,1]:bg Int):=by
    have:g=0\/g=1:=by omega
    rcases this with e|e<;>rw[e]
    .exact Ts
    .exact Tx _ Ts
   have o:s∈Rq b x k:=by refine Vk.mpr ⟨g,N,Vk.mpr ⟨s.ac 0,r 0,Vk.mpr ⟨s.ac 1,r 1,T3.mpr ⟨s.ac 2,r 2,?_⟩⟩⟩⟩;rw[<-F,<-q,<-C]
   rcases T1.mp J with e|e
   .subst e;exact Uh _ (UK _ o)
   .rw[TN.mp e]at o;exact Uh _ (Uh _ o)
end
theorem LN{ks a:bg Nat}(h:bA ks=bA a):ks=a:=(Zj λx y e=>by injection e with e;exact aag e).mp h
theorem Iy{m n:Mn}(h:mD m=mD n):m=n:=by
 have e:=(qu m).symm.trans ((dw (λz=>bJ z (.int 0)) h).trans (qu n));injection e with e;injection e with e;injection e with e
 have w:=yL _ (qE m) _ (qE n);rw[show ws (wn m)=ws (wn n) from e,dN]at w;have w:=a5 w.symm;cases m<;>cases n<;>first|rfl|(exfalso;revert w;simp[wn];done)|(injection h with h;injection h with _ h;injection h with h g;injection h with h)
 .rw[wV h]
 .rw[h]
 .injection g with g;injection g with g;rw[wV h,g]
 .rw[h]
theorem Oa{b c:Bd}(o:VB b)(l:VB c){s t:VF}(E:SW b s)(C:SW c t)(h:gH s=gH t):s=t:=by
 injection h with h
 injection h with h1 h
 injection h with h2 h
 injection h with h3 _
 injection h1 with h1
 have j:gC s.ac=gC t.ac:=(Zj λx y e=>by
  injection e with e;injection e with f e;injection e with e2 _;injection f with f
  exact Prod.ext (aag f) (Iy e2)).mp h1
 have H:s.ac=t.ac:=funext λk=>Option.ext λa=>⟨λe=>by
   have:=(fF (p:=(k,a))).mpr ⟨(SA.ak o E.sa k a e).1,e⟩;rw[j]at this;exact(fF.mp this).2,λe=>by
   have:=(fF (p:=(k,a))).mpr ⟨(SA.ak l C.sa k a e).1,e⟩;rw[<-j]at this;exact(fF.mp this).2⟩
 have F:s.wt=t.wt:=by
  revert h2;cases s.wt with
  |none=>cases t.wt with
   |none=>exact λ_=>rfl
   |some y=>exact λe=>by cases e
  |some x=>cases t.wt with
   |none=>exact λe=>by cases e
   |some y=>
    obtain⟨I,g,w⟩:=x;obtain⟨J,i,v⟩:=y;intro e;injection e with e;injection e with f e;injection e with e2 e;injection e with e3 _;injection f with f;injection e2 with e2;have f:=LN f;have:w=v:=by
     revert e3;cases w with
     |none=>cases v with
      |none=>exact λ_=>rfl
      |some q=>exact λe=>by injection e with e;injection e with _ e;cases e
     |some p=>cases v with
      |none=>exact λe=>by injection e with e;injection e with _ e;cases e
      |some q=>obtain⟨B,A⟩:=p;obtain⟨u,r⟩:=q;exact λe=>by have:=Iy (m:=.Yl B A) (n:=.Yl u r) e;injection this with a b;rw[a,b]
    rw[f,e2,this]
 have G:s.oc=t.oc:=by
  revert h3;cases s.oc<;>cases t.oc<;>intro e
  .rfl
  .cases e
  .cases e
  .injection e with e;rw[e]
 cases s;cases t;cases H;cases F;cases G;rfl
abbrev TP:=VF×Nat
def kT(p:TP):D:=.tuple [gH p.1,nd p.2]
def CF(b:Bd)(w:bg Nat)(p:TP)(e:Z8):br TP:=(x4 w p.2 (ce b p.1 e).2).map λd=>((ce b p.1 e).1,d)
def Jl:TP:=(v7,0)
def RT(b:Bd)(w:bg Nat)(es:bg Z8):Nat->TP->Prop
 |0,p=>p=Jl
 |k+1,p=>∃q e,RT b w es k q/\e∈es/\CF b w q e=lD p
structure TC(b:Bd)(w:bg Nat)(es:bg Z8):Prop where
 vb:VB b
 eb:∀e∈es,EV b e
 w26:∀c∈w,c<26
 wl:w.length<=3
def TW(b:Bd)(w:bg Nat)(p:TP):Prop:=SW b p.1/\p.2<=w.length
theorem Hh:∀{fs:bg Pl} {d:D} {t:Nat},i9 fs d=lD t->∃q,fs[t]?=lD q/\Tu.eqv q.p d=To
 |[],_,_,h=>by cases h
 |a::r,d,t,h=>by
  unfold i9 at h;split at h
  .rename_i e;cases h;exact⟨a,rfl,e⟩
  .cases q:i9 r d with
   |none=>rw[q]at h;cases h
   |some j=>rw[q]at h;cases h;obtain⟨x,f,b⟩:=Hh q;exact⟨x,by simpa using f,b⟩
theorem zU:∀{fs:bg Pl} {d:D},i9 fs d=Th->∀q∈fs,Tu.eqv q.p d=Tw
 |[],_,_,_,hq=>by cases hq
 |a::r,d,h,q,hq=>by
  unfold i9 at h;by_cases e:Tu.eqv a.p d=To
  .rw[av e]at h;cases h
  .rw[ax e]at h
   rcases T1.mp hq with rfl|hq
   .exact ZC.mpr e
   .exact zU (by cases z:i9 r d with|none=>rfl|some _=>rw[z]at h;cases h) q hq
theorem OP{w:bg Nat}{d k:Nat}{sn:Sn}(hd:d<=w.length)(h:x4 w d sn=lD k):k<=w.length:=by
 unfold x4 at h;split at h
 .rename_i q;cases h;have:=dw XT q;rw[UI,Wu]at this;omega
 .cases h
section
variable{b:Bd}{w:bg Nat}{es:bg Z8}
theorem TC.nx(h:TC b w es)(a:TW b w p)(f:e∈es)(hn:CF b w p e=lD q):TW b w q:=by
 unfold CF at hn;cases z:x4 w p.2 (ce b p.1 e).2 with
 |none=>rw[z]at hn;cases hn
 |some d=>rw[z]at hn;cases hn;exact⟨rV h.vb a.1 (h.eb e f),OP a.2 z⟩
theorem TC.rw(h:TC b w es):∀{k p},RT b w es k p->TW b w p
 |0,p,e=>by rw[show p=Jl from e];exact⟨nQ b,Ur _⟩
 |k+1,p,⟨q,e,hq,he,hp⟩=>h.nx (h.rw hq) he hp
theorem RT.inv(h:TC b w es){I:VF->Prop}(f:I v7)(a:∀s e,I s->EV b e->I (ce b s e).1):∀{k p},RT b w es k p->I p.1
 |0,p,e=>by rw[show p=Jl from e];exact f
 |k+1,p,⟨q,e,hq,he,hp⟩=>by
  unfold CF at hp;cases z:x4 w q.2 (ce b q.1 e).2 with
  |none=>rw[z]at hp;cases hp
  |some d=>rw[z]at hp;cases hp;exact a _ _ (RT.inv h f a hq) (h.eb e he)
theorem Fk(h:TC b w es)(f:TW b w p)(a:TW b w q)(e:kT p=kT q):p=q:=by
 injection e with e;injection e with e1 e;injection e with e2 _;injection e2 with e2
 exact Prod.ext (Oa h.vb h.vb f.1 a.1 e1) (aag e2)
theorem iE(a:TW b w p):LD.keyD (kT p)=To:=by obtain⟨e,f⟩:=MQ a.1;unfold kT;rw[LD.keyD];simp only[LD.kds];rw[e,show LD.kd (nd p.2)=To by show LD.kd (.int _)=To;rw[LD.kd],aP (show Tu.depth (.tuple [gH p.1,nd p.2])<=8 by show max (Tu.depth (gH p.1)) (max 0 0)+1<=8;omega)];rfl
end
structure Te where
 p:TP
 b:D
 e:D
 d:Nat
def pc(q:Te):Pl:=⟨kT q.p,q.b,q.e⟩
def Rb:Te:=⟨Jl,.none,.none,0⟩
def Dt(b:Bd)(w:bg Nat)(fs:bg Te)(q:Te)(e:Z8):Prop:=∀p,CF b w q.p e=lD p->∃r∈fs,r.p=p/\r.d<=q.d+1
structure BT(b:Bd)(w:bg Nat)(es:bg Z8)(fs:bg Te)(n:Nat):Prop where
 z:fs[0]?=lD Rb
 bk:∀i q,fs[i]?=lD q->0<i->∃j r,j<i/\fs[j]?=lD r/\q.b=nd j/\q.d=r.d+1/\∃e,q.e=fU e/\e∈es/\CF b w r.p e=lD q.p
 rw:∀q∈fs,RT b w es q.d q.p
 mo:fs.Pairwise λq r=>q.d<=r.d
 up:∀q,fs[n]?=lD q->∀r∈fs,r.d<=q.d+1
 un:(fs.map (·.p)).Nodup
 dn:∀j q,j<n->fs[j]?=lD q->∀e∈es,Dt b w fs q e
section
variable{b:Bd}{w:bg Nat}{es:bg Z8}{fs:bg Te}{n:Nat}
theorem S5:BT b w es [Rb] 0:=by
 refine⟨rfl,λi q h hi=>?_,λq a=>?_,U0 _ _,λq a r e=>?_,U0 _ _,λj q f=>a6 f (aew _)⟩
 .match i,hi,h with
  |i+1,_,h=>cases h
 .rw[TN.mp a];rfl
 .rw[TN.mp e];exact Ur _
theorem Dt.mono(h:Dt b w fs q e)(l:bg Te):Dt b w (fs++l) q e:=λp f=>by obtain⟨r,a,x⟩:=h p f;exact⟨r,UK _ a,x⟩
theorem BT.old(B:TC b w es)(h:BT b w es fs n)(l:fs[n]?=lD q)(o:e∈es)(m:CF b w q.p e=lD p)(hi:i9 (fs.map pc) (kT p)=lD t):Dt b w fs q e:=λy a=>by
 rw[m]at a;cases a;obtain⟨r,f,v⟩:=Hh hi;rw[TH]at f;cases z:fs[t]? with
 |none=>rw[z]at f;cases f
 |some u=>rw[z]at f;cases f;have g:=Ug z;have i:=B.rw (h.rw u g);have j:=B.nx (B.rw (h.rw q (Ug l))) o m;exact⟨u,g,Fk B i j (LD.kd_eqv _ _ (LD.keyD_kd (iE i)).1 (LD.keyD_kd (iE j)).1 v),h.up q l u g⟩
theorem BT.new(B:TC b w es)(h:BT b w es fs n)(l:fs[n]?=lD q)(v:e∈es)(o:CF b w q.p e=lD p)(hi:i9 (fs.map pc) (kT p)=Th):BT b w es (fs++[⟨p,nd n,fU e,q.d+1⟩]) n:=by
 have C:=(Tn.mp l).1;have A:=Ug l;have old:∀{i:Nat} {r:Te},fs[i]?=lD r->(fs++[⟨p,L3.nd n,fU e,q.d+1⟩])[i]?=lD r:=λx=>(TF (Tn.mp x).1).trans x;refine⟨old h.z,λi r a t=>?_,λr a=>?_,?_,λr a u g=>?_,?_,λj r G a f H=>?_⟩
 .by_cases E:i<fs.length
  .rw[TF E]at a;obtain⟨j,u,L,K,J⟩:=h.bk i r a t;exact⟨j,u,L,old K,J⟩
  .rw[Um (by omega)]at a
   have z:i - fs.length=0:=by have:=(Tn.mp a).1;rw[Xb]at this;omega
   rw[z]at a;cases a;exact⟨n,q,by omega,old l,rfl,rfl,e,rfl,v,o⟩
 .rcases Uy.mp a with a|a
  .exact h.rw r a
  .rw[TN.mp a];exact⟨q.p,e,h.rw q A,v,o⟩
 .rw[aci];refine⟨h.mo,U0 _ _,λr a u g=>?_⟩;rw[TN.mp g];exact h.up q l r a
 .rw[TF C,l]at a
  cases a;rcases Uy.mp g with g|g
  .exact h.up q l u g
  .rw[TN.mp g];exact TB _
 .rw[Uj,Wi];refine⟨h.un,U0 _ _,λx F y m I=>?_⟩;obtain⟨r,a,rfl⟩:=T3.mp F;have m:y=p:=TN.mp m;have:=zU hi (pc r) (T3.mpr ⟨r,a,rfl⟩);rw[show(pc r).p=kT p by show kT r.p=_;rw[I,m],xa (iE (B.nx (B.rw (h.rw q A)) v o))]at this;cases this
 .rw[TF (by omega)]at a;exact(h.dn j r G a f H).mono _
theorem BT.next(h:BT b w es fs n)(f:fs[n]?=lD q)(hd:∀e∈es,Dt b w fs q e):BT b w es fs (n+1):=by
 refine⟨h.z,h.bk,h.rw,h.mo,λr a u o=>?_,h.un,λj r p a e l=>?_⟩
 .have i:=(Tn.mp f);have g:=(Tn.mp a);have:=aaK.mp h.mo n (n+1) i.1 g.1 (by omega);rw[i.2,g.2]at this;have:=h.up q f u o;omega
 .by_cases m:j<n
  .exact h.dn j r m a e l
  .have:j=n:=by omega
   subst this;rw[f]at a;cases a;exact hd e l
theorem BT.all(h:BT b w es fs n)(hn:fs.length<=n):∀k p,RT b w es k p->∃r∈fs,r.p=p/\r.d<=k
 |0,p,hp=>⟨Rb,Ug h.z,(show p=Jl from hp).symm,TB _⟩
 |k+1,p,⟨u,e,hu,he,hp⟩=>by obtain⟨r,l,i,o⟩:=h.all hn k u hu;obtain⟨j,a⟩:=UH.mp l;obtain⟨v,g,f,m⟩:=h.dn j r (T9 (Tn.mp a).1 hn) a e he p (by rw[i];exact hp);exact⟨v,g,f,by omega⟩
end
theorem iy{α:Type}:∀{m l:bg α},m.Nodup->(∀x∈m,x∈l)->m.length<=l.length
 |[],_,_,_=>Ur _
 |a::r,l,h,hs=>by
  obtain⟨f,e,rfl⟩:=List.append_of_mem (hs a Ts);rw[U5]at h;have:=iy (m:=r) (l:=f++e) h.2 λx b=>by
   rcases Uy.mp (hs x (Tx _ b)) with q|q
   .exact UK _ q
   .rcases T1.mp q with rfl|q
    .exact a6 b h.1
    .exact Uh _ q
  rw[Tz]at this⊢;rw[TR,TR];omega
section
variable{b:Bd}(Z:VB b){s:VF}{p:VF×Sn}{k:Nat}
theorem EY:(go p k).2.length<=p.2.length+1:=by
 unfold go;split
 .rename_i a q
  rw[Tz];have:(Ng (lg p.1.ac k Th) a).length<=1:=by
   cases a with
   |Ua c=>show(if ny (lg p.1.ac k Th) (.Ua c)=To then[] else[(c,Tw)]:Sn).length<=1;split<;>exact Tq rfl
   |_=>exact Ur _
  omega
 .omega
theorem LM:(Ae b p k).2.length<=p.2.length+1:=by
 have e:Ae b p k=wX b (jF p.1.ac p.1.oc) (d8 p.1 (look b (jF p.1.ac p.1.oc) k),p.2) k (look b (jF p.1.ac p.1.oc) k):=rfl;rw[e];generalize look b (jF p.1.ac p.1.oc) k=m;generalize jF p.1.ac p.1.oc=L;have cm:∀a,(eU (d8 p.1 m,p.2) k a).2.length<=p.2.length+1:=λa=>nV;cases m with
 |Yl c n=>exact Xm _
 |Ua c=>
  show(if(decide (L=0)&& !(dr b [k]).isEmpty)=To then({d8 p.1 (.Ua c) with wt:=lD ([k],0,Th)},p.2) else eU (d8 p.1 (.Ua c),p.2) k (.Ua c)).2.length<=_;split
  .exact Xm _
  .exact cm _
 |once n=>exact cm .none
 |V2 n=>exact cm _
 |none=>exact cm _
 |below=>exact cm _
include Z
theorem ye(a:SW b s)(i:EV b e):(ce b s e).2.length<=100:=by
 have d:=dZ Z (p:=(s,[])) a.sa (SW.wd Z a);have o:(bS b (s,[])).2.length<=5:=d.2.2.1;cases e with
 |turn=>
  show(gv b (s,[])).2.length<=100;unfold gv;split
  .exact Ur _
  .rename_i f g w q
   have v:=(a.wt f g w q).1;split
   .have:=(dZ Z (p:=({s with wt:=lD (f,g+1,w)},[])) ⟨a.sa.ac,a.sa.oc⟩ λ_ _ _ e=>by cases e;exact⟨v.ne,v.nd,v.kn,v.kf,by have:=v.g0;omega,v.tp,v.ch⟩).2.2.1;exact Uv this (show 0+5<=100 by decide)
   .exact Ur _
 |up k=>
  show(mh b (s,[]) k).2.length<=100;unfold mh;split
  .rename_i q;have z:=(l8 Z a q).2;have z:(STP.cj b (s,[]) k).2.length<=5:=z;have:=EY (p:=STP.cj b (s,[]) k) (k:=k);omega
  .exact Uv EY (show 0+1<=100 by decide)
 |down k=>
  show(gR b (s,[]) k).2.length<=100;unfold gR;split
  .exact Ur _
  .rename_i q
   rw[Ys,not_or]at q;have ha:s.ac k=Th:=by
    cases z:s.ac k with
    |none=>rfl
    |some x=>exact a6 (show(s.ac k).isSome=To by rw[z];rfl) q.1
   have hn:xZ s.wt k=Tw:=by
    cases z:xZ s.wt k with
    |false=>rfl
    |true=>exact a6 z q.2
   split
   .rename_i h
    obtain⟨f,g,l,n,j,m⟩:=v9 Z a i ha hn h;unfold rb;rw[l];dsimp only;split
    .have:=(dZ Z (p:=({s with wt:=lD (f++[k],g,Th)},[])) ⟨a.sa.ac,a.sa.oc⟩ λ_ _ _ e=>by cases e;exact j).2.2.1;exact Uv this (show 0+5<=100 by decide)
    .exact Ur _
   .have:=LM (b:=b) (p:=bS b (s,[])) (k:=k);omega
end
section
variable{ρ:bu}{Z Z1 Z2:a9}{x:SV}
theorem Gu(ha:fa ρ Z=.ok xs Z1)(a:k6 F n xs Z1=.ok x Z2):vp F n fa ρ Z=.ok x Z2:=by unfold vp;rw[ha,d0,a];rfl
theorem GD(sn:bg D)(st:D):frz 4 (Z++[.lst (sn.map .fz)]) (.tp [.rf Z.length,.fz st])=lD (.tuple [.list sn,st],Z++[.dead]):=by
 have b:frz 3 (Z++[.lst (sn.map .fz)]) (.rf Z.length)=lD (.list sn,Z++[.dead]):=by unfold frz;rw[bH];dsimp only;rw[xB];dsimp only;rw[iz]
 have a:rj (frz 3) (Z++[.lst (sn.map .fz)]) [.rf Z.length,.fz st]=lD ([.list sn,st],Z++[.dead]):=by unfold rj;rw[b];rfl
 unfold frz;rw[show([AV.rf Z.length,AV.fz st].map AV.sv)=[.rf Z.length,.fz st] from rfl,a]
theorem Cf(a:VB b)(f:SW b s)(g:EV b e)(j:fa ρ Z=.ok (.fz (bD b)) Z)(i:fb ρ Z=.ok (.fz (gH s)) Z)(h:fc ρ Z=.ok (.fz (fU e)) Z):uG (vp STP.lC 3 (ao fa (ao fb (ao fc aX)))) ρ Z=.ok (.fz (.tuple [.list ((ce b s e).2.map o0),gH (ce b s e).1])) (Z++[.dead]):=
 xg (Gu (ar j (ar i (ar h aU))) (QF a f g)) (GD _ _)
end
theorem oK(h:Out r T X)(k:∀a Z,T a Z->T' a Z)(b:∀x,X x->X' x):Out r T' X':=by
 refine⟨?_⟩;have h:=h.out;cases r with
 |bad=>exact h
 |er x o=>exact b x h
 |ok a o=>exact k a o h
theorem Ky:ka Z m fs (J++K)=ka Z m fs J++K:=by unfold ka;rw[Ux];rfl
theorem Sf{n:Nat}{v:SV}(h:xs[n]?=lD v):ng xs (n:Int)=lD v:=xF (by omega) (by rw[UX];exact h)
abbrev ET(b:Bd)(w:bg Nat)(m:Int)(r:bu):bu:=-(bD b)::-(.str (eA w))::-(.int m)::r
abbrev E0(b:Bd)(w:bg Nat)(m:Int)(es:bg Z8)(l n:Nat)(g f e a:br SV):bu:=(ET b w m [-(.list (es.map fU)),lD (.rf l),-(nd n),g,f,e,a])
def RL(b:Bd)(w:bg Nat)(es:bg Z8)(m:Int)(x:Xc):Prop:=x=TM m/\∃l:bg TP,l.Nodup/\(∀p∈l,∃k,RT b w es k p)/\m<(l.length:Int)
theorem Bk(S:VB b){n:Nat}(hn:b.n=n)(h5:n<=5)(hw:∀c∈w,c<26)(wl:w.length<=3)(m0:0<=m)(X:m<=1000)(I:a9):Out (gW [.fz (bD b),.fz (.str (eA w)),.fz (.int m)] I) (λv Z'=>∃(fs:bg Te) (J:a9),v=.rf (I.length+1)/\Z'=ka (I++[.dead]) m (fs.map pc) J/\BT b w (lZ n) fs fs.length/\(fs.length:Int)<=m) (RL b w (lZ n) m):=by
 have Y:(lZ n).length<=1000:=by unfold lZ;rw[Tz,Tz,Tj,Tj,Uq];show n+n+1<=_;omega
 have ev:=Py hn h5;have B:TC b w (lZ n):=⟨S,FR hn,hw,wl⟩;generalize lZ n=es at Y ev B;refine sI rfl ?_;have e1:uG (ae (cK gK 1 {ad 0})) (ET b w m [Th,Th,Th,Th,Th,Th,Th]) I=.ok (.fz (.list (es.map fU))) (I++[.dead]):=by refine xg (gQ (cL (ah (af rfl) aC) rfl rfl ev)) ?_;rw[rT bH,iz]
 refine cP e1 rfl ?_;have O:I.length+1=(I++[Cell.dead]).length:=by rw[Tz];rfl
 rw[O];generalize I++[Cell.dead]=base;have N:=Nx (C:= "Places") (F:=c7) (fa:=ao (ae (bw {pC (.tuple [(.tuple []),.none,.none]),~~~0})) (ao (ae (ad 2)) aX)) (ρ:=(ET b w m [-(.list (es.map fU)),Th,Th,Th,Th,Th,Th])) (Z:=base) (ar (ag (d:=kT Jl) (bQ (ah aD (ah aD aC)) rfl (Tq rfl))) (ar (ag (af rfl)) aU)) rfl;rw[Fw (iE (w:=w) ⟨nQ b,Ur _⟩) m0 X]at N;by_cases mz:m<=0
 .rw[av mz]at N;exact Lj (.eq N ⟨⟨rfl,[Jl],U0 _ _,λp H=>⟨0,TN.mp H⟩,by show m<1;omega⟩⟩)
 rw[ax mz]at N;refine cP N rfl ?_;refine cP (ag aD) rfl ?_;refine lj (Fo (λn ρ Z=>∃(fs:bg Te) (J:a9) (K A y l:br SV),ρ=E0 b w m es base.length n K A y l/\Z=ka base m (fs.map pc) J/\BT b w es fs n/\n<=fs.length/\(fs.length:Int)<=m) 1000 (by decide) ⟨[Rb],[],Th,Th,Th,Th,rfl,rfl,S5,Ur _,by show(1:Int)<=m;omega⟩ ?_);rintro n ρ Z ⟨fs,J,K,A,y,l,rfl,rfl,bi,hle,hlm⟩;have P:∀{fs:bg Te} {J:a9},(fs.length:Int)<=m->PSt base.length (base.length+1) (base.length+2) m (fs.map pc) (ka base m (fs.map pc) J):=λ{fs J} h=>z5 (by rw[Tj];omega);have ff:∀{fs:bg Te} {J:a9} {K A y l:br SV},(fs.length:Int)<=m->bx "Places" "found" (ay 4) (E0 b w m es base.length n K A y l) (ka base m (fs.map pc) J)=.ok (.rf (base.length+1)) (ka base m (fs.map pc) J):=λh=>jf (bh rfl) (P h).o pP;have R:Dx fP (ao (bx "Places" "found" (ay 4)) aX) (E0 b w m es base.length n K A y l) (ka base m (fs.map pc) J)=.ok (.fz (nd fs.length)) (ka base m (fs.map pc) J):=CH (ar (ff hlm) aU) (by unfold aL;rw[iG (P hlm).f];rfl) ((jw _).trans (by rw[Tj,Tj]));have E:=aV (cJ (ag (f:=ad 5) (af rfl)) R (bW (pz (n:Int) (fs.length:Int))));by_cases Xp:n<fs.length
 case neg=>
  rw[a4 (by omega)]at E;have e:n=fs.length:=by omega
  subst e;exact .inl ⟨_,E,sN (bh rfl) ⟨fs,J,rfl,rfl,bi,hlm⟩⟩
 case pos=>
  rw[aP (by omega)]at E;refine .inr ⟨by omega,_,E,?_⟩;obtain⟨q,j⟩:∃q,fs[n]?=lD q:=⟨_,TK Xp⟩;have st:ke (ke (bx "Places" "found" (ay 4)) (ae (ad 5))) (ae (~~~0)) (E0 b w m es base.length n K A y l) (ka base m (fs.map pc) J)=.ok (.fz (kT q.p)) (ka base m (fs.map pc) J):=dj (Be (ff hlm) (ag (af rfl)) rfl (P hlm).f (Sf (by rw[TH,TH,TH,j];rfl))) (ag aD) jq;refine cP st rfl ?_;refine lj (Br (λi ρ Z=>∃(fs:bg Te) (J:a9) (A y l:br SV),ρ=E0 b w m es base.length n (-(kT q.p)) A y l/\Z=ka base m (fs.map pc) J/\BT b w es fs n/\fs[n]?=lD q/\(fs.length:Int)<=m/\∀e∈es.take i,Dt b w fs q e) (sS (hW (af rfl) rfl rfl)) ⟨fs,J,A,y,l,rfl,rfl,bi,j,hlm,λe he=>by cases he⟩ ?_ ?_)
  .clear E R st Xp j hle bi hlm
   rintro i d ρ Z Q ⟨fs,J,A,y,l,rfl,rfl,bi,j,hlm,dn⟩;rw[TH]at Q;cases qe:es[i]? with
   |none=>rw[qe]at Q;cases Q
   |some e=>
    rw[qe]at Q;cases TQ Q;have L:=Ug qe;have M:=B.rw (bi.rw q (Ug j));refine⟨E0 b w m es base.length n (-(kT q.p)) (-(fU e)) y l,_,rfl,?_⟩;have s1:=Cf (ρ:=E0 b w m es base.length n (-(kT q.p)) (-(fU e)) y l) (Z:=ka base m (fs.map pc) J) S M.1 (B.eb e L) (fa:=ae (ad 0)) (fb:=ae (aM bJ (ad 6) (~~~0))) (fc:=ae (ad 7)) (ag (af rfl)) (ag (aN (af rfl) aD rfl rfl jq)) (ag (af rfl));rw[<-Ky]at s1;have k1:=B9 S M.1 (B.eb e L);have k2:=ye S M.1 (B.eb e L);have dk:=KI hw wl (d:=q.p.2) (by have:=M.2;omega) k1 (by omega);have g:CF b w q.p e=(x4 w q.p.2 (ce b q.p.1 e).2).map λd=>((ce b q.p.1 e).1,d):=rfl;refine cP s1 rfl ?_;generalize ce b q.p.1 e=u at k1 dk g;generalize J++[Cell.dead]=J;refine cP (ag (cL (ah (af rfl) (ah (aN (af rfl) aD rfl rfl lf) (ah (aN (af rfl) aD rfl rfl jq) aC))) rfl rfl dk)) rfl ?_;have T:es.take (i+1)=es.take i++[e]:=by rw[WY,qe];rfl
    cases qd:x4 w q.p.2 u.2 with
    |none=>
     rw[qd]at g;refine .eq (fE (bz (bN (aN (af rfl) aD rfl rfl rfl) rfl)) fH) ⟨fs,J,_,_,_,rfl,rfl,bi,j,hlm,λf a=>?_⟩;rw[T]at a;rcases Uy.mp a with a|a
     .exact dn f a
     .rw[TN.mp a];intro p H;rw[g]at H;cases H
    |some d=>
     rw[qd]at g;have t2:bT (aK (aM oJ (ad 9) (pC .none))) (E0 b w m es base.length n (-(kT q.p)) (-(fU e)) (-(.tuple [.list (u.2.map o0),gH u.1])) (-(PP (lD d)))) (ka base m (fs.map pc) J)=.ok To (ka base m (fs.map pc) J):=bz (bN (aN (af rfl) aD rfl rfl rfl) rfl);have pn:=B.nx M L g;have G:=CN (F:=cc) (fo:=ay 4) (fa:=ao (ae (bw {aM bJ (ad 8) (~~~1),ad 9})) (ao (ae (ad 5)) (ao (ae (ad 7)) aX))) (ρ:=E0 b w m es base.length n (-(kT q.p)) (-(fU e)) (-(.tuple [.list (u.2.map o0),gH u.1])) (-(PP (lD d)))) (Z:=ka base m (fs.map pc) J) (bh rfl) (P hlm).o vh (ar (ag (d:=kT (u.1,d)) (bQ (ah (aN (af rfl) aD rfl rfl lf) (ah (af rfl) aC)) rfl (Tq rfl))) (ar (ag (af rfl)) (ar (ag (af rfl)) aU))) rfl;rw[vO (P hlm) (yo (by omega) X) X (iE pn)]at G;refine .eq (dW t2 rfl) (Fp ?_);cases qi:i9 (fs.map pc) (kT (u.1,d)) with
     |some t=>
      rw[qi]at G;refine .eq G ⟨fs,J,_,_,_,rfl,rfl,bi,j,hlm,λf a=>?_⟩;rw[T]at a;rcases Uy.mp a with a|a
      .exact dn f a
      .rw[TN.mp a];exact bi.old B j L g qi
     |none=>
      rw[qi]at G;rw[Tj]at G;have bn:=bi.new B j L g qi;by_cases hm:m<=(fs.length:Int)
      .rw[av hm]at G
       refine .eq G ⟨rfl,_,bn.un,λp H=>?_,?_⟩
       .obtain⟨r,hr,rfl⟩:=T3.mp H;exact⟨r.d,bn.rw r hr⟩
       .rw[Tj,Tz];show m<((fs.length+1:Nat):Int);omega
      .rw[ax hm,Ce]at G
       have U:=(Tn.mp j).1;refine .eq G ⟨fs++[⟨(u.1,d),nd n,fU e,q.d+1⟩],J,_,_,_,rfl,by rw[Uj];rfl,bn,(TF U).trans j,?_,λf a=>?_⟩
       .rw[Tz];show((fs.length+1:Nat):Int)<=m;omega
       .rw[T]at a
        rcases Uy.mp a with a|a
        .exact(dn f a).mono _
        .rw[TN.mp a];intro p H;rw[g]at H;cases H;exact⟨_,Uh _ Ts,rfl,TB _⟩
  .rintro ρ Z ⟨fs,J,A,y,l,rfl,rfl,bi,j,hlm,dn⟩;rw[Tj,Xh]at dn;have U:=(Tn.mp j).1;refine Af (Pu (Z3:=[]) rfl (ag aD) (bW rfl)) ⟨fs,J,_,_,_,_,rfl,rfl,bi.next j dn,U,hlm⟩
section
variable{b:Bd}{w:bg Nat}{es:bg Z8}{fs Z:bg Te}
theorem BT.len(h:BT b w es fs fs.length){l:bg TP}(a:l.Nodup)(e:∀p∈l,∃k,RT b w es k p):l.length<=fs.length:=by
 have:=iy a λp f=>by obtain⟨k,g⟩:=e p f;obtain⟨r,j,i,_⟩:=h.all (TB _) k p g;exact T3.mpr ⟨r,j,i⟩
 rw[Tj]at this;exact this
theorem BT.one(h:BT b w es fs fs.length)(h':BT b w es Z Z.length):fs.length=Z.length:=by
 have g:=h.len h'.un λp e=>by obtain⟨r,a,rfl⟩:=T3.mp e;exact⟨_,h'.rw r a⟩
 have f:=h'.len h.un λp e=>by obtain⟨r,a,rfl⟩:=T3.mp e;exact⟨_,h.rw r a⟩
 rw[Tj]at g f;omega
theorem BT.uniq(h:BT b w es fs n)(l:q∈fs)(g:r∈fs)(e:q.p=r.p):q=r:=by obtain⟨i,hi⟩:=UH.mp l;obtain⟨j,a⟩:=UH.mp g;have f:=(Tn.mp hi).1;have:i=j:=(ZA (show i<(fs.map (·.p)).length by rw[Tj];exact f) h.un).mp (by rw[TH,TH,hi,a];exact dw lD e);subst this;rw[hi]at a;exact TQ a
theorem BT.min(h:BT b w es fs fs.length)(a:q∈fs)(e:RT b w es k q.p):q.d<=k:=by obtain⟨r,i,g,f⟩:=h.all (TB _) k _ e;rw[h.uniq a i g.symm];exact f
theorem BT.agM(h:BT b w es fs fs.length)(h':BT b w es Z Z.length)(f:q∈fs)(a:r∈Z)(e:q.p=r.p):q.d=r.d:=by have i:=h.min f (by rw[e];exact h'.rw r a);have g:=h'.min a (by rw[<-e];exact h.rw q f);omega
end
theorem JO(a:Out (e ρ Z) (λv Z1=>∃(i:Nat) (fs:bg (Str×SV)) (j:Nat) (ds:bg D),v=.rf i/\Z1[i]?=lD (.obj C fs)/\fs.lookup f=lD (.rf j)/\Z1[j]?=lD (.lst (ds.map .fz))/\T ds (Z1.set j .dead)) X):Out (iB (bx C f e) ρ Z) T X:=by
 have h:=a.out;refine⟨?_⟩;cases q:e ρ Z with
 |bad=>rw[q]at h;exact h.elim
 |er x o=>
  rw[q]at h;have:iB (bx C f e) ρ Z=.er x o:=by unfold iB bx;rw[q];rfl
  rw[this];exact h
 |ok v o=>rw[q]at h;obtain⟨i,fs,j,ds,rfl,m,l,g,b⟩:=h;rw[xN (jf q m l) g];exact b
abbrev Lo(Z a:a9):Prop:=∀j,j<Z.length->a[j]?=Z[j]?
def vt(q:Te):D:=.tuple [gH q.p.1,nd q.p.2,nd q.d]
theorem jG(vb:VB b){n:Nat}(hn:b.n=n)(h5:n<=5)(hw:∀c∈w,c<26)(Y:w.length<=3)(m0:0<=m)(m4:m<=1000)(Z:a9):Out (a8 [.fz (bD b),.fz (.str (eA w)),.fz (.int m)] Z) (λv Z'=>∃(fs:bg Te) (i:Nat),BT b w (lZ n) fs fs.length/\(fs.length:Int)<=m/\v=.rf i/\Z'[i]?=lD (.lst ((fs.map vt).map .fz))/\Lo Z Z') (RL b w (lZ n) m):=by
 refine sI rfl ?_;refine cP (gQ (by fail "ev")) rfl ?_;refine cP (ρ1:=(ET b w m [lD (.rf Z.length),lD (.rf (Z.length+1)),Th,Th,Th,Th])) ((gQ (by fail "ev")).trans (by rw[Tz];rfl)) rfl ?_;have Q:(Z++[Cell.lst (([]:bg D).map .fz)]++[Cell.lst (([]:bg D).map .fz)])[Z.length]?=lD (.lst []):=by rw[Ux];exact zM (t:=0)
 have O:(Z++[Cell.lst (([]:bg D).map .fz)]++[Cell.lst (([]:bg D).map .fz)])[Z.length+1]?=lD (.lst []):=by rw[Ux];exact zM
 have N:Lo Z (Z++[Cell.lst (([]:bg D).map .fz)]++[Cell.lst (([]:bg D).map .fz)]):=λj y=>by rw[Ux,TF y]
 have C:(Z++[Cell.lst (([]:bg D).map .fz)]++[Cell.lst (([]:bg D).map .fz)]).length=Z.length+2:=by rw[Tz,Tz];rfl
 generalize Z++[Cell.lst (([]:bg D).map .fz)]++[Cell.lst (([]:bg D).map .fz)]=Z1 at Q O C N;have ca:=Fv (F:=gW) (es:=[]) (fa:=ao (ae (ad 0)) (ao (ae (ad 1)) (ao (ae (ad 2)) aX))) (ρ:=(ET b w m [lD (.rf Z.length),lD (.rf (Z.length+1)),Th,Th,Th,Th])) (Z:=Z1) (ar (ag (af rfl)) (ar (ag (af rfl)) (ar (ag (af rfl)) aU))) rfl;refine lj (Out.bind (JO (.eq ca ((Bk vb hn h5 hw Y m0 m4 Z1).imp λv Z' hv=>?_))));obtain⟨fs,J,rfl,rfl,K,I⟩:=hv;have P:PSt (Z1++[Cell.dead]).length ((Z1++[Cell.dead]).length+1) ((Z1++[Cell.dead]).length+2) m (fs.map pc) (ka (Z1++[.dead]) m (fs.map pc) J):=z5 (by rw[Tj];omega);have bl:(Z1++[Cell.dead]).length=Z.length+3:=by rw[Tz,C];rfl
 refine⟨_,_,_,fs.map λq=>Jj (pc q),by rw[bl,C],P.o,pP,by rw[Ui];have:=P.f;rw[Ui,Ui]at this;exact this,?_⟩;have U:((ka (Z1++[.dead]) m (fs.map pc) J).set ((Z1++[Cell.dead]).length+1) .dead)[Z.length]?=lD (.lst []):=by rw[Ue (by omega)];unfold ka;rw[TF (by omega),TF (by omega)];exact Q
 have S:((ka (Z1++[.dead]) m (fs.map pc) J).set ((Z1++[Cell.dead]).length+1) .dead)[Z.length+1]?=lD (.lst []):=by rw[Ue (by omega)];unfold ka;rw[TF (by omega),TF (by omega)];exact O
 have R:Lo Z ((ka (Z1++[.dead]) m (fs.map pc) J).set ((Z1++[Cell.dead]).length+1) .dead):=λj y=>by rw[Ue (by omega)];unfold ka;rw[TF (by omega),TF (by omega)];exact N j y
 generalize (ka (Z1++[.dead]) m (fs.map pc) J).set ((Z1++[Cell.dead]).length+1) .dead=Z2 at U S R;have go:=rM (gt:=Mp 3 (lA (fK 5) (lA (fK 6) (lA (fK 7) yK)))) (T:=λv Z'=>∃(fs:bg Te) (i:Nat),BT b w (lZ n) fs fs.length/\(fs.length:Int)<=m/\v=.rf i/\Z'[i]?=lD (.lst ((fs.map vt).map .fz))/\Lo Z Z') (X:=RL b w (lZ n) m) (b:=(aO (cO (Jg (bT (aK (aM rc (ad 6) (pC .none)))) (ae (~~~0)) (kA cB (ke (ay 3) (ae (ad 6))) (ae (~~~1)))) (fK 8)) (aO (bV (pX (ay 3) (ae (ad 8)))) (bV (pX (ay 4) (ae (bw {aM bJ (ad 5) (~~~0),aM bJ (ad 5) (~~~1),ad 8}))))))) (λi ρ Z'=>∃H G E u:br SV,ρ=(ET b w m [lD (.rf Z.length),lD (.rf (Z.length+1)),H,G,E,u])/\Z'[Z.length]?=lD (.lst (((fs.take i).map λq=>nd q.d).map .fz))/\Z'[Z.length+1]?=lD (.lst (((fs.take i).map vt).map .fz))/\Lo Z Z') (fs.map λq=>Jj (pc q)) 0 (ET b w m [lD (.rf Z.length),lD (.rf (Z.length+1)),Th,Th,Th,Th]) Z2 ⟨Th,Th,Th,Th,rfl,U,S,R⟩ (by
  rintro i d ρ Z' A ⟨H,G,E,u,rfl,g,l,B⟩;rw[Wx]at g l⊢;rw[TH]at A;cases qi:fs[i]? with
  |none=>rw[qi]at A;cases A
  |some q=>
   rw[qi]at A;cases TQ A;refine⟨(ET b w m [lD (.rf Z.length),lD (.rf (Z.length+1)),-(kT q.p),-(q.b),-(q.e),u]),Z',rfl,?_⟩;have pr:Jg (bT (aK (aM rc (ad 6) (pC .none)))) (ae (~~~0)) (kA cB (ke (ay 3) (ae (ad 6))) (ae (~~~1))) (ET b w m [lD (.rf Z.length),lD (.rf (Z.length+1)),-(kT q.p),-(q.b),-(q.e),u]) Z'=.ok (.fz (nd q.d)) Z':=by
    by_cases i0:i=0
    .subst i0;rw[K.z]at qi;cases qi;exact Co (bz (bN (aN (af rfl) aD rfl rfl rfl) rfl)) (ag aD)
    .obtain⟨j,r,h1,h2,h3,h4,_⟩:=K.bk i q qi (by omega);rw[h3];refine Cu (bz (bN (aN (af rfl) aD rfl rfl rfl) rfl)) ?_;refine(cJ (Be (bh rfl) (ag (af rfl)) rfl g (Sf ?_)) (ag aD) (bW (fY (r.d:Int) 1))).trans (by rw[h4];rfl);rw[TH,TH,X0 h1,h2];rfl
   refine cP pr rfl ?_;have ap:=tT (ρ:=(ET b w m [lD (.rf Z.length),lD (.rf (Z.length+1)),-(kT q.p),-(q.b),-(q.e),-(nd q.d)])) (fo:=ay 3) (fe:=ae (ad 8)) (x:=.fz (nd q.d)) (bh rfl) g (ag (af rfl)) g (by rw[Tj,Tj,UI];omega);refine BP (ia ap) ?_;have l0:=(Tn.mp g).1;have l1:=(Tn.mp l).1;have h:=(Ue (a:=Cell.lst (((fs.take i).map λq=>nd q.d).map SV.fz++[.fz (nd q.d)])) (show Z.length≠Z.length+1 by omega)).trans l;have L:=tT (ρ:=(ET b w m [lD (.rf Z.length),lD (.rf (Z.length+1)),-(kT q.p),-(q.b),-(q.e),-(nd q.d)])) (fo:=ay 4) (fe:=ae (bw {aM bJ (ad 5) (~~~0),aM bJ (ad 5) (~~~1),ad 8})) (x:=.fz (vt q)) (bh rfl) h (ag (bQ (ds:=[gH q.p.1,nd q.p.2,nd q.d]) (ah (aN (rv:=.fz (gH q.p.1)) (af rfl) aD rfl rfl jq) (ah (aN (rv:=.fz (nd q.p.2)) (af rfl) aD rfl rfl lf) (ah (af rfl) aC))) rfl (Tq rfl))) h (by rw[Tj,Tj,UI];omega);have M:fs.take (i+1)=fs.take i++[q]:=by rw[WY,qi];rfl
   refine Af (ia L) ⟨_,_,_,_,rfl,?_,?_,λj y=>by rw[Ue (by omega),Ue (by omega)];exact B j y⟩
   .rw[Ue (by omega),UL l0,M,Uj,Uj];rfl
   .rw[UL (by rw[UJ];exact l1),M,Uj,Uj];rfl)
 rw[Wx,Tj,Xh]at go;refine go.imp λfl o k=>?_;cases fl with
 |nx r=>obtain⟨H,G,E,u,rfl,g,l,B⟩:=k;exact sN (bh rfl) ⟨fs,_,K,I,rfl,l,B⟩
 |rt v=>exact k
 |ct r=>exact k.elim
 |bk r=>exact k.elim
def lm(w:bg Nat):Nat->Sn->br Nat
 |d,[]=>lD d
 |d,(c,To)::r=>if(w.drop d).take 1=[c] then lm w (d+1) r else Th
 |d,(_,Tw)::r=>lm w d r
theorem GL(w:bg Nat):∀(sn:Sn) (d:Nat),lm w d sn=x4 w d sn
 |[],d=>by unfold lm x4;rw[av (show(w.drop d).take (lz []).length=lz [] from aex)];rfl
 |(c,Tw)::r,d=>GL w r d
 |(c,To)::r,d=>by
  have e:lz ((c,To)::r)=c::lz r:=rfl;unfold lm;rw[GL w r (d+1)];unfold x4;rw[e];have b:(w.drop d).take (c::lz r).length=c::lz r↔(w.drop d).take 1=[c]/\(w.drop (d+1)).take (lz r).length=lz r:=by
   rw[<-List.drop_drop,TR];cases w.drop d with
   |nil=>simp
   |cons a t=>simp
  by_cases g:(w.drop d).take 1=[c]
  .rw[av g]
   by_cases f:(w.drop (d+1)).take (lz r).length=lz r
   .rw[av f,av (b.mpr ⟨g,f⟩),TR];congr 1;omega
   .rw[ax f,ax λz=>f (b.mp z).2]
  .rw[ax g,ax λz=>g (b.mp z).1]
theorem GQ(u:∀c∈w,c<26)(C:w.length<=3)(hd:d<=3)(A:Xu sn)(E:sn.length<=900):i7 [.str (eA w),nd d,.list (sn.map o0)]=.ok (.fz (PP (x4 w d sn))):=by
 have e:∀d:Bool,dh (.str (if d=To then "down" else "up")) (.str "down")=-(.bool d):=λd=>by
  cases d
  .exact(Od (by left) (by left)).trans (by rw[show((if Tw=To then "down" else "up":Str)== "down")=Tw by left])
  .exact(Od (by left) (by left)).trans (by rw[show((if To=To then "down" else "up":Str)== "down")=To by left])
 have j:∃rv,gA 5 kS [.str (eA w),nd d,.list (sn.map o0)]=.ok rv/\rv=.fz (PP (x4 w d sn)):=by
  refine mI rfl ?_;refine HR (λi ρ=>∃(k:Nat) (g f:br PV),k<=d+i/\lm w k (sn.drop i)=x4 w d sn/\ρ=[zf (.str (eA w)),zf (nd k),zf (.list (sn.map o0)),g,f]) (hW (af rfl) rfl rfl) ⟨d,Th,Th,TB _,by rw[aaD];exact GL w sn d,rfl⟩ ?_ ?_
  .rintro i x ρ a ⟨k,g,f,B,hm,rfl⟩
   rw[TH]at a;cases q:sn[i]? with
   |none=>rw[q]at a;cases a
   |some y=>
    rw[q]at a;cases TQ a;obtain⟨r,t⟩:=Tn.mp q;rw[Ve r,t]at hm;have m:=A y (Ug q);obtain⟨c,b⟩:=y;refine⟨[zf (.str (eA w)),zf (nd k),zf (.list (sn.map o0)),zf (.str (eD c)),zf (.str (if b=To then "down" else "up"))],rfl,?_⟩;have o:aK (aM dh (ad 4) (pC (.str "down"))) [zf (.str (eA w)),zf (nd k),zf (.list (sn.map o0)),zf (.str (eD c)),zf (.str (if b=To then "down" else "up"))]=.ok (b,[zf (.str (eA w)),zf (nd k),zf (.list (sn.map o0)),zf (.str (eD c)),zf (.str (if b=To then "down" else "up"))]):=bN (aN (af rfl) aD rfl rfl (e b)) rfl;refine Mv o (λl=>?_) (λl=>?_)
    .subst l
     have p:mX (.str (eA w)) (lD (k:Int)) (lD ((k:Int)+1))=-(.str (eA ((w.drop k).take 1))):=by have:=Ct (w:=w) (by omega) (b:=k+1) (Xm _);rw[V4]at this;exact this
     have ne:=Gs (v:=(w.drop k).take 1) (λx a=>u x (ach (YO a))) (λx a=>by rw[TN.mp a];exact m);have n:aK (aM tK (GK mX (ad 0) (iS (ad 1)) (iS (aM cB (ad 1) (~~~1)))) (ad 3)) [zf (.str (eA w)),zf (nd k),zf (.list (sn.map o0)),zf (.str (eD c)),zf (.str (if To=To then "down" else "up"))]=.ok (!decide ((w.drop k).take 1=[c]),[zf (.str (eA w)),zf (nd k),zf (.list (sn.map o0)),zf (.str (eD c)),zf (.str (if To=To then "down" else "up"))]):=bN (aN (zD (af rfl) (iw (af rfl) rfl) (iw (aN (af rfl) aD rfl rfl (fY _ _)) rfl) rfl p) (af rfl) rfl rfl ne) rfl;unfold lm at hm;refine qH n (λh=>?_) (λh=>gG ?_)
     .have:¬(w.drop k).take 1=[c]:=λz=>by rw[aP z]at h;cases h
      rw[ax this]at hm;exact j7 aD rfl (by rw[<-hm];rfl)
     .have:(w.drop k).take 1=[c]:=by
       cases z:decide ((w.drop k).take 1=[c]) with
       |true=>exact a5 z
       |false=>rw[z]at h;cases h
      rw[av this]at hm;exact Bh (aN (af rfl) aD rfl rfl (fY (k:Int) 1)) rfl ⟨k+1,_,_,by omega,hm,rfl⟩
    .subst l;exact Cr ⟨k,_,_,by omega,hm,rfl⟩
  .rintro ρ ⟨k,g,f,B,hm,rfl⟩;rw[Tj,List.drop_length]at hm;exact eW (af rfl) rfl (by rw[<-hm];rfl)
 obtain⟨rv,h,rfl⟩:=j;exact h
theorem Pe{b:Bd}{n:Nat}(hn:b.n=n)(l:n<=5):gB [bD b]=.ok (.ow ((lZ n).map fU)):=by
 have e:L9.QH [.int b.n]=lD (.ow (bA (TY n))):=by show(if 0<=b.n/\b.n<=1000 then lD (RV.ow (bA (TY b.n.toNat))) else Th)=_;rw[av ⟨by omega,by omega⟩,hn,UX]
 have g:ku (dG (gN 0) dH (bw {pC (.str "down"),ad 0}) (bA (TY n)) [Th] [])=.ok ((TY n).map λk=>fU (.down k)):=jP nd (λk=>fU (.down k)) (TY n) (by rw[Uq];omega) rfl λk _=>bQ (ah aD (ah (af rfl) aC)) rfl (Tq rfl);have f:ku (dG (gN 0) dH (bw {pC (.str "up"),ad 0}) (bA (TY n)) [Th] [])=.ok ((TY n).map λk=>fU (.up k)):=jP nd (λk=>fU (.up k)) (TY n) (by rw[Uq];omega) rfl λk _=>bQ (ah aD (ah (af rfl) aC)) rfl (Tq rfl);have a:∃rv,gA 2 jd [bD b]=.ok rv/\rv=.ow ((lZ n).map fU):=by refine mI rfl ?_;refine cR (gM (ah (aN (af rfl) aD rfl rfl (Qw b)) aC) rfl e) rfl rfl ?_;have j:cB (.list ((TY n).map λk=>fU (.down k))) (.list ((TY n).map λk=>fU (.up k)))=lD (.ow ((TY n).map (λk=>fU (.down k))++(TY n).map λk=>fU (.up k))):=Ln (by rw[Tj,Tj,Uq];omega);have i:cB (.list ((TY n).map (λk=>fU (.down k))++(TY n).map λk=>fU (.up k))) (.list [fU .turn])=lD (.ow ((lZ n).map fU)):=(Ln (by rw[Tz,Tj,Tj,Uq];show _+1<=_;omega)).trans (by unfold lZ;rw[Uj,Uj,Ui,Ui];rfl);exact eW (aN (aN (dL (hW (nz rfl) rfl rfl) rfl g) (dL (hW (af rfl) rfl rfl) rfl f) rfl rfl j) (nw (ah (bQ (ah aD (ah aD aC)) rfl (Tq rfl)) aC) rfl (Tq rfl)) rfl rfl i) rfl rfl
 obtain⟨rv,h,rfl⟩:=a;exact h
theorem iW(a:bg Int)(k:Int)(e:0<=k):∃c:Int,bf [.list (a.map .int),.int k]=.ok (.fz (.int c)):=by
 obtain⟨n,rfl⟩:∃n:Nat,k=(n:Int):=⟨k.toNat,by omega⟩;have b:fP [.list (a.map .int)]=-(nd a.length):=(jw _).trans (by rw[Tj]);by_cases h:n<a.length
 .refine⟨a[n],jL (ρ:=[-(.list (a.map .int)),-(nd n)]) rfl (eW (pv:=.fz (.int a[n])) (rv:=.fz (.int a[n])) (Pv (bN (aN (rv:=.fz (.bool To)) (af rfl) (gM (rv:=.fz (nd a.length)) (ah (af rfl) aC) rfl b) rfl rfl ?_) rfl) (aN (rv:=.fz (.int a[n])) (af rfl) (af rfl) rfl rfl (S0 ?_))) rfl rfl)⟩
  .rw[pz,aP (by omega)]
  .rw[TH,TK h];rfl
 .refine⟨0,jL (ρ:=[-(.list (a.map .int)),-(nd n)]) rfl (eW (pv:=.fz (.int 0)) (rv:=.fz (.int 0)) (OE (bN (aN (rv:=.fz (.bool Tw)) (af rfl) (gM (rv:=.fz (nd a.length)) (ah (af rfl) aC) rfl b) rfl rfl ?_) rfl) aD) rfl rfl)⟩;rw[pz,a4 (by omega)]
theorem SJ{i j:Int}(h: -2^64<i/\i<2^64):jx (.int i) (.int j)=-(.int (i*j)):=J6 h
theorem SD{i j:Int}(h: -2^64<j/\j<2^64):jx (.int i) (.int j)=-(.int (i*j)):=Md h
def uN(x s m:Int):Int:=((x % 1000033+s)*(s+521) % 1000033*((x % 1000033+s)*(s+521) % 1000033)+x/1000033+7*s) % 999983/3 % m
theorem gx{x s m:Int}(hm:0<m):0<=uN x s m/\uN x s m<m:=⟨aey _ (by omega),ac7 _ hm⟩
theorem di(x:Int){s m:Int}(p:0<=s)(o:s<1000)(hm:0<m):aH [.int x,.int s,.int m]=.ok (.fz (.int (uN x s m))):=by unfold uN;have n:uB (.int x) (.int 1000033)=-(.int (x % 1000033)):=w9 (by decide);have f:jx (.int (x % 1000033+s)) (.int (s+521))=-(.int ((x % 1000033+s)*(s+521))):=SD ⟨by omega,by omega⟩;generalize (x % 1000033+s)*(s+521)=y at f;have e:uB (.int y) (.int 1000033)=-(.int (y % 1000033)):=w9 (by decide);have g:0<=y % 1000033/\y % 1000033<1000033:=⟨aey _ (by decide),ac7 _ (by decide)⟩;generalize y % 1000033=z at e g;have b:jx (.int z) (.int z)=-(.int (z*z)):=SD ⟨by omega,by omega⟩;have l:En (.int x) (.int 1000033)=-(.int (x/1000033)):=Ik ⟨by decide,by decide⟩;have j:jx (.int 7) (.int s)=-(.int (7*s)):=SJ ⟨by decide,by decide⟩;generalize z*z=u at b;have a:uB (.int (u+x/1000033+7*s)) (.int 999983)=-(.int ((u+x/1000033+7*s) % 999983)):=w9 (by decide);generalize (u+x/1000033+7*s) % 999983=v at a;have i:En (.int v) (.int 3)=-(.int (v/3)):=Ik ⟨by decide,by decide⟩;have h:uB (.int (v/3)) (.int m)=-(.int (v/3 % m)):=w9 hm;exact jL (ρ:=[-(.int x),-(.int s),-(.int m),Th]) rfl (Ax (Bh (by fail "ev") rfl (Ax (Bh (by fail "ev") rfl (eW (by fail "ev") rfl rfl)))))
theorem Nv{z:Str}{cs:bg Nat}(hz:z.cps.toList=cs.map (97+·))(a:z.length<=1000000){r:Int}{c:Nat}(b:0<=r)(h:cs[r.toNat]?=lD c):L3.ke (.str z) (.int r)=-(.str (eD c)):=by show(if z.length<=1000000 then(ng z.cps.toList r).map (λc=>RV.fz (.str ⟨#[c]⟩)) else Th)=_;rw[av a,hz,xF (v:=97+c) b (by rw[TH,h];rfl)];rfl
theorem tW{z:Str}(cs:bg Nat)(hz:z.cps.toList=cs.map (97+·))(b:z.length<=1000000)(e:∀c∈cs,c<26){r:Int}(f:0<=r)(g:r<cs.length):∃c,c<26/\L3.ke (.str z) (.int r)=-(.str (eD c)):=by
 have a:r.toNat<cs.length:=by omega
 exact⟨cs[r.toNat],e _ (adG a),Nv hz b f (TK a)⟩
theorem Iq{n i k:Nat}(h:(TY n)[i]?=lD k):k=i/\i<n:=by obtain⟨b,a⟩:=Tn.mp h;rw[acO]at a;rw[Uq]at b;exact⟨a.symm,b⟩
theorem Kp{n a:Int}{e:bg (bg Mn)}{b:bg Mn}(h:VL n a e)(g:(b.length:Int)=n)(f:∀m∈b,VM e.length a m):VL n a (e++[b]):=by
 intro i l hi;rcases L10.bC hi with h'|⟨rfl,rfl⟩
 .exact h i l h'
 .exact⟨g,f⟩
theorem NV{a:Int}(b:1<=a):∃M:Int,Dw [.int 1,.int (a - 1)]=-(.int M)/\1<=M/\(1<a->M=a - 1):=by refine⟨_,rfl,?_⟩;split<;>omega
theorem Kc(c:Int)(L:Nat)(a:Int)(n:1<=a):∃m:Mn,VM L a m/\eN [.int c,nd L,.int a]=.ok (.fz (mD m)):=by
 have r:=di c (s:=5) (m:=3) (by decide) (by decide) (by decide);have g:=gx (x:=c) (s:=5) (m:=3) (by decide);generalize uN c 5 3=r5 at r g;obtain⟨l,i,w⟩:=tW (z:= "abc") [0,1,2] (by left) (by left) (by decide) g.1 (show r5<3 from g.2);obtain⟨M,v,M1,M2⟩:=NV n;have p:=di c (s:=7) (m:=M) (by decide) (by decide) (by omega);have u:=gx (x:=c) (s:=7) (m:=M) (by omega);generalize uN c 7 M=r7 at p u;have t:=di c (s:=3) (m:=8) (by decide) (by decide) (by decide);generalize uN c 3 8=r3 at t;have o:F1 (nd L) (.int 0)=-(.bool (decide ((0:Int)<L))):=rfl;have f:∃rv,gA 6 eJ [.int c,nd L,.int a]=.ok rv/\∃m:Mn,VM L a m/\rv=.fz (mD m):=by
  refine mI (T:=λrv=>∃m:Mn,VM L a m/\rv=.fz (mD m)) (ρ:=[zf (.int c),zf (nd L),zf (.int a),Th,Th,Th]) rfl ?_;unfold eJ;refine cR (ρ3:=[zf (.int c),zf (nd L),zf (.int a),zf (.str (eD l)),Th,Th]) (by fail "ev") rfl rfl ?_;refine cR (ρ3:=[zf (.int c),zf (nd L),zf (.int a),zf (.str (eD l)),zf (.int (1+r7)),Th]) (by fail "ev") rfl rfl ?_;refine cR (ρ3:=[zf (.int c),zf (nd L),zf (.int a),zf (.str (eD l)),zf (.int (1+r7)),zf (.int r3)]) (by fail "ev") rfl rfl ?_;refine qH (b:=(decide ((0:Int)<L)&&decide (5<r3))) (ρ1:=[zf (.int c),zf (nd L),zf (.int a),zf (.str (eD l)),zf (.int (1+r7)),zf (.int r3)]) (by fail "ev") (λq=>?_) (λ_=>gG ?_)
  .rw[T6]at q;have e:=a5 q.1;exact j7 (pv:=.fz (mD .below)) (ρ1:=[zf (.int c),zf (nd L),zf (.int a),zf (.str (eD l)),zf (.int (1+r7)),zf (.int r3)]) (show _=Res.ok (PV.fz (.tuple [.str "below"]),_) by fail "ev") rfl ⟨.below,by show(L:Int)≠0;omega,rfl⟩
  refine qH (b:=(decide (1<a)&&decide (r3=3))) (ρ1:=[zf (.int c),zf (nd L),zf (.int a),zf (.str (eD l)),zf (.int (1+r7)),zf (.int r3)]) (by fail "ev") (λq=>?_) (λ_=>gG ?_)
  .rw[T6]at q;have e:=M2 (a5 q.1);exact j7 (pv:=.fz (mD (.V2 (1+r7)))) (ρ1:=[zf (.int c),zf (nd L),zf (.int a),zf (.str (eD l)),zf (.int (1+r7)),zf (.int r3)]) (show _=Res.ok (PV.fz (.tuple [.str "layer",.int (1+r7)]),_) by fail "ev") rfl ⟨.V2 (1+r7),⟨by omega,by omega⟩,rfl⟩
  refine qH (b:=(decide (1<a)&&decide (r3=4))) (ρ1:=[zf (.int c),zf (nd L),zf (.int a),zf (.str (eD l)),zf (.int (1+r7)),zf (.int r3)]) (by fail "ev") (λq=>?_) (λ_=>gG ?_)
  .rw[T6]at q;have e:=M2 (a5 q.1);exact j7 (pv:=.fz (mD (.Yl l (1+r7)))) (ρ1:=[zf (.int c),zf (nd L),zf (.int a),zf (.str (eD l)),zf (.int (1+r7)),zf (.int r3)]) (show _=Res.ok (PV.fz (.tuple [.str "tap",.str (eD l),.int (1+r7)]),_) by fail "ev") rfl ⟨.Yl l (1+r7),⟨i,by omega,by omega⟩,rfl⟩
  refine qH (b:=(decide (1<a)&&decide (r3=5))) (ρ1:=[zf (.int c),zf (nd L),zf (.int a),zf (.str (eD l)),zf (.int (1+r7)),zf (.int r3)]) (by fail "ev") (λq=>?_) (λ_=>gG ?_)
  .rw[T6]at q;have e:=M2 (a5 q.1);exact j7 (pv:=.fz (mD (.once (1+r7)))) (ρ1:=[zf (.int c),zf (nd L),zf (.int a),zf (.str (eD l)),zf (.int (1+r7)),zf (.int r3)]) (show _=Res.ok (PV.fz (.tuple [.str "once",.int (1+r7)]),_) by fail "ev") rfl ⟨.once (1+r7),⟨by omega,by omega⟩,rfl⟩
  exact eW (pv:=.fz (mD (.Ua l))) (ρ1:=[zf (.int c),zf (nd L),zf (.int a),zf (.str (eD l)),zf (.int (1+r7)),zf (.int r3)]) (show _=Res.ok (PV.fz (.tuple [.str "letter",.str (eD l)]),_) by fail "ev") rfl ⟨.Ua l,i,rfl⟩
 obtain⟨rv,h,m,j,rfl⟩:=f;exact⟨m,j,h⟩
structure CsV(l0:bg Mn)(cs:bg (bg Nat×Nat)):Prop where
 vc:∀c∈cs,VC l0 c
 un:cs.Pairwise λa c=>a.1≠c.1
theorem CsV.nil(l0:bg Mn):CsV l0 []:=⟨λc a=>(by cases a),Yr⟩
theorem CsV.add(h:CsV l0 cs)(j:2<=s.length)(f:s.Pairwise (·<·))(i:∀k∈s,re l0 k=To)(g:l<26)(e:s∉cs.map (·.1)):CsV l0 (cs++[(s,l)]):=by
 refine⟨λc b=>(Uy.mp b).elim (h.vc c) λz=>?_,aci.mpr ⟨h.un,U0 _ _,λa ha c b=>?_⟩⟩
 .rw[TN.mp z];exact⟨j,f,i,g⟩
 .rw[TN.mp b];exact λz=>e (T3.mpr ⟨a,ha,z⟩)
theorem Pd(a:k<l0.length):∃d,bJ (lQ l0) (nd k)=-(d)/\∃w,bJ d (.int 0)=-(.str w)/\dh (.str w) (.str "letter")=-(.bool (re l0 k)):=by
 have b:re l0 k=l0[k].isL:=by unfold re;rw[TK a];rfl
 rw[b];exact⟨mD l0[k],OX (by rw[TH,TK a];rfl),_,qu _,lP _⟩
theorem MH(h:1<=n)(g:n<=5)(j:rs.length<=3)(b:rs[0]?=lD l0)(i:VL n rs.length rs)(a:CsV l0 cs)(l:cs.length<=4)(f:1<=w)(e:w<=4):VB ⟨n,rs,cs,w⟩:=by
 cases rs with
 |nil=>cases b
 |cons x r=>cases TQ b;exact⟨h,g,by show 1<=r.length+1;omega,j,i,l,a.vc,a.un,f,e⟩
theorem Om(p:bg Int):∃b:Bd,(VB b/\b.n<=2/\b.ls.length<=2/\b.wt<=2)/\iM [.list (p.map .int),.int 2]=.ok (.fz (bD b)):=by
 obtain⟨g,e0⟩:=iW p 0 (by decide);have d1:=di g (s:=1) (m:=2) (by decide) (by decide) (by decide);have b1:=gx (x:=g) (s:=1) (m:=2) (by decide);generalize uN g 1 2=r1 at d1 b1;have d2:=di g (s:=2) (m:=2) (by decide) (by decide) (by decide);have b2:=gx (x:=g) (s:=2) (m:=2) (by decide);generalize uN g 2 2=r2 at d2 b2;have G:=di g (s:=23) (m:=2) (by decide) (by decide) (by decide);have b23:=gx (x:=g) (s:=23) (m:=2) (by decide);generalize uN g 23 2=r23 at G b23;have I:=di g (s:=17) (m:=3) (by decide) (by decide) (by decide);generalize uN g 17 3=r17 at I;have H:=di g (s:=19) (m:=3) (by decide) (by decide) (by decide);have C:=gx (x:=g) (s:=19) (m:=3) (by decide);generalize uN g 19 3=r19 at H C;obtain⟨E,Y,elc⟩:=tW (z:= "abd") [0,1,3] (by left) (by left) (by decide) C.1 (show r19<3 from C.2);obtain⟨n,hn⟩:∃n:Nat,1+r1=(n:Int):=⟨(1+r1).toNat,by omega⟩;obtain⟨nl,S⟩:∃n:Nat,1+r2=(n:Int):=⟨(1+r2).toNat,by omega⟩;have rgn:mJ [.int (1+r1)]=lD (bA (TY n)):=by rw[hn];exact rX (by omega)
 have rgl:mJ [.int (1+r2)]=lD (bA (TY nl)):=by rw[S];exact rX (by omega)
 have R:∃rv,gA 10 jZ [.list (p.map .int),.int 2]=.ok rv/\∃b:Bd,(VB b/\b.n<=2/\b.ls.length<=2/\b.wt<=2)/\rv=.fz (bD b):=by
  refine mI (T:=λrv=>∃b:Bd,(VB b/\b.n<=2/\b.ls.length<=2/\b.wt<=2)/\rv=.fz (bD b)) (ρ:=[zf (.list (p.map .int)),zf (.int 2),Th,Th,Th,Th,Th,Th,Th,Th]) rfl ?_;unfold jZ;refine cR (ρ3:=[zf (.list (p.map .int)),zf (.int 2),zf (.int g),Th,Th,Th,Th,Th,Th,Th]) (by fail "ev") rfl rfl ?_;refine cR (ρ3:=[zf (.list (p.map .int)),zf (.int 2),zf (.int g),zf (.int (1+r1)),Th,Th,Th,Th,Th,Th]) (by fail "ev") rfl rfl ?_;refine cR (ρ3:=[zf (.list (p.map .int)),zf (.int 2),zf (.int g),zf (.int (1+r1)),zf (.int (1+r2)),Th,Th,Th,Th,Th]) (by fail "ev") rfl rfl ?_;refine cR (ρ3:=[zf (.list (p.map .int)),zf (.int 2),zf (.int g),zf (.int (1+r1)),zf (.int (1+r2)),zo [],Th,Th,Th,Th]) (by fail "ev") rfl rfl ?_;refine HR (λi ρ=>∃(e:bg (bg Mn)) (A v:br PV),e.length=i/\VL (1+r1) (1+r2) e/\ρ=[zf (.list (p.map .int)),zf (.int 2),zf (.int g),zf (.int (1+r1)),zf (.int (1+r2)),zo (e.map lQ),A,v,Th,Th]) (ds:=bA (TY nl)) (ρ1:=[zf (.list (p.map .int)),zf (.int 2),zf (.int g),zf (.int (1+r1)),zf (.int (1+r2)),zo [],Th,Th,Th,Th]) (by fail "ev") ⟨[],Th,Th,rfl,(λj r h=>by cases h),rfl⟩ ?_ ?_
  .rintro i d ρ hi ⟨e,A,v,M,K,rfl⟩
   obtain⟨L,hL,rfl⟩:=rC hi;obtain⟨rfl,hin⟩:=Iq hL;refine⟨[zf (.list (p.map .int)),zf (.int 2),zf (.int g),zf (.int (1+r1)),zf (.int (1+r2)),zo (e.map lQ),zf (nd L),v,Th,Th],rfl,?_⟩;have mu:jx (.int (1+r1)) (nd L)=-(.int ((1+r1)*L)):=SJ ⟨by omega,by omega⟩;obtain⟨xs,c1,c2,c3⟩:=k8 (gt:=gN 0) (ft:=dH) (fe:=cK bf 2 {ad 1,aM cB (aM cB (~~~1) (aM jx (ad 2) (ad 3))) (ad 0)}) (ds:=bA (TY n)) (ρ:=[Th,-(.list (p.map .int)),-(.int (1+r1)),-(nd L)]) (λρ=>∃o,ρ=[o,-(.list (p.map .int)),-(.int (1+r1)),-(nd L)]) (λ_ x=>∃a:Int,x=.int a/\True) ⟨Th,rfl⟩ (by rw[ez,Uq];omega) (by rintro j d u ρ ⟨o,rfl⟩;obtain⟨k,hk,rfl⟩:=rC u;obtain⟨c,ec⟩:=iW p (1+(1+r1)*L+k) (by have:=Int.mul_nonneg (show 0<=1+r1 by omega) (show(0:Int)<=L by omega);omega);refine⟨.int c,_,zY (ρ1:=[-(nd k),-(.list (p.map .int)),-(.int (1+r1)),-(nd L)]) rfl rfl (cL (rv:=.fz (.int c)) (ds:=[.list (p.map .int),.int (1+(1+r1)*L+k)]) (ah (af rfl) (ah (aN (rv:=.fz (.int (1+(1+r1)*L+k))) (aN (rv:=.fz (.int (1+(1+r1)*L))) aD (aN (rv:=.fz (.int ((1+r1)*L))) (af rfl) (af rfl) rfl rfl mu) rfl rfl (fY _ _)) (af rfl) rfl rfl (fY _ _)) aC)) rfl rfl ec) rfl rfl,⟨_,rfl⟩,c,rfl,trivial⟩);obtain⟨cs,rfl,_⟩:=lJ (f:=Tu.int) (Q:=λ_ (_:Int)=>True) xs 0 c3;rw[ez,Uq,Tj]at c2;refine cR (pv:=.ow (cs.map .int)) (ρ3:=[zf (.list (p.map .int)),zf (.int 2),zf (.int g),zf (.int (1+r1)),zf (.int (1+r2)),zo (e.map lQ),zf (nd L),zo (cs.map .int),Th,Th]) (dL (cs:=[.list (p.map .int),.int (1+r1),nd L]) (ds:=bA (TY n)) (by fail "ev") rfl c1) rfl rfl ?_;obtain⟨ys,c4,c5,c6⟩:=k8 (gt:=gN 0) (ft:=dH) (fe:=cK eN 3 {ad 0,ad 1,ad 2}) (ds:=cs.map .int) (ρ:=[Th,-(nd L),-(.int (1+r2))]) (λρ=>∃o,ρ=[o,-(nd L),-(.int (1+r2))]) (λ_ x=>∃a:Mn,x=mD a/\VM L (1+r2) a) ⟨Th,rfl⟩ (by rw[Tj];omega) (by
    rintro j d u ρ ⟨o,rfl⟩;obtain⟨c,rfl⟩:∃c:Int,d=.int c:=by
     rw[TH]at u;cases q:cs[j]? with
     |none=>rw[q]at u;cases u
     |some x=>rw[q]at u;exact⟨x,(TQ u).symm⟩
    obtain⟨m,N,em⟩:=Kc c L (1+r2) (by omega);exact⟨mD m,_,zY (ρ1:=[-(.int c),-(nd L),-(.int (1+r2))]) rfl rfl (cL (rv:=.fz (mD m)) (ds:=[.int c,nd L,.int (1+r2)]) (ah (af rfl) (ah (af rfl) (ah (af rfl) aC))) rfl rfl em) rfl rfl,⟨_,rfl⟩,m,rfl,N⟩)
   obtain⟨y,rfl,q6⟩:=lJ (f:=mD) (Q:=λ_ a=>VM L (1+r2) a) ys 0 c6;rw[Tj,Tj]at c5;have P:ou [.list (y.map mD)]=-(lQ y):=rfl;have X:(e.map lQ).length<1000000:=by rw[Tj];omega
   refine Dc (pv:=.fz .none) (ρ1:=[zf (.list (p.map .int)),zf (.int 2),zf (.int g),zf (.int (1+r1)),zf (.int (1+r2)),zo (e.map lQ++[lQ y]),zf (nd L),zf (.list (cs.map .int)),Th,Th]) (Hl (pa:=.fz (lQ y)) (d:=lQ y) rfl (gM (rv:=.fz (lQ y)) (ds:=[.list (y.map mD)]) (ah (dL (cs:=[nd L,.int (1+r2)]) (ds:=cs.map .int) (hW (nz rfl) rfl rfl) rfl c4) aC) rfl P) rfl rfl X rfl) ⟨e++[y],_,_,by rw[Tz,M];rfl,Kp K (by omega) (λm hm=>?_),by rw[Uj];rfl⟩;obtain⟨t,ht⟩:=UH.mp hm;rw[M];exact q6 t m ht
  .rintro ρ ⟨e,A,v,M,K,rfl⟩
   rw[ez,Uq]at M;obtain⟨l0,Z⟩:∃l0,e[0]?=lD l0:=⟨_,TK (show 0<e.length by omega)⟩;have hl0:=(K 0 l0 Z).1;have i0:bJ (.list (e.map lQ)) (.int 0)=-(lQ l0):=Kn (by decide) (by show(e.map lQ)[0]?=_;rw[TH,Z];rfl);have J:ku (dG (gN 0) (aK (aM dh (aM bJ (aM bJ (aM bJ (ad 1) (~~~0)) (ad 0)) (~~~0)) (pC (.str "letter")))) (ad 0) (bA (TY n)) [Th,-(.list (e.map lQ))] [])=.ok (((TY n).filter (re l0)).map nd):=wQ nd nd (re l0) (TY n) (by rw[Uq];omega) rfl (λj u=>by obtain⟨d,e1,w,e2,e3⟩:=Pd (l0:=l0) (k:=j) (by have:=V0.mp u;omega);exact bN (aN (aN (aN (aN (rv:=.fz (lQ l0)) (af rfl) aD rfl rfl i0) (af rfl) rfl rfl e1) aD rfl rfl e2) aD rfl rfl e3) rfl) λj _ _=>af rfl;have sp:((TY n).filter (re l0)).Pairwise (·<·):=agp _ abw;have sm:∀j∈(TY n).filter (re l0),re l0 j=To:=λj u=>(VQ.mp u).2;have sl:((TY n).filter (re l0)).length<=2:=by have:=Xd (re l0) (TY n);rw[Uq]at this;omega
   generalize (TY n).filter (re l0)=s at J sp sm sl;have O:ou [.list (s.map nd)]=-(.tuple (bA s)):=rfl;refine cR (ρ3:=[zf (.list (p.map .int)),zf (.int 2),zf (.int g),zf (.int (1+r1)),zf (.int (1+r2)),zf (.list (e.map lQ)),A,v,zf (.tuple (bA s)),Th]) (gM (rv:=.fz (.tuple (bA s))) (ds:=[.list (s.map nd)]) (ah (dL (cs:=[.list (e.map lQ)]) (ds:=bA (TY n)) (by fail "ev") rfl J) aC) rfl O) rfl rfl ?_;refine cR (ρ3:=[zf (.list (p.map .int)),zf (.int 2),zf (.int g),zf (.int (1+r1)),zf (.int (1+r2)),zf (.list (e.map lQ)),A,v,zf (.tuple (bA s)),zf (.tuple [])]) (bQ (ds:=[]) aC rfl (Tq rfl)) rfl rfl ?_;have F:∀cs:bg (bg Nat×Nat),CsV l0 cs->cs.length<=4->Go (eS (bw {ad 3,ji ou {ad 5},ad 9,aM cB (~~~1) (cK aH 3 {ad 2,~~~23,~~~2})}) [zf (.list (p.map .int)),zf (.int 2),zf (.int g),zf (.int (1+r1)),zf (.int (1+r2)),zf (.list (e.map lQ)),A,v,zf (.tuple (bA s)),zf (.tuple (cs.map gX))]) (λ_=>∃b:Bd,(VB b/\b.n<=2/\b.ls.length<=2/\b.wt<=2)/\RV.fz .none=.fz (bD b)) (λ_=>False) (λrv=>∃b:Bd,(VB b/\b.n<=2/\b.ls.length<=2/\b.wt<=2)/\rv=.fz (bD b)):=λcs N v2=>by have P:ou [.list (e.map lQ)]=-(.tuple (e.map lQ)):=rfl;exact eW (pv:=.fz (bD ⟨1+r1,e,cs,1+r23⟩)) (rv:=.fz (bD ⟨1+r1,e,cs,1+r23⟩)) (bQ (ds:=[.int (1+r1),.tuple (e.map lQ),.tuple (cs.map gX),.int (1+r23)]) (ah (af rfl) (ah (gM (rv:=.fz (.tuple (e.map lQ))) (ds:=[.list (e.map lQ)]) (ah (af rfl) aC) rfl P) (ah (af rfl) (ah (aN (rv:=.fz (.int (1+r23))) aD (cL (rv:=.fz (.int r23)) (ds:=[.int g,.int 23,.int 2]) (ah (af rfl) (ah aD (ah aD aC))) rfl rfl G) rfl rfl (fY _ _)) aC)))) rfl (Tq rfl)) rfl ⟨⟨1+r1,e,cs,1+r23⟩,⟨MH (by omega) (by omega) (by omega) Z (by rw[show((e.length:Nat):Int)=1+r2 by omega];exact K) N v2 (by omega) (by omega),by show 1+r1<=2;omega,by show e.length<=2;omega,by show 1+r23<=2;omega⟩,rfl⟩
   have U:fP [.tuple (bA s)]=-(nd s.length):=(kL _).trans (by rw[ez]);refine qH (b:=decide ((1:Int)<s.length)&&decide (0<r17)) (DR (bN (aN (rv:=.fz (.bool (decide ((1:Int)<s.length)))) (gM (rv:=.fz (nd s.length)) (ah (af rfl) aC) rfl U) aD rfl rfl (zN _ _)) rfl) λ_=>bN (aN (rv:=.fz (.bool (decide (0<r17)))) (cL (rv:=.fz (.int r17)) (ds:=[.int g,.int 17,.int 3]) (ah (af rfl) (ah aD (ah aD aC))) rfl rfl I) aD rfl rfl (zN _ _)) rfl) (λq=>?_) (λ_=>gG (F [] (CsV.nil _) (Ur _)));rw[T6]at q;have q1:=a5 q.1;have s2:s.length=2:=by omega
   have cut:SB (.tuple (bA s)) Th (lD 2)=-(.tuple (bA s)):=by show lD (RV.fz (.tuple (p8 (bA s) Th (lD ((2:Nat):Int)))))=_;unfold p8;rw[HT.sIx_nat,HT.sIx_none,ez,s2,Nat.min_self,aaD,abI,Yk (by rw[ez,s2];exact TB _)]
   refine cR (ρ3:=[zf (.list (p.map .int)),zf (.int 2),zf (.int g),zf (.int (1+r1)),zf (.int (1+r2)),zf (.list (e.map lQ)),A,v,zf (.tuple (bA s)),zf (.tuple ([(s,E)].map gX))]) (bQ (ds:=[gX (s,E)]) (ah (bQ (ds:=[.tuple (bA s),.str (eD E)]) (ah (zD (rv:=.fz (.tuple (bA s))) (af rfl) tJ (iw aD rfl) rfl cut) (ah (aN (rv:=.fz (.str (eD E))) aD (cL (rv:=.fz (.int r19)) (ds:=[.int g,.int 19,.int 3]) (ah (af rfl) (ah aD (ah aD aC))) rfl rfl H) rfl rfl elc) aC)) rfl (Tq rfl)) aC) rfl (Tq rfl)) rfl rfl ?_;exact F [(s,E)] (by have:=(CsV.nil l0).add (s:=s) (l:=E) (by omega) sp sm Y (λz=>by cases z);exact this) (by show 1<=4;decide)
 obtain⟨rv,h,b,B,rfl⟩:=R;exact⟨b,B,h⟩
theorem Rh{a:bg Nat}(h:k<a.length):re (a.map .Ua) k=To:=by unfold re;rw[TH,TK h];rfl
theorem Ht(r:bg Int):∃(b:Bd) (K:bg Nat) (x:Nat),VB b/\b.n=3/\b.ls.length<=2/\b.wt<=2/\(∀k:Nat,(k:Int)<b.n->re (b.ls.headD []) k=To)/\b.cs=[(K,x)]/\K.length=2/\eP [.list (r.map .int)]=.ok (.fz (bD b)):=by
 obtain⟨f,e0⟩:=iW r 0 (by decide);have v:=di f (s:=29) (m:=3) (by decide) (by decide) (by decide);have C:=gx (x:=f) (s:=29) (m:=3) (by decide);generalize uN f 29 3=r29 at v C;have y:=di f (s:=19) (m:=3) (by decide) (by decide) (by decide);have p:=gx (x:=f) (s:=19) (m:=3) (by decide);generalize uN f 19 3=r19 at y p;have w:=di f (s:=23) (m:=2) (by decide) (by decide) (by decide);have E:=gx (x:=f) (s:=23) (m:=2) (by decide);generalize uN f 23 2=r23 at w E;obtain⟨x,J,N⟩:=tW (z:= "abd") [0,1,3] (by left) (by left) (by decide) p.1 (show r19<3 from p.2);obtain⟨xs,U,T,S⟩:=k8 (gt:=gN 0) (ft:=dH) (fe:=bw {pC (.str "letter"),aM L3.ke (pC (.str "abc")) (cK aH 3 {cK bf 2 {ad 1,aM cB (~~~1) (ad 0)},~~~5,~~~3})}) (ds:=bA (TY 3)) (λρ=>∃o,ρ=[o,-(.list (r.map .int))]) (λ_ x=>∃a:Nat,x=mD (.Ua a)/\a<26) ⟨Th,rfl⟩ (by decide) (by rintro j d M ρ ⟨o,rfl⟩;obtain⟨k,u,rfl⟩:=rC M;obtain⟨c,R⟩:=iW r (1+k) (by omega);have dd:=di c (s:=5) (m:=3) (by decide) (by decide) (by decide);have B:=gx (x:=c) (s:=5) (m:=3) (by decide);generalize uN c 5 3=a at dd B;obtain⟨l,g,O⟩:=tW (z:= "abc") [0,1,2] (by left) (by left) (by decide) B.1 (show a<3 from B.2);exact⟨mD (.Ua l),_,zY rfl rfl (bQ (ah aD (ah (aN aD (cL (ah (cL (ah (af rfl) (ah (aN aD (af rfl) rfl rfl (fY _ _)) aC)) rfl rfl R) (ah aD (ah aD aC))) rfl rfl dd) rfl rfl O) aC)) rfl (Tq rfl)) rfl rfl,⟨_,rfl⟩,l,rfl,g⟩);obtain⟨e,rfl,q⟩:=lJ (Q:=λ_ (a:Nat)=>a<26) xs 0 S;rw[Tj,ez,Uq]at T;obtain⟨K,X,H,I,P⟩:∃K:bg Nat,K.length=2/\K.Pairwise (·<·)/\(∀k∈K,k<3)/\bJ (.list [.tuple [.int 0,.int 1],.tuple [.int 0,.int 2],.tuple [.int 1,.int 2]]) (.int r29)=-(.tuple (bA K)):=by
  have:r29=0\/r29=1\/r29=2:=by omega
  rcases this with rfl|rfl|rfl
  .exact⟨[0,1],rfl,by decide,by decide,Kn (by decide) rfl⟩
  .exact⟨[0,2],rfl,by decide,by decide,Kn (by decide) rfl⟩
  .exact⟨[1,2],rfl,by decide,by decide,Kn (by decide) rfl⟩
 have ok:∀k,k<3->re (e.map .Ua) k=To:=λk h=>Rh (by omega);have F:VL 3 1 [e.map .Ua]:=λi l g=>by
  match i,g with
  |0,g=>cases g;refine⟨by rw[Tj];omega,λm hm=>?_⟩;obtain⟨a,ha,rfl⟩:=T3.mp hm;obtain⟨t,L⟩:=UH.mp ha;exact q t a L
  |i+1,g=>cases g
 have cs:=(CsV.nil (e.map .Ua)).add (by omega) H (λk u=>ok k (I k u)) J (λz=>by cases z);refine⟨⟨3,[e.map .Ua],[(K,x)],1+r23⟩,K,x,MH (by decide) (by decide) (show 1<=3 by decide) rfl F cs (by show 1<=4;decide) (by omega) (by omega),rfl,by show 1<=2;decide,by show 1+r23<=2;omega,λk u=>ok k (by have u:(k:Int)<3:=u;omega),rfl,X,?_⟩;have G:ou [.list (e.map λa=>mD (.Ua a))]=-(lQ (e.map .Ua)):=by show lD (RV.fz (.tuple (e.map λa=>mD (.Ua a))))=lD (RV.fz (.tuple ((e.map Mn.Ua).map mD)));rw[Ui];rfl
 have A:∃rv,gA 4 jQ [.list (r.map .int)]=.ok rv/\rv=.fz (bD ⟨3,[e.map .Ua],[(K,x)],1+r23⟩):=by refine mI rfl ?_;refine cR (by fail "ev") rfl rfl ?_;refine cR (dL (cs:=[.list (r.map .int)]) (by fail "ev") rfl U) rfl rfl ?_;refine cR (aN (nw (ah (bQ (ah aD (ah aD aC)) rfl (Tq rfl)) (ah (bQ (ah aD (ah aD aC)) rfl (Tq rfl)) (ah (bQ (ah aD (ah aD aC)) rfl (Tq rfl)) aC))) rfl (Tq rfl)) (cL (ah (af rfl) (ah aD (ah aD aC))) rfl rfl v) rfl rfl P) rfl rfl ?_;exact eW (bQ (ah aD (ah (bQ (ah (gM (ah (nz rfl) aC) rfl G) aC) rfl (Tq rfl)) (ah (bQ (ah (bQ (ah (af rfl) (ah (aN aD (cL (ah (af rfl) (ah aD (ah aD aC))) rfl rfl y) rfl rfl N) aC)) rfl (Tq rfl)) aC) rfl (Tq rfl)) (ah (aN aD (cL (ah (af rfl) (ah aD (ah aD aC))) rfl rfl w) rfl rfl (fY _ _)) aC)))) rfl (Tq rfl)) rfl rfl
 obtain⟨rv,h,rfl⟩:=A;exact h
theorem KS(e:bg Int):∃w:bg Nat,(∀c∈w,c<26)/\w.length<=2/\iX [.list (e.map .int)]=.ok (.fz (.str (eA w))):=by
 obtain⟨l,O⟩:=iW e 9 (by decide);have E:=di l (s:=131) (m:=3) (by decide) (by decide) (by decide);have L:=gx (x:=l) (s:=131) (m:=3) (by decide);generalize uN l 131 3=r at E L;obtain⟨n,hn⟩:∃n:Nat,r=(n:Int):=⟨r.toNat,by omega⟩;have M:mJ [.int r]=lD (bA (TY n)):=by rw[hn];exact rX (by omega)
 obtain⟨xs,K,J,I⟩:=k8 (gt:=gN 0) (ft:=dH) (fe:=cK aH 3 {cK bf 2 {ad 1,aM cB (~~~10) (ad 0)},~~~127,~~~7}) (ds:=bA (TY n)) (λρ=>∃o,ρ=[o,-(.list (e.map .int))]) (λ_ x=>∃a:Int,x=.int a/\(0<=a/\a<7)) ⟨Th,rfl⟩ (by rw[ez,Uq];omega) (by rintro j d b ρ ⟨o,rfl⟩;obtain⟨k,N,rfl⟩:=rC b;obtain⟨c,i⟩:=iW e (10+k) (by omega);have dd:=di c (s:=127) (m:=7) (by decide) (by decide) (by decide);have v:=gx (x:=c) (s:=127) (m:=7) (by decide);generalize uN c 127 7=a at dd v;exact⟨.int a,_,zY rfl rfl (cL (ah (cL (ah (af rfl) (ah (aN aD (af rfl) rfl rfl (fY _ _)) aC)) rfl rfl i) (ah aD (ah aD aC))) rfl rfl dd) rfl rfl,⟨_,rfl⟩,a,rfl,v⟩);obtain⟨u,rfl,q⟩:=lJ (Q:=λ_ (a:Int)=>0<=a/\a<7) xs 0 I;rw[ez,Uq,Tj]at J;obtain⟨y,H,G,F⟩:=k8 (gt:=gN 0) (ft:=dH) (fe:=aM L3.ke (pC (.str "aabbcdz")) (ad 0)) (ds:=u.map .int) (λρ=>∃o,ρ=[o]) (λ_ x=>∃a:Nat,x=.str (eD a)/\a<26) ⟨Th,rfl⟩ (by rw[Tj];omega) (by
  rintro j d b ρ ⟨o,rfl⟩;rw[TH]at b;cases z:u[j]? with
  |none=>rw[z]at b;cases b
  |some a=>rw[z]at b;cases TQ b;have p:=q j a z;obtain⟨c,g,i⟩:=tW (z:= "aabbcdz") [0,0,1,1,2,3,25] (by left) (by left) (by decide) p.1 (show a<7 from p.2);exact⟨.str (eD c),_,zY rfl rfl (aN aD (af rfl) rfl rfl i) rfl rfl,⟨_,rfl⟩,c,rfl,g⟩)
 obtain⟨w,rfl,A⟩:=lJ (Q:=λ_ (a:Nat)=>a<26) y 0 F;rw[Tj,Tj]at G;have B:=C3 (w:=w) (by omega);refine⟨w,λc g=>?_,by omega,?_⟩
 .obtain⟨t,C⟩:=UH.mp g;exact A t c C
 have f:∃rv,gA 3 kM [.list (e.map .int)]=.ok rv/\rv=.fz (.str (eA w)):=by refine mI rfl ?_;refine cR (by fail "ev") rfl rfl ?_;refine cR (dL (by fail "ev") rfl K) rfl rfl ?_;exact eW (Mh aD rfl (ah (dL (hW (nz rfl) rfl rfl) rfl H) aC) rfl B) rfl rfl
 obtain⟨rv,h,rfl⟩:=f;exact h
def Qb:bg VF->bg TP
 |[]=>[]
 |s::r=>(s,0)::(s,1)::(s,2)::Qb r
theorem B0:∀l:bg VF,(Qb l).length=3*l.length
 |[]=>rfl
 |s::r=>by show(Qb r).length+3=3*(r.length+1);rw[B0 r];omega
theorem Di(hd:d<=2):∀{l:bg VF},s∈l->(s,d)∈Qb l
 |[],h=>by cases h
 |a::r,h=>by
  rcases T1.mp h with rfl|h
  .have:d=0\/d=1\/d=2:=by omega
   rcases this with rfl|rfl|rfl<;>simp[Qb]
  .have:=Di hd h;simp only[Qb,T1];exact .inr (.inr (.inr this))
theorem OI(B:TC b w es)(r:w.length<=2)(j:∃(l:bg VF) (I:VF->Prop),l.length<=128/\I v7/\(∀s,I s->SW b s/\s∈l)/\∀s e,I s->EV b e->I (ce b s e).1){l:bg TP}(f:l.Nodup)(g:∀p∈l,∃k,RT b w es k p):l.length<=384:=by
 obtain⟨m,I,t,q,o,n⟩:=j;have:=iy f λp h=>by obtain⟨k,a⟩:=g p h;have i:=(o _ (a.inv B q n)).2;have:=(B.rw a).2;exact Di (by omega) i
 rw[B0]at this;omega
theorem IW(f:bg Int):∃b:Bd,VB b/\b.n<=3/\(∃(l:bg VF) (I:VF->Prop),l.length<=128/\I v7/\(∀s,I s->SW b s/\s∈l)/\∀s e,I s->EV b e->I (ce b s e).1)/\eP [.list (f.map .int)]=.ok (.fz (bD b)):=by obtain⟨b,K,x,a,m,o,g,h,i,j,e⟩:=Ht f;exact⟨b,a,by omega,Sy a (by omega) g h i j,e⟩
theorem Eu(f:bg Int):∃b:Bd,VB b/\b.n<=3/\(∃(l:bg VF) (I:VF->Prop),l.length<=128/\I v7/\(∀s,I s->SW b s/\s∈l)/\∀s e,I s->EV b e->I (ce b s e).1)/\iM [.list (f.map .int),.int 2]=.ok (.fz (bD b)):=by obtain⟨b,⟨a,h,i,g⟩,e⟩:=Om f;obtain⟨m,I,o,j⟩:=few a h i g;exact⟨b,a,by omega,⟨m,I,by omega,j⟩,e⟩
theorem Ap(B:TC b w es)(e:TW b w p)(a:TW b w q):Tu.eqv (kT p) (kT q)=To↔p=q:=
 ⟨λh=>Fk B e a (LD.kd_eqv _ _ (LD.keyD_kd (iE e)).1 (LD.keyD_kd (iE a)).1 h),λh=>by rw[h];exact xa (iE a)⟩
abbrev kv(l:bg (TP×D)):bg (D×D):=l.map λx=>(kT x.1,x.2)
section
variable{b:Bd}{w:bg Nat}{es:bg Z8}{p:TP}{l:bg (TP×D)}{d:D}
theorem GZ(B:TC b w es)(f:TW b w p):∀{l:bg (TP×D)},(∀x∈l,TW b w x.1)->(∀x∈l,x.1≠p)->(kv l).find? (λy=>Tu.eqv y.1 (kT p))=Th
 |[],_,_=>rfl
 |x::r,hl,h=>by have e:=ZC.mpr λz=>h x Ts ((Ap B (hl x Ts) f).mp z);show ahu _ ((kT x.1,x.2)::kv r)=_;rw[Uw];rw[e];exact GZ B f (λy a=>hl y (Tx _ a)) λy a=>h y (Tx _ a)
theorem Lf(B:TC b w es)(a:TW b w p)(e:∀x∈l,TW b w x.1)(h:∀x∈l,x.1≠p):eF (kv l) (kT p)=Th:=by unfold eF;rw[GZ B a e h];rfl
theorem rQ(B:TC b w es):∀{l:bg (TP×D)},(∀x∈l,TW b w x.1)->(l.map (·.1)).Nodup->∀x∈l,eF (kv l) (kT x.1)=lD x.2
 |y::r,hl,hn,x,hx=>by
  have hn:=U5.mp hn;show afG _ (ahu _ ((kT y.1,y.2)::kv r))=_;rw[Uw];rcases T1.mp hx with rfl|h
  .rw[(Ap B (hl x hx) (hl x hx)).mpr rfl];rfl
  .rw[show Tu.eqv (kT y.1) (kT x.1)=Tw from ZC.mpr λz=>hn.1 (by show y.1∈_;rw[(Ap B (hl y Ts) (hl x hx)).mp z];exact WC h)];exact rQ B (λy a=>hl y (Tx _ a)) hn.2 x h
theorem Hq(B:TC b w es)(a:TW b w p)(e:∀x∈l,TW b w x.1)(h:∀x∈l,x.1≠p):g9 (kv l) (kT p) d=kv (l++[(p,d)]):=by unfold g9;rw[GZ B a e h];show kv l++[(kT p,d)]=_;unfold kv;rw[Uj];rfl
theorem NY(hd:∀x∈l,x.2=d)(h:(kv l).find? (λy=>Tu.eqv y.1 (kT p))≠Th):g9 (kv l) (kT p) d=kv l:=by unfold g9;rw[av (Option.isSome_iff_ne_none.mpr h),Ui];refine WB λx a=>?_;show(if _ then(kT x.1,d) else(kT x.1,x.2))=_;rw[hd x a];split<;>rfl
end
section
variable{ρ:bu}{Z Z1:a9}{i:Nat}{ds:bg D}{X:Xc->Prop}
theorem Jw(I:Nat->bu->a9->Prop)(hd:fd ρ Z=.ok (.rf i) Z1)(e:Z1[i]?=lD (.lst (ds.map .fz)))(g:I 0 ρ (Z1.set i .dead))(a:∀k d ρ Z,ds[k]?=lD d->I k ρ Z->∃ρ1 Z1,gt (.fz d) ρ Z=.ok ρ1 Z1/\nI (b ρ1 Z1) (I (k+1)) (λ_ _=>False) X)(f:∀ρ' Z',I ds.length ρ' Z'->N ρ' (Z'.set i (.lst (ds.map .fz)))):nI (LD.ack fd gt b ρ Z) N T X:=by
 have h:=rM I ds 0 ρ (Z1.set i .dead) g (by simpa using a);rw[Wx]at h;unfold LD.ack;rw[hd,d0,show LD.ady Z1 (.rf i)=lD (i,ds.map .fz) by unfold LD.ady;dsimp only;rw[e]];show nI ((RS.UB Z1 (aL wk (ds.map .fz))).bind _) _ _ _;rw[lV];show nI ((gP gt b ds ρ (Z1.set i .dead)).bind _) _ _ _;refine Out.bind (h.imp λj o k=>?_);cases j with
 |nx r=>exact⟨f r o k⟩
 |ct r=>exact k.elim
 |rt v=>exact k.elim
 |bk r=>exact k.elim
end
def nO(fs:bg Te):bg (TP×D):=fs.map λq=>(q.p,nd q.d)
theorem OU(q:Te):NG (vt q) Th (lD 2)=-(kT q.p):=rfl
abbrev EP(i:Nat)(w:bg Nat)(r:bu):bu:=lD (.rf i)::-(.str (eA w))::r
theorem HP{l:a9}(h:l[i]?=lD c):(l.set i .dead).set i c=l:=by
 rw[List.set_set];refine List.ext_getElem? λj=>?_;rw[UQ];split
 .rename_i e;subst e;rw[h,av (Tn.mp h).1]
 .rfl
theorem xV(B:TC b w es)(g:BT b w es fs n)(f:∀q∈l,q∈fs):∀x∈nO l,TW b w x.1:=λx a=>by obtain⟨q,e,rfl⟩:=T3.mp a;exact B.rw (g.rw q (f q e))
theorem Il(h:(fs.map (·.p)).Nodup):((nO fs).map (·.1)).Nodup:=by unfold nO;rw[Ui];exact h
theorem vx(B:TC b w es)(l:BT b w es fs n)(O:fs.length<=1000)(hi:Z[i]?=lD (.lst ((fs.map vt).map .fz))):d6 [.rf i,.fz (.str (eA w))] Z=.ok (.rf Z.length) (Z++[.dd (kv (nO fs))]):=by
 have H:=(Tn.mp hi).1;have y:Out (d6 [.rf i,.fz (.str (eA w))] Z) (λv o=>v=.rf Z.length/\o=Z++[.dd (kv (nO fs))]) (λ_=>False):=by
  refine sI rfl ?_;refine cP rfl rfl ?_;refine cP (ag aD) rfl ?_;have A:(Z++[Cell.dd []])[i]?=lD (.lst ((fs.map vt).map .fz)):=(TF H).trans hi;refine lj (Jw (λk ρ C=>∃(a:Nat) (u:br SV),(∀q,fs[k]?=lD q->a<=q.d)/\ρ=EP i w [lD (.rf Z.length),-(nd a),u]/\C=(Z++[Cell.dd (kv (nO (fs.take k)))]).set i .dead) (bh rfl) A ⟨0,Th,λ_ _=>Ur _,rfl,rfl⟩ ?_ ?_)
  .rintro k d ρ C g ⟨a,u,ha,rfl,rfl⟩
   rw[TH]at g;cases z:fs[k]? with
   |none=>rw[z]at g;cases g
   |some q=>
    rw[z]at g;cases TQ g;have N:=ha q z;refine⟨EP i w [lD (.rf Z.length),-(nd a),-(vt q)],_,rfl,?_⟩;have sub:∀r∈fs.take k,r∈fs:=λr f=>YO f;have t:=B.rw (l.rw q (Ug z));have new:∀x∈nO (fs.take k),x.1≠q.p:=λx M e=>by
     obtain⟨r,f,rfl⟩:=T3.mp M;obtain⟨j,m⟩:=UH.mp f;have L:j<k:=by have:=(Tn.mp m).1;rw[UI]at this;omega
     rw[X0 L]at m;have:j=k:=(ZA (show j<(fs.map (·.p)).length by rw[Tj];exact(Tn.mp m).1) l.un).mp (by rw[TH,TH,m,z];exact dw lD e);omega
    have I:((Z++[Cell.dd (kv (nO (fs.take k)))]).set i .dead)[Z.length]?=lD (.dd (kv (nO (fs.take k)))):=by rw[Ue (by omega)];exact Vz
    have G:hG (.fz (kT q.p))=lD (kT q.p):=av (iE t);have ct:∀{o:br SV} {F:br SV} {Z:a9} {j:Nat},ae (GK NG (ad 4) tt (iS (~~~2))) (EP i w [lD (.rf j),F,-(vt q)]) Z=.ok (.fz (kT q.p)) Z:=λ{o F Z j}=>ag (zD (af rfl) tJ (iw aD rfl) rfl (OU q));have E:=aV (CC (neg:=Tw) (fd:=ay 2) (ρ:=EP i w [lD (.rf Z.length),-(nd a),-(vt q)]) (ct (o:=Th)) (bh rfl) G I);rw[Lf B t (xV B l sub) new]at E;have K:P3 (nd q.d) (nd a)=-(.bool Tw):=(pz _ _).trans (by rw[a4 (by omega)]);refine tD (fu (bz (C5 (bN (Gd (dx:=vt q) (af rfl) rfl rfl) rfl))) (fu (bz (bN (aN (gM (ah (af rfl) aC) rfl rfl) aD rfl rfl rfl) rfl)) (fu E (bz (bN (aN (aN (af rfl) aD rfl rfl qh) (af rfl) rfl rfl K) rfl))))) (oP ?_);refine cP (ag (aN (af rfl) aD rfl rfl qh)) rfl ?_;refine Af (sK (ag (aN (af rfl) aD rfl rfl qh)) (bh rfl) (ct (o:=Th)) G I (by unfold nO;rw[Tj,Tj,UI];omega)) ⟨q.d,_,λr f=>?_,rfl,?_⟩
    .exact aaK.mp l.mo k (k+1) (Tn.mp z).1 (Tn.mp f).1 (Ww _)|>λh=>by rw[(Tn.mp z).2,(Tn.mp f).2]at h;exact h
    .rw[Hq B t (xV B l sub) new,List.set_comm _ _ (show i≠Z.length by omega),show nO (fs.take k)++[(q.p,nd q.d)]=nO (fs.take (k+1)) by rw[WY,z];unfold nO;rw[Uj];rfl];congr 1;rw[YC _ _ (TB _),ZO];rfl
  .rintro J C ⟨a,u,_,rfl,rfl⟩;rw[Tj,Xh,HP ((TF H).trans hi)];exact sN (bh rfl) ⟨rfl,rfl⟩
 obtain⟨v,o,h,rfl,rfl⟩:=y.all;exact h
section
variable{ρ:bu}{Z Z1 Z2 Z3:a9}{x z:SV}{i:Nat}{d:D}{Y:bg (D×D)}
theorem DY(hd:fd ρ Z=.ok (.rf i) Z1)(h:Z1[i]?=lD (.dd afe))(b:fk ρ Z1=.ok x Z2)(a:fx ρ Z2=.ok z Z3)(g:hG x=lD k)(f:Z3[i]?=lD (.dd Y))(e:eF Y k=lD d):rK fd fk fx ρ Z=.ok (.fz d) Z3:=by unfold rK;rw[hd,d0,oS h];show((fk ρ Z1).bind _)=_;rw[b,d0,a,d0,g];show((RS.UB Z3 (jg Z3 (.rf i))).bind _)=_;rw[oS f];show RS.ok (match eF Y k with|some d=>SV.fz d|none=>z) Z3=_;rw[e]
theorem zx(hd:fd ρ Z=.ok (.rf i) Z1)(h:Z1[i]?=lD (.dd Y)):rY fd ρ Z=.ok (.fz (nd Y.length)) Z1:=by unfold rY;rw[hd,d0,oS h];rfl
theorem EG(hd:fd ρ Z=.ok (.rf i) Z1)(h:Z1[i]?=lD (.dd Y)):iB (og fd) ρ Z=.ok (Y.map (·.1)) (Z1++[.dead]):=by
 have:og fd ρ Z=.ok (.rf Z1.length) (Z1++[.lst ((Y.map (·.1)).map .fz)]):=by unfold og;rw[hd,d0,oS h,Ui];rfl
 rw[xN this Vz,YC _ _ (TB _),ZO];rfl
end
def Gw(R:bg TP):bg (TP×D):=R.map λp=>(p,.bool To)
abbrev EC(b:Bd)(w:bg Nat)(i r:Nat)(t:bu):bu:=-(bD b)::-(.str (eA w))::lD (.rf i)::lD (.rf r)::t
structure RR(b:Bd)(w:bg Nat)(fs:bg Te)(R:bg TP)(U:Te->Z8->Prop):Prop where
 nd:R.Nodup
 z:Jl∈R
 s:∀p∈R,p∈fs.map (·.p)
 u:∀q e,U q e->∀r∈fs,CF b w q.p e=lD r.p->r.d=q.d+1->r.p∈R
theorem RR.mono(h:RR b w fs R U)(hn:R'.Nodup)(j:∀p∈R',p∈R\/p∈fs.map (·.p))(hi:∀p∈R,p∈R')(i:∀q e,U' q e->U q e\/∀r∈fs,CF b w q.p e=lD r.p->r.d=q.d+1->r.p∈R'):RR b w fs R' U':=
 ⟨hn,hi _ h.z,λp l=>(j p l).elim (h.s p) id,λq e z r g f a=>(i q e z).elim (λz=>hi _ (h.u q e z r g f a)) λk=>k r g f a⟩
theorem pS{b:Bd}{n:Nat}(hn:b.n=n)(h5:n<=5)(B:TC b w (lZ n))(M:BT b w (lZ n) fs fs.length)(hl:fs.length<=1000)(hi:Z[i]?=lD (.dd (kv (nO fs)))):∃Z',fq [.fz (bD b),.fz (.str (eA w)),.rf i] Z=.ok (.fz (.bool To)) Z'/\Lo Z Z':=by
 have il:=(Tn.mp hi).1;have te:=Pe hn h5;have Y:=λq P=>B.rw (M.rw q P);have pw:=xV B M λ_ h=>h;have pr:∀r∈fs,eF (kv (nO fs)) (kT r.p)=lD (nd r.d):=λr hr=>rQ B pw (Il M.un) (r.p,nd r.d) (WC hr);have key:Out (fq [.fz (bD b),.fz (.str (eA w)),.rf i] Z) (λv o=>v=.fz (.bool To)/\Lo Z o) (λ_=>False):=by
  refine sI rfl ?_;refine cP rfl rfl ?_;have g0:∀j,j<Z.length->(Z++[Cell.dd (kv (Gw [Jl]))])[j]?=Z[j]? :=λj y=>TF y;have ks:=EG (fd:=ay 2) (ρ:=EC b w i Z.length [Th,Th,Th,Th,Th,Th,Th]) (bh rfl) ((g0 i il).trans hi);rw[show(kv (nO fs)).map (·.1)=fs.map λq=>kT q.p by unfold nO;rw[Ui,Ui];rfl]at ks;refine lj (Br (λk ρ Z'=>∃(R:bg TP) (o4 o5 o6 L F E C:br SV),RR b w fs R (λq e=>e∈lZ n/\∃j,j<k/\fs[j]?=lD q)/\Lo Z Z'/\Z'[Z.length]?=lD (.dd (kv (Gw R)))/\ρ=EC b w i Z.length [o4,o5,o6,L,F,E,C]) ks ?_ ?_ ?_)
  .refine⟨[Jl],Th,Th,Th,Th,Th,Th,Th,⟨U0 _ _,abf _,λp f=>?_,λq e ⟨_,j,y,_⟩=>a6 y (aew _)⟩,λj y=>?_,?_,rfl⟩
   .rw[TN.mp f];exact T3.mpr ⟨Rb,Ug M.z,rfl⟩
   .rw[Ux,TF y]
   .rw[Ux];exact zM (t:=0)
  .rintro k d ρ Z' G ⟨R,o4,o5,o6,L,F,E,C,g,go,N,rfl⟩
   rw[TH]at G;cases z:fs[k]? with
   |none=>rw[z]at G;cases G
   |some q=>
    rw[z]at G;cases TQ G;have qm:=Ug z;have S:=Y q qm;refine⟨EC b w i Z.length [-(gH q.p.1),-(nd q.p.2),o6,L,F,E,C],Z',rfl,?_⟩;refine cP (tj (bh rfl) (ag (bQ (ah (af rfl) (ah (af rfl) aC)) rfl (Tq rfl))) (av (iE S)) ((go i il).trans hi) (pr q qm)) rfl ?_;refine Br (λm ρ Z'=>∃(R:bg TP) (L F E C:br SV),RR b w fs R (λA e=>(e∈lZ n/\∃j,j<k/\fs[j]?=lD A)\/(A=q/\e∈(lZ n).take m))/\Lo Z Z'/\Z'[Z.length]?=lD (.dd (kv (Gw R)))/\ρ=EC b w i Z.length [-(gH q.p.1),-(nd q.p.2),-(nd q.d),L,F,E,C]) (sS (hW (cL (ah (af rfl) aC) rfl rfl te) rfl rfl)) ⟨R,L,F,E,C,g.mono g.nd (λp f=>.inl f) (λp f=>f) (λA e h=>h.elim .inl λh=>by rw[aex]at h;cases h.2),go,N,rfl⟩ ?_ ?_
    .rintro m d ρ Z' G ⟨R,L,F,E,C,g,go,N,rfl⟩
     rw[TH]at G;cases ze:(lZ n)[m]? with
     |none=>rw[ze]at G;cases G
     |some e=>
      rw[ze]at G;cases TQ G;have em:=Ug ze;have ev:=B.eb e em;have tk:(lZ n).take (m+1)=(lZ n).take m++[e]:=by rw[WY,ze];rfl
      refine⟨EC b w i Z.length [-(gH q.p.1),-(nd q.p.2),-(nd q.d),-(fU e),F,E,C],Z',rfl,?_⟩;have st:=Cf B.vb S.1 ev (ρ:=EC b w i Z.length [-(gH q.p.1),-(nd q.p.2),-(nd q.d),-(fU e),F,E,C]) (Z:=Z') (fa:=ae (ad 0)) (fb:=ae (ad 4)) (fc:=ae (ad 7)) (ag (af rfl)) (ag (af rfl)) (ag (af rfl));have k1:=B9 B.vb S.1 ev;have k2:=ye B.vb S.1 ev;have dk:=GQ B.w26 B.wl (d:=q.p.2) (by have:=S.2;have:=B.wl;omega) k1 (by omega);have l:CF b w q.p e=(x4 w q.p.2 (ce b q.p.1 e).2).map λd=>((ce b q.p.1 e).1,d):=rfl;refine cP st rfl ?_;generalize ce b q.p.1 e=u at k1 dk l;have rl:=(Tn.mp N).1;have J:∀j,j<Z.length->(Z'++[Cell.dead])[j]?=Z[j]? :=λj y=>(TF (by omega)).trans (go j y);have I:(Z'++[Cell.dead])[Z.length]?=lD (.dd (kv (Gw R))):=(TF rl).trans N;generalize Z'++[Cell.dead]=Z' at J I;refine cP (ag (cL (ah (af rfl) (ah (af rfl) (ah (af rfl) aC))) rfl rfl dk)) rfl ?_;have un:∀{K:bg TP},(∀r∈fs,CF b w q.p e=lD r.p->r.d=q.d+1->r.p∈K)->∀A e',(e'∈lZ n/\∃j,j<k/\fs[j]?=lD A)\/(A=q/\e'∈(lZ n).take (m+1))->((e'∈lZ n/\∃j,j<k/\fs[j]?=lD A)\/(A=q/\e'∈(lZ n).take m))\/∀r∈fs,CF b w A.p e'=lD r.p->r.d=A.d+1->r.p∈K:=λ{K} h A e' h'=>by
       rcases h' with h'|⟨rfl,h'⟩
       .exact .inl (.inl h')
       .rw[tk]at h'
        rcases Uy.mp h' with h'|h'
        .exact .inl (.inr ⟨rfl,h'⟩)
        .rw[TN.mp h'];exact .inr h
      cases qd:x4 w q.p.2 u.2 with
      |none=>rw[qd]at l;exact .eq (fE (bz (bN (aN (af rfl) aD rfl rfl rfl) rfl)) fH) ⟨R,_,_,_,_,g.mono g.nd (λp f=>.inl f) (λp f=>f) (un λr _ h=>by rw[l]at h;cases h),J,I,rfl⟩
      |some c=>
       rw[qd]at l;obtain⟨r,O,rp,rd⟩:=M.dn k q (Tn.mp z).1 z e em (u.1,c) l;have T:=l.trans (dw lD rp.symm);refine .eq (dW (bz (bN (aN (af rfl) aD rfl rfl rfl) rfl)) rfl) ?_;have kt:∀{Z':a9},ae (bw {ad 9,ad 10}) (EC b w i Z.length [-(gH q.p.1),-(nd q.p.2),-(nd q.d),-(fU e),-(.list (u.2.map o0)),-(gH u.1),-(PP (lD c))]) Z'=.ok (.fz (kT r.p)) Z':=λ{Z'}=>by rw[rp];exact ag (bQ (ah (af rfl) (ah (af rfl) aC)) rfl (Tq rfl))
       have ky:hG (.fz (kT r.p))=lD (kT r.p):=av (iE (Y r O));have gi:=(J i il).trans hi;have p1:∀{a:Nat} {Z':a9},ae (aM cB (ad 6) (pC (.int a))) (EC b w i Z.length [-(gH q.p.1),-(nd q.p.2),-(nd q.d),-(fU e),-(.list (u.2.map o0)),-(gH u.1),-(PP (lD c))]) Z'=.ok (.fz (nd (q.d+a))) Z':=λ{a Z'}=>ag (aN (af rfl) aD rfl rfl (fY (q.d:Int) a));have gt:=(zN (r.d:Int) ((q.d+1:Nat):Int)).trans (by rw[a4 (by omega)]);refine tD (aV (cJ (DY (bh rfl) gi kt (p1) ky gi (pr r O)) (p1) (bW gt))) (oP ?_);have eqd:dh (nd r.d) (nd (q.d+1))=-(.bool (decide (r.d=q.d+1))):=Bq _ _;have c2:=aV (cJ (tj (fd:=ay 2) (bh rfl) kt ky gi (pr r O)) (p1) (bW eqd));by_cases rq:r.d=q.d+1
       .rw[aP rq]at c2
        have pt:=sK (fd:=ay 3) (fv:=ae (pC (.bool To))) (ag aD) (bh rfl) kt ky I (by unfold Gw;rw[Tj,Tj];have:=iy g.nd g.s;rw[Tj]at this;omega);have tr:∀x∈Gw R,TW b w x.1:=λx U=>by obtain⟨p,f,rfl⟩:=T3.mp U;obtain⟨q,P,rfl⟩:=T3.mp (g.s p f);exact Y q P
        have rl':=(Tn.mp I).1;obtain⟨K,e1,e2,e3,e4,e5⟩:∃K:bg TP,g9 (kv (Gw R)) (kT r.p) (.bool To)=kv (Gw K)/\K.Nodup/\(∀p∈K,p∈R\/p∈fs.map (·.p))/\(∀p∈R,p∈K)/\r.p∈K:=by
         by_cases mr:r.p∈R
         .refine⟨R,NY (λx U=>?_) λh=>?_,g.nd,λp f=>.inl f,λp f=>f,mr⟩
          .obtain⟨p,_,rfl⟩:=T3.mp U;rfl
          .have:=rQ B tr (by unfold Gw;rw[Ui];exact(agj R).symm▸g.nd) (r.p,.bool To) (WC mr);unfold eF at this;rw[h]at this;cases this
         .refine⟨R++[r.p],(Hq B (Y r O) tr λx U e=>?_).trans (by unfold Gw;rw[Uj];rfl),Wi.mpr ⟨g.nd,U0 _ _,λa ha c hc e=>?_⟩,λp f=>?_,λp f=>UK _ f,Uh _ (abf _)⟩
          .obtain⟨p,f,rfl⟩:=T3.mp U;exact mr (e▸f)
          .rw[TN.mp hc]at e;exact mr (e▸ha)
          .rcases Uy.mp f with h|h
           .exact .inl h
           .rw[TN.mp h];exact .inr (WC O)
        rw[e1]at pt;exact .eq (dW c2 pt) ⟨K,_,_,_,_,g.mono e2 e3 e4 (un λr' Q H _=>by rw[T]at H;rw[<-TQ H];exact e5),λj y=>by rw[Ue (by omega)];exact J j y,UL rl',rfl⟩
       .rw[a4 rq]at c2;exact .eq (fE c2 fH) ⟨R,_,_,_,_,g.mono g.nd (λp f=>.inl f) (λp f=>f) (un λr' Q H X=>by rw[T]at H;have:=M.uniq O Q (TQ H);subst this;exact a6 X rq),J,I,rfl⟩
    .rintro ρ' Z' ⟨R,L,F,E,C,g,go,N,rfl⟩
     refine⟨R,_,_,_,_,_,_,_,g.mono g.nd (λp f=>.inl f) (λp f=>f) (λA e ⟨Q,j,H,X⟩=>.inl ?_),go,N,rfl⟩;rcases Nat.lt_or_ge j k with h|h
     .exact .inl ⟨Q,j,h,X⟩
     .have:j=k:=by omega
      subst this;rw[z]at X;cases X;exact .inr ⟨rfl,by rw[Tj,Xh];exact Q⟩
  .rintro ρ' Z' ⟨R,o4,o5,o6,L,F,E,C,g,go,N,rfl⟩
   have l1:=iy g.nd g.s;have l2:=iy M.un λp f=>by
    obtain⟨q,P,rfl⟩:=T3.mp f;obtain⟨j,y⟩:=UH.mp P;by_cases j0:j=0
    .subst j0;rw[M.z]at y;cases y;exact g.z
    .obtain⟨m,r,Q,H,_,h4,e,_,h6,h7⟩:=M.bk j q y (by omega);exact g.u r e ⟨h6,m,by rw[Tj];exact(Tn.mp H).1,H⟩ q P h7 h4
   rw[Tj]at l1 l2;refine sN (cJ (zx (bh rfl) N) (zx (bh rfl) ((go i il).trans hi)) (bW ((Bq _ _).trans ?_))) ⟨rfl,go⟩;unfold Gw nO;rw[Tj,Tj,Tj,Tj,aP (by omega)]
 obtain⟨v,o,h,rfl,H⟩:=key.all;exact⟨o,h,H⟩
theorem F7:k6 a8 3 [.fz (bD b),.fz (.str (eA w)),.fz (.int m)] Z=(match a8 [.fz (bD b),.fz (.str (eA w)),.fz (.int m)] [] with|.ok x Z'=>jW x Z' Z|.er x _=>.er x Z|.bad=>.bad):=by unfold k6;rw[av (show[SV.fz (bD b),.fz (.str (eA w)),.fz (.int m)].length=3 from rfl)];rfl
theorem K4(p:VB b){n:Nat}(hn:b.n=n)(r:n<=5)(q:∀c∈w,c<26)(j:w.length<=3)(g:BT b w (lZ n) fs fs.length)(A:fs.length<=1000)(Z:a9):∃c,cU [.fz (bD b),.fz (.str (eA w)),.fz (nd fs.length)] Z=.ok (.fz (nd fs.length)) (Z++[c]):=by obtain⟨v,o,h,f,i,t,_,rfl,hi,_⟩:=(oK (jG p hn r q j (m:=(fs.length:Int)) (by omega) (by omega) []) (λa o h=>h) (λx ⟨_,l,y,u,B⟩=>by have:=g.len y u;omega)).all;have e:k6 a8 3 [.fz (bD b),.fz (.str (eA w)),.fz (nd fs.length)] Z=.ok (.rf Z.length) (Z++[.lst ((f.map vt).map .fz)]):=F7.trans (by rw[h];show jW (.rf i) o Z=_;unfold jW;dsimp only;rw[iG hi];rfl);refine⟨.lst ((f.map vt).map .fz),?_⟩;unfold cU;rw[e];dsimp only;rw[Vz];dsimp only;rw[Tj,Tj,<-g.one t]
theorem GB(f:VB b){n:Nat}(hn:b.n=n)(l:n<=5)(j:∀c∈w,c<26)(e:w.length<=3)(q:BT b w (lZ n) fs fs.length)(v:fs.length<=1000){m:Int}(g:0<=m)(r:m<fs.length)(Z:a9):cU [.fz (bD b),.fz (.str (eA w)),.fz (.int m)] Z=.ok (.fz (.tuple [.str "many",.int m])) Z:=by obtain⟨x,o,h,rfl⟩:=(oK (jG f hn l j e g (by omega) []) (λa o ⟨u,i,p,t,_⟩=>by have:=q.one p;omega) (λx h=>h.1)).er;unfold cU;rw[F7,h];unfold TM;dsimp only;rw[av rfl,av rfl]
theorem HX(Z:a9):∀ds:bg D,aL (uY 5 Z) (ds.map .fz)=lD ds
 |[]=>rfl
 |d::r=>by unfold aev aL;rw[show uY 5 Z (.fz d)=lD d from rfl,HX Z r]
abbrev EM(a:bg Int)(b:Bd)(r:bu):bu:=-(.list (a.map .int))::-(bD b)::r
theorem main(g:bg Int)(hns:g.length<=63):L10.Rg F_law [.list (g.map .int)]=.ok (.fz (.bool To)):=by
 obtain⟨w,J,w2,e1⟩:=KS g;have H:w.length<=3:=by omega
 have T:Out (F_law [.fz (.list (g.map .int))] []) (λx _=>x=.fz (.bool To)) (λ_=>False):=by
  refine sI rfl ?_;obtain⟨b0,u,P,few,e0⟩:=Eu g;obtain⟨c0,ec⟩:=iW g 0 (by decide);have dd:=di c0 (s:=31) (m:=6) (by decide) (by decide) (by decide);refine cP (ag (cL (ah (af rfl) (ah aD aC)) rfl rfl e0)) rfl ?_;have R:bT (aK (aM dh (cK aH 3 {cK bf 2 {ad 0,~~~0},~~~31,~~~6}) (~~~1))) [-(.list (g.map .int)),-(bD b0),Th,Th,Th,Th] []=.ok (decide (uN c0 31 6=1)) []:=bz (bN (aN (cL (ah (cL (ah (af rfl) (ah aD aC)) rfl rfl ec) (ah aD (ah aD aC))) rfl rfl dd) aD rfl rfl (jJ _ _)) rfl);have bd:∃b:Bd,VB b/\b.n<=3/\(∃(l:bg VF) (I:VF->Prop),l.length<=128/\I v7/\(∀s,I s->SW b s/\s∈l)/\∀s e,I s->EV b e->I (ce b s e).1)/\cA (bT (aK (aM dh (cK aH 3 {cK bf 2 {ad 0,~~~0},~~~31,~~~6}) (~~~1)))) (cO (ae (cK eP 1 {ad 0})) (fK 1)) cC [-(.list (g.map .int)),-(bD b0),Th,Th,Th,Th] []=.ok (.nx (EM g b [Th,Th,Th,Th])) []:=by
   by_cases h:uN c0 31 6=1
   .obtain⟨b,u,P,few,e3⟩:=IW g;rw[aP h]at R;exact⟨b,u,P,few,dW R (v8 (ag (cL (ah (af rfl) aC) rfl rfl e3)) rfl)⟩
   .rw[a4 h]at R;exact⟨b0,u,P,few,fE R fH⟩
  obtain⟨b,u,P,few,hb⟩:=bd;refine BP hb ?_;obtain⟨n,hn⟩:∃n:Nat,b.n=n:=⟨b.n.toNat,by have:=u.n1;omega⟩;have L:n<=5:=by omega
  have B:TC b w (lZ n):=⟨u,FR hn,J,H⟩;have fw:∀x,¬RL b w (lZ n) 400 x:=λx ⟨_,l,M,h2,h3⟩=>by have:=OI B w2 few M h2;omega
  refine cP (ag (cL (ah (af rfl) aC) rfl rfl e1)) rfl ?_;obtain⟨v,j,M,fs,i,A,fl,rfl,hi,_⟩:=(oK (jG u hn L J H (by decide) (by decide) []) (λa o h=>h) fw).all;refine cP (vD (ar (ag (af rfl)) (ar (ag (af rfl)) aU)) rfl M) rfl ?_;have l1:=(Tn.mp A.z).1;have il:=(Tn.mp hi).1;have fn:fs.length<=1000:=by omega
  have ln:∀{f:bg Te},fP [.list (f.map vt)]=-(nd f.length):=λ{f}=>(jw _).trans (by rw[Tj]);have Q:∀{f:bg Te} {i:Nat} {Z:a9} {o4 o5:br SV},Z[i]?=lD (.lst ((f.map vt).map .fz))->Dx fP (ao (ay 3) aX) (EM g b [-(.str (eA w)),lD (.rf i),o4,o5]) Z=.ok (.fz (nd f.length)) Z:=λ{f i Z o4 o5} h=>CH (ar (bh rfl) aU) (by unfold aL;rw[iG h];rfl) ln;have rd:uY 6 j (.rf i)=lD (.list (fs.map vt)):=by show(match j[i]? with|some (.lst xs)=>(aL (uY 5 j) xs).map Tu.list|_=>Th)=_;rw[hi];show(aL (uY 5 j) ((fs.map vt).map .fz)).map Tu.list=_;rw[HX];rfl
  have z0:dh (nd fs.length) (.int 0)=-(.bool Tw):=(jJ _ _).trans (by rw[a4 (by omega)]);refine tD (fu (on (aV (Pa (bh rfl) rd rfl))) (fu (aV (cJ (Q hi) (ag aD) (bW z0))) (aV (cJ (Be (bh rfl) (ag aD) rfl hi (Sf (by rw[TH,TH,A.z];rfl))) (ag (bQ (ah (bQ (ah (bQ aC rfl (Tq rfl)) (ah aD (ah aD aC))) rfl (Tq rfl)) (ah aD (ah aD aC))) rfl (Tq rfl))) (bW (STP.LA rfl)))))) (oP ?_);refine cP (oj (ar (bh rfl) (ar (ag (af rfl)) aU)) rfl (vx B A fn hi)) rfl ?_;have gd:(j++[Cell.dd (kv (nO fs))])[j.length]?=lD (.dd (kv (nO fs))):=Vz;have U:NH (ay 4) (EM g b [-(.str (eA w)),lD (.rf i),lD (.rf j.length),Th]) (j++[.dd (kv (nO fs))])=.ok (.fz (.bool Tw)) (j++[.dd (kv (nO fs))]):=rfl;obtain⟨Z2,h2,kp⟩:=pS hn L B A fn gd;have gl:(j++[Cell.dd (kv (nO fs))]).length=j.length+1:=by rw[Tz];rfl
  refine tD (fu (aV U) (on (aV (oj (ar (ag (af rfl)) (ar (ag (af rfl)) (ar (bh rfl) aU))) rfl h2)))) (oP ?_);have K:=(kp i (by omega)).trans ((TF il).trans hi);have gd2:=(kp j.length (by omega)).trans gd;refine BP (ia (tT (bh rfl) K (ag aD) K (by rw[Tj,Tj];omega))) ?_;have E:(Z2.set i (.lst ((fs.map vt).map .fz++[.fz .none])))[j.length]?=lD (.dd (kv (nO fs))):=(Ue (by omega)).trans gd2;generalize Z2.set i (.lst ((fs.map vt).map .fz++[.fz .none]))=Z3 at E;obtain⟨v,Z4,h4,f,i4,F,gm,rfl,C,k4⟩:=(oK (jG u hn L J H (by decide) (by decide) Z3) (λa o h=>h) fw).all;refine cP (vD (ar (ag (af rfl)) (ar (ag (af rfl)) aU)) rfl h4) rfl ?_;have d3:=(Tn.mp E).1;have N:=(k4 j.length d3).trans E;have d4:=(Tn.mp N).1;have Y:=(Tn.mp C).1;have gn:f.length<=1000:=by omega
  have g0:=(Tn.mp F.z).1;have lk:AQ (kv (nO f)) (kv (nO fs))=To:=by
   refine YM.mpr ⟨aP ?_,Vi.mpr λx hx=>?_⟩
   .unfold nO;rw[Tj,Tj,Tj,Tj];exact F.one A
   .obtain⟨y,hy,rfl⟩:=T3.mp hx;obtain⟨q,hq,rfl⟩:=T3.mp hy;obtain⟨r,r1,r2,_⟩:=A.all (TB _) q.d q.p (F.rw q hq);have e:=F.agM A hq r1 r2.symm;have:=rQ B (xV B A λ_ h=>h) (Il A.un) (r.p,nd r.d) (WC r1);rw[<-r2,this,e];exact aP rfl
  refine tD (aV (KZ (oj (ar (bh rfl) (ar (ag (af rfl)) aU)) rfl (vx B F gn C)) (bh rfl) (oS Vz) (oS ((TF d4).trans N)) lk)) (oP ?_);have t:(Z4++[Cell.dd (kv (nO f))])[i4]?=lD (.lst ((f.map vt).map .fz)):=(TF Y).trans C;generalize Z4++[Cell.dd (kv (nO f))]=Z5 at t;obtain⟨c3,ec3⟩:=iW g 13 (by decide);have O:=di c3 (s:=137) (m:=f.length) (by decide) (by decide) (by omega);have G:=gx (x:=c3) (s:=137) (m:=f.length) (by omega);generalize uN c3 137 f.length=m at O G;refine cP (xk (ar (ag (cL (ah (af rfl) (ah aD aC)) rfl rfl ec3)) (ar (ag aD) (ar (Q t) aU))) rfl O) rfl ?_;obtain⟨c,mk⟩:=K4 u hn L J H F gn Z5;have S:lY (.tuple [.str "many",.int m])=To:=Mx (by show(Tu.canLay0 (.str "many")&&(To&&To))=To;rw[show Tu.canLay0 (.str "many")=To by left];rfl) (by show max 0 (max 0 0)+1<=64;decide);have X:=(Tn.mp t).1;exact sN (vJ (aV (cJ (oj (ar (ag (af rfl)) (ar (ag (af rfl)) (ar (Q t) aU))) rfl mk) (Q ((TF X).trans t)) (bW (STP.C1 rfl)))) (cJ (oj (ar (ag (af rfl)) (ar (ag (af rfl)) (ar (ag (af rfl)) aU))) rfl (GB u hn L J H F gn G.1 G.2 _)) (ag (bQ (ah aD (ah (af rfl) aC)) rfl (Tq rfl))) (bW (STP.C1 S)))) rfl
 obtain⟨x,Z',M,rfl⟩:=T.all;unfold L10.Rg;rw[show[Tu.list (g.map .int)].map SV.fz=[.fz (.list (g.map .int))] from rfl,M]
end K71
local macro_rules| `(tactic|fail "sc")=> `(tactic|exact⟨rfl,rfl,rfl,by left,rfl,by left,by left⟩)| `(tactic|fail "me")=> `(tactic|first
 |exact .head _
 |(apply List.Mem.tail;fail "me"))
local macro_rules| `(tactic|fail "cm")=> `(tactic|first
 |change L3.nr
 |change L3.Ir
 |change L3.wg
 |change L3.G9
 |change L3.IM
 |change L3.xu
 |change L3.Kl
 |change L3.B5
 |change L3.rG)
local macro_rules| `(tactic|fail "sp")=> `(tactic|first
 |fail "cm"
 |change L3.cy
 |change L3.fW
 |change L3.LJ
 |change L3.rU
 |change L3.zt
 |change L3.LG
 |change L3.KC
 |change L3.kF
 |change L3.oQ
 |change L3.KY
 |change L3.uZ
 |change L3.HW
 |change L3.KA
 |change L3.KW
 |change L3.oU
 |change L3.Mf
 |change L3.Qh
 |change L3.xo
 |change L9.Ak
 |change L10.DQ
 |change L3.rU)
local macro_rules| `(tactic|fail "eo")=> `(tactic|first
 |change L3.aj
 |change L3.aZ
 |(exists L3.bG);(·fail "sp");(·fail "eo");(·fail "eo")
 |change L3.fV
 |(exists L3.iA);(·fail "ao")
 |(exists L3.mG);(·fail "sp");(·fail "ao")
 |(exists L3.dQ);(·fail "ao")
 |(exists L3.nc);(·fail "ao")
 |(exists L3.Ix);(·fail "eo")
 |change L3.iC
 |change L3.u6
 |(exists L3.Nf);(·fail "tt");(·fail "eo");(·fail "eo")
 |(exists L3.FK);(·fail "sp");(·fail "eo");(·fail "oo");(·fail "oo")
 |(exists L3.EZ);(·simp);(·fail "eo")
 |(exists L3.Eo);(·assumption))
local macro_rules| `(tactic|fail "ao")=> `(tactic|first
 |(exists L3.aw);(·fail "eo");(·fail "ao")
 |change L3.aR)
local macro_rules| `(tactic|fail "tt")=> `(tactic|first
 |(exists L3.eG);(exists L3.bG);(·fail "cm");(·fail "eo");(·fail "eo")
 |(exists L3.J9);(·fail "tt");(·fail "tt")
 |(exists L3.CD);(·fail "tt")
 |(exists L3.G5);(·fail "eo")
 |change L3.dS)
local macro_rules| `(tactic|fail "gg")=> `(tactic|first
 |change L3.bE
 |(exists L3.oi);(·fail "gg");(·fail "gg")
 |change L3.Ad
 |(exists L3.A7);(·fail "gg")
 |change L10.bv
 |(exists L10.jC);(·fail "gg");(·fail "gg")
 |change L10.wN
 |(exists L10.wU);(·fail "gg"))
local macro_rules| `(tactic|fail "io")=> `(tactic|first
 |(exists L3.iZ);(·fail "ao")
 |(exists L3.gZ);(·fail "eo")
 |(exists L3.OV);(·fail "ao")
 |(exists L10.sA);(·fail "io")
 |(exists L10.ox);(·fail "es"))
local macro_rules| `(tactic|fail "oo")=> `(tactic|first
 |(exists L3.r9);(·fail "eo")
 |change L3.sE)
local macro_rules| `(tactic|fail "es")=> `(tactic|first
 |(exists L10.aq);(·fail "eo")
 |change L10.aJ
 |(exists L10.zg);(·fail "es");(·fail "es")
 |(exists L10.gY);(·fail "sp");(·fail "es");(·fail "es")
 |(exists L10.cF);(·assumption);(·fail "me");(·fail "es")
 |(exists L10.lX);(·fail "as")
 |(exists L10.vF);(·fail "as")
 |(exists L10.BM);(·fail "as")
 |(exists L10.rH);(·fail "es");(·fail "es")
 |(exists L10.xm);(·fail "as")
 |(exists L10.sB);(·fail "es");(·fail "es")
 |(exists L10.Cw);(·assumption);(·fail "es");(·fail "as")
 |(exists L10.zK);(·fail "es")
 |(exists L10.yB);(·fail "es")
 |(exists L10.GV);(·fail "es");(·fail "es")
 |(exists L10.K7);(·fail "es");(·fail "es")
 |(exists L10.uc);(·fail "sp");(·fail "as")
 |(exists L10.v5);(·fail "es")
 |(exists L10.KQ);(·simp);(·fail "es")
 |(exists L10.DK);(·fail "es");(·fail "es")
 |(exists L10.Fh);(·fail "ts");(·fail "es");(·fail "es")
 |(exists L10.JJ);(·assumption);(·fail "as")
 |(exists L10.GU);(·fail "es"))
local macro_rules| `(tactic|fail "as")=> `(tactic|first
 |(exists L10.aQ);(·fail "es");(·fail "as")
 |change L10.cI)
local macro_rules| `(tactic|fail "ts")=> `(tactic|first
 |(exists L10.gL);(exists L10.gY);(·fail "cm");(·fail "es");(·fail "es")
 |(exists L10.iL);(·fail "tt")
 |(exists L10.JY);(·fail "ts");(·fail "ts")
 |(exists L10.uu);(·fail "ts");(·fail "ts")
 |(exists L10.Du);(·fail "ts")
 |(exists L10.vI);(·fail "es"))
local macro_rules| `(tactic|fail "so")=> `(tactic|first
 |(exists L3.cx);(·fail "so");(·fail "so")
 |(exists L3.iK);(·fail "eo");(·fail "gg")
 |(exists L3.Qm);(·fail "tt");(·fail "so");(·fail "so")
 |(exists L3.jm);(·fail "eo")
 |(exists L3.CY);(·fail "eo")
 |change L3.Lx
 |(exists L3.Gp);(·fail "io");(·fail "gg");(·fail "so")
 |(exists L10.aG);(·fail "so");(·fail "so")
 |(exists L10.cZ);(·fail "es");(·fail "gg")
 |(exists L10.iJ);(·fail "ts");(·fail "so");(·fail "so")
 |(exists L10.iH);(·fail "es")
 |(exists L10.eO);(·fail "es")
 |(exists L10.ER);(·fail "es");(·fail "es");(·fail "es")
 |(exists L10.lW);(·assumption);(·fail "me");(·fail "es");(·fail "es")
 |change L10.eC
 |(exists L10.nJ);(·fail "io");(·fail "gg");(·fail "so")
 |(exists L10.vo);(·fail "ts");(·fail "so")
 |change L10.GA)
local macro_rules| `(tactic|fail "to")=> `(tactic|first
 |exact L2.bX
 |exact L2.mS (by assumption)
 |exact L2.F0 (by assumption)
 |exact L3.xU (by assumption)
 |exact L3.KL (by assumption)
 |exact L9.xw
 |exact L3.gq
 |exact L3.Jo
 |exact L3.O0
 |exact L2.OM
 |exact L2.Mr
 |exact L2.Cy
 |exact L3.BN
 |exact L2.Oh
 |exact L2.Fr
 |exact L2.A9
 |exact L2.rF
 |exact L2.No
 |exact L2.gp
 |exact L2.gD
 |exact L2.wS
 |exact L3.uR
 |exact L2.ir
 |exact L10.vN
 |exact L3.xH
 |exact L2.Ha
 |exact aeY
 |exact L2.k9
 |exact L2.oB
 |exact L2.xL
 |exact L2.MD
 |exact L2.yh
 |exact L2.M5
 |exact L10.Pj
 |exact L2.oo
 |change VW
 |change VR
 |change VS
 |change PySem.F.slot_list_insert
 |change PySem.F.type_list_insert
 |change PySem.F.slot_list_extend
 |change PySem.F.type_list_extend
 |change WK
 |change XI
 |change aay
 |exact L2.Ej rfl
 |exact L3.yk rfl
 |exact L10.uh rfl
 |exact L10.sQ rfl
 |exact L10.Az rfl
 |rfl)
local macro_rules| `(tactic|fail "pe")=> `(tactic|first
 |(exists L2.pv);(·rfl);(·(first|exact a7 rfl|exact bb (a7 rfl)|exact bb (bb rfl)));(·decide);(·decide)
 |change L2.aY
 |(exists L2.cM);(·fail "to");(·fail "pe");(·fail "pe");(·exact λ_ _=>rfl)
 |change L2.fL
 |(exists L2.kj);(·fail "to");(·fail "pe");(·fail "pe")
 |(exists L2.CL);(·assumption);(·fail "pe");(·fail "pe");(·exact λ_ _=>rfl)
 |(exists L2.eX);(·assumption);(·assumption);(·fail "pa");(·decide);(·rfl);(·decide);(·rfl);(·rfl)
 |(exists L2.cS);(·fail "pa")
 |change L2.g7
 |(exists L2.mZ);(·fail "pa")
 |(exists L2.cW);(·fail "to");(·rfl);(·assumption);(·fail "to");(·fail "pa");(·decide);(·decide);(·rfl);(·rfl)
 |(exists L2.fS);(·fail "to");(·rfl);(·assumption);(·fail "to");(·fail "pa");(·decide);(·decide);(·rfl);(·rfl)
 |(exists L2.B3);(·rfl);(·assumption);(·(first|rfl|exact⟨_,rfl⟩));(·decide)
 |change L2.vE
 |(exists L2.lH);(·fail "to");(·fail "pe");(·fail "pe");(·(first|rfl|with_unfolding_all rfl))
 |(apply L2.dA);(·fail "pe");(·rfl)
 |(apply L2.sR);(·fail "to");(·fail "to");(·fail "to");(·fail "to");(·fail "pe");(·fail "pa");(·rfl);(·rfl);(·decide);(·rfl);(·rfl)
 |(exists L2.sH);(·fail "pt");(·fail "pe");(·fail "pe")
 |(apply L2.E5);(·fail "to");(·fail "to");(·fail "to");(·fail "to");(·fail "pe");(·rfl);(·decide)
 |(exists L2.Hi);(·fail "pe")
 |(exists L2.GX);(·fail "pe");(·fail "pe")
 |(apply L2.t7);(·fail "to");(·fail "pe");(·fail "po");(·fail "po")
 |(apply L2.FW);(·fail "pe");(·fail "pe");(·exact⟨rfl,rfl,rfl,rfl⟩)
 |(exists L2.Cv);(·rfl);(·assumption);(·fail "to");(·(first|rfl|exact⟨_,rfl⟩));(·decide);(·decide)
 |(apply L10.IE);(·assumption);(·fail "to");(·assumption);(·fail "pe");(·fail "pa");(·decide);(·rfl);(·rfl);(·rfl)
 |(apply L10.HG);(·assumption);(·fail "to");(·assumption);(·fail "pe");(·decide);(·rfl)
 |(apply L10.MC);(·assumption);(·fail "to");(·assumption);(·fail "pa");(·decide);(·rfl);(·decide);(·rfl);(·rfl)
 |(apply L10.Dh);(·rfl);(·rfl);(·assumption);(·fail "pa");(·rfl))
local macro_rules| `(tactic|fail "pa")=> `(tactic|first
 |(exists L2.ai);(·fail "pe");(·fail "pa");(·rfl)
 |change L2.aA)
local macro_rules| `(tactic|fail "pt")=> `(tactic|first
 |(exists L2.cX);(·fail "to");(·fail "pe");(·fail "pe");(·(first|rfl|with_unfolding_all rfl))
 |(exists L2.Au);(·fail "pt")
 |(exists L2.Bm);(·fail "pc");(·(first|rfl|with_unfolding_all rfl))
 |(exists L2.PW.pt);(·fail "pw")
 |(exists L2.xO);(·fail "pe");(·(intro _;rfl)))
local macro_rules| `(tactic|fail "pw")=> `(tactic|first
 |(exists L2.LY);(·fail "pt")
 |(exists L2.NS);(·fail "pt");(·fail "pw")
 |(exists L2.AI);(·fail "pt")
 |(exists L2.yZ);(·fail "pt");(·fail "pw"))
local macro_rules| `(tactic|fail "pc")=> `(tactic|first
 |(exists L2.NA);(·assumption);(·fail "pe");(·fail "pe"))
local macro_rules| `(tactic|fail "pg")=> `(tactic|first
 |(exists L2.bF);(·(first|assumption|left));(·rfl);(·(first|exact a7 rfl|exact bb rfl|assumption|rfl));(·(first|exact a7 rfl|exact bb rfl|assumption|rfl))
 |(exists L2.fC);(·fail "pg");(·fail "pg");(·rfl)
 |change L2.om
 |(apply L2.su);(·rfl);(·fail "pg");(·rfl);(·rfl))
local macro_rules| `(tactic|fail "pi")=> `(tactic|first
 |(exists L2.fR);(·rfl);(·assumption);(·fail "pa");(·rfl)
 |(apply L3.PB);(·rfl);(·assumption);(·fail "pa");(·rfl);(·rfl)
 |(apply L3.eY);(·fail "pe"))
local macro_rules| `(tactic|fail "po")=> `(tactic|first
 |change L2.wa
 |(exists L2.vZ);(·fail "pe"))
local macro_rules| `(tactic|fail "te")=> `(tactic|first
 |(exists L2.aI);(·fail "te")
 |change L2.gh
 |(exists L2.am);(·fail "te");(·fail "te")
 |(exists L2.cQ);(·(first|assumption|left));(·rfl);(·(first|exact a7 rfl|exact bb rfl|assumption|rfl));(·fail "pe");(·rfl);(·(first|exact a7 rfl|exact bb rfl|assumption|rfl))
 |(exists L2.hV);(·fail "pe");(·rfl)
 |(exists L2.cH);(·fail "pe")
 |(exists L2.kJ);(·fail "pt");(·fail "te");(·fail "te")
 |(exists L2.mO);(·fail "to");(·rfl);(·fail "pi");(·fail "pg");(·fail "te");(·(intro _;rfl))
 |(apply L2.pp);(·fail "pe");(·fail "pe");(·rfl)
 |(exists L2.Lm);(·assumption);(·fail "pe");(·fail "pe");(·fail "pe");(·rfl)
 |(exists L2.NB);(·fail "pe");(·fail "pg");(·rfl);(·rfl);(·rfl)
 |change L2.Kz
 |(exists L2.yy);(·fail "to");(·fail "pt");(·fail "te"))
local macro_rules| `(tactic|fail "ok")=> `(tactic|(intros;refine L3.Dj (by fail "so") ?_;first|(apply L2.am);(·fail "te");(·fail "te")|(apply L2.aI);(·fail "te")))| `(tactic|fail "os")=> `(tactic|(intros;refine L3.Eb (by fail "so") ?_;first|(apply L2.am);(·fail "te");(·fail "te")|(apply L2.aI);(·fail "te")))
namespace K71
open PySem L2 L3 STP
def top(i:Nat):VH:=PySem.Challenge.pw_chordbed_k71_typing_rooms.main.body.getD i (.Pass ⟨0,0,0,0⟩)
def fb:VH->bg VH
 |.For _ _ b _ _=>b
 |.If _ b _ _=>b
 |_=>[]
def ss:UD->UD
 |.Subscript _ v _=>v
 |e=>e
def lp:UD->Pos
 |.List _ p=>p
 |_=>⟨0,0,0,0⟩
def fI:VH->UD
 |.For _ i _ _ _=>i
 |_=>.Name "" ⟨0,0,0,0⟩
def nP:VH->Pos
 |.Assign [.Name _ p] _ _=>p
 |_=>⟨0,0,0,0⟩
def sv:UD->UD
 |.Subscript v _ _=>v
 |e=>e
def le:UD->bg UD
 |.List l _=>l
 |_=>[]
def bl:UD->UD
 |.BinOp a _ _ _=>a
 |e=>e
def dK:UD->bg (br UD)
 |.Dict k _ _=>k
 |_=>[]
def dV:UD->bg UD
 |.Dict _ v _=>v
 |_=>[]
section
variable{P:T5}{w:Uu}{K:Tg}{mg:Str->br Ti}{base:Heap}{f:Tt}{fd:UO}
theorem yS(F:WL K "layer_of" "layer_of" (top 5) f fd)(b:mg "max"=Th):FnOk P w K mg base dD 1 f fd ["standing"] (qC K 1 dI):=n6 (N:=["standing"]) (g:=nk) F (by fail "sc") rfl rfl rfl λm A a s H E nd j e l h=>Eb (cx (by fail "so")
   (jm (mG L10.DQ (aw (dM rfl rfl (gZ (bG cy aj aZ)) (A7 (oi bE (oi bE Ad))) (eG (bG nr (bG cy aj aZ) fV)) (bG cy aj aZ)) aR)))) (am (by fail "te")
   (aI (cH (L10.Dh rfl rfl b (ai (fG ["key","act"] [] rfl (eY (cM bX (pv 0) aY (λ_ _=>rfl))) (λ_ _ _ _=>(su rfl (fC (bF (i:=0) (show US (["key","act"]:bg Str) by left) rfl (a7 rfl)) (fC (bF (i:=1) (show US (["key","act"]:bg Str) by left) rfl (a7 rfl)) om)))) (λ_ _ _ _=>(oO (cX (mS e) (cM bX (pv 1) aY (λ_ _=>rfl)) fL (ei _)))) (λ_ _ _ _=>(cM bX (pv 1) aY (λ_ _=>rfl))) trivial rfl) aA)))))
theorem vW(F:WL K "looked_up" "looked_up" (top 8) f fd):FnOk P w K mg base dD 1 f fd ["bed","layer","key"] (qC K 3 iR):=n6 (N:=["bed","layer","key","meaning"]) (g:=lw) F (by fail "sc") rfl rfl rfl λj A a s H E nd h e i b=>Eb (cx (by fail "so")
   (cx (by fail "so")
   (jm aj))) (am (by fail "te")
   (am (by fail "te")
   (aI (cH (pv 3)))))
theorem sT(F:WL K "chords_over" "chords_over" (top 9) f fd)(b:mg "all"=Th):FnOk P w K mg base dD 1 f fd ["bed","keys"] (qC K 2 bL):=n6 (N:=["bed","keys"]) (g:=jp) F (by fail "sc") rfl rfl rfl λm A a s H E nd j h l e=>Eb (jm (dM rfl rfl (gZ (bG cy aj aZ)) bE (G5 (mG HW (aw (dM rfl rfl (gZ aj) bE dS (bG xu aj (bG cy aj aZ))) aR))) aj)) (aI (cH (fG ["chord"] [("keys",1)] rfl (eY (cM bX (pv 0) aY (λ_ _=>rfl))) (λ_ _ _ _=>(bF (i:=0) (show US (["chord","keys"]:bg Str) by left) rfl (bb rfl))) (λ_ _ _ _=>(oO (xO (cW (yk rfl) rfl b M5 (ai (fG ["key"] [("chord",0)] rfl (eY (pv 1)) (λ_ _ _ _=>(bF (i:=0) (show US (["key","chord"]:bg Str) by left) rfl (a7 rfl))) (λ_ _ _ _=>dB) (λ_ _ _ _=>(lH (xU e) (pv 0) (cM bX (pv 1) aY (λ_ _=>rfl)) (by with_unfolding_all rfl))) ⟨⟨rfl,rfl,a7 rfl⟩,trivial⟩ rfl) aA))))) (λ_ _ _ _=>(pv 0)) ⟨⟨rfl,rfl,a7 rfl⟩,trivial⟩ rfl)))
theorem uM(F:WL K "chord_acts" "chord_acts" (top 10) f fd)(p:mg "list"=Th)(o:mg "sorted"=Th)(q:mg "len"=Th){b:Tt}(e:mg "NONE"=lD (.ref b))(h:∀O H,DV O K H (.ref b) (.tuple [(.str "none")])):FnOk P w K mg base dD 1 f fd ["bed","keys"] (qC K 2 fX):=n6 (N:=["bed","keys","chord"]) (g:=jY) F (by fail "sc") rfl rfl rfl λr A a s H E nd m l n j=>Eb (cx (by fail "so")
   (jm (dM rfl rfl (gZ aj) bE dS (bG cy (bG cy (bG cy aj aZ) aZ) aj)))) (am (by fail "te")
   (aI (cH (fG ["key"] [("bed",0)] rfl (eY (pv 1)) (λ_ _ _ _=>(bF (i:=0) (show US (["key","bed"]:bg Str) by left) rfl (a7 rfl))) (λ_ _ _ _=>dB) (λ_ _ _ _=>(cM bX (cM bX (cM bX (pv 1) aY (λ_ _=>rfl)) aY (λ_ _=>rfl)) (pv 0) (λ_ _=>rfl))) ⟨⟨rfl,rfl,a7 rfl⟩,trivial⟩ rfl))))
theorem xI(F:WL K "_law_cell" "_law_cell" (top 22) f fd)(b:mg "len"=Th):FnOk P w K mg base dD 1 f fd ["_law_script","_law_k"] (qC K 2 bf):=n6 (N:=["_law_script","_law_k"]) (g:=qN) F (by fail "sc") rfl rfl rfl λl A a s H E nd i h j e=>Eb (jm (Nf (eG (bG wg aj (mG kF (aw aj aR)))) (bG cy aj aj) aZ)) (aI (cH (sH (cX Cy (pv 1) (cW gp rfl b k9 (ai (pv 0) aA)) (ei _)) (cM bX (pv 0) (pv 1) (λ_ _=>rfl)) aY)))
theorem xT(F:WL K "_law_draw" "_law_draw" (top 23) f fd):FnOk P w K mg base dD 1 f fd ["_law_cell_here","_law_salt","_law_many_here"] (qC K 3 aH):=n6 (N:=["_law_cell_here","_law_salt","_law_many_here","_law_number"]) (g:=lu) F (by fail "sc") rfl rfl rfl (by delta lu;fail "os")
theorem rh(F:WL K "_law_meaning" "_law_meaning" (top 24) f fd)(b:ii P w K mg base 1 "_law_draw" ["_law_cell_here","_law_salt","_law_many_here"] 3 aH)(a:mg "max"=Th):FnOk P w K mg base dD 2 f fd ["_law_cell_here","_law_layer","_law_layers"] (qC K 3 eN):=n6 (N:=["_law_cell_here","_law_layer","_law_layers","_law_letter","_law_other","_law_kind"]) (g:=eJ) F (by fail "sc") rfl rfl rfl (by delta eJ;fail "os")
theorem yt(F:WL K "_law_bed" "_law_bed" (top 25) f fd)(m:ii P w K mg base 1 "_law_cell" ["_law_script","_law_k"] 2 bf)(r:ii P w K mg base 1 "_law_draw" ["_law_cell_here","_law_salt","_law_many_here"] 3 aH)(l:ii P w K mg base 2 "_law_meaning" ["_law_cell_here","_law_layer","_law_layers"] 3 eN)(b:mg "range"=Th)(h:mg "tuple"=Th)(p:mg "len"=Th):FnOk P w K mg base dD 3 f fd ["_law_script","_law_most"] (qC K 2 iM):=n6 (N:=["_law_script","_law_most","_law_cell_here","_law_keys","_law_layers","_law_rows","_law_layer","_law_cells","_law_some","_law_chords"]) (g:=jZ) F (by fail "sc") rfl rfl rfl λq A a s H E nd e j o n=>Eb (cx (by fail "so")
   (cx (by fail "so")
   (cx (by fail "so")
   (cx (iK (nc aR) bE)
   (cx (Gp (iZ (aw aj aR)) bE (cx (iK (dM rfl rfl (iZ (aw aj aR)) bE dS (iA (aw aj (aw (bG fW (bG fW aZ (bG zt aj aj)) aj) aR)))) bE)
   (CY (Ix (mG oQ (aw (dM rfl rfl (gZ aj) bE dS (iA (aw aj (aw aj (aw aj aR))))) aR))))))
   (cx (iK (mG oQ (aw (dM rfl rfl (iZ (aw aj aR)) bE (eG (bG nr (bG cy (bG cy (bG cy aj aZ) aj) aZ) fV)) aj) aR)) bE)
   (cx (iK (dQ aR) bE)
   (cx (by fail "so")
   (by fail "so"))))))))) (am (by fail "te")
   (am (by fail "te")
   (am (by fail "te")
   (am (cQ (i:=5) nd rfl (bb rfl) (mZ aA))
   (am (mO Xq.never rfl (fR rfl b (ai (pv 4) aA)) (bF (i:=6) nd rfl (bb rfl)) (am (oh (i:=7) ["_law_key"] [("_law_script",0),("_law_keys",3),("_law_layer",6)] nd rfl rfl rfl (fR rfl b (ai (pv 3) aA)) (λ_ _ _ _=>(bF (i:=0) (show US (["_law_key","_law_script","_law_keys","_law_layer"]:bg Str) by left) rfl (a7 rfl))) (λ_ _ _ _=>dB) (λ_ _ _ _=>(eX m e (ai (pv 1) (ai (kj gq (kj gq aY (kj BN (pv 2) (pv 3))) (pv 0)) aA)))) ⟨⟨rfl,rfl,a7 rfl⟩,⟨⟨rfl,rfl,a7 rfl⟩,⟨⟨rfl,rfl,a7 rfl⟩,trivial⟩⟩⟩ rfl)
   (aI (hV (sR VW VR VS ir (pv 5) (ai (fS gD rfl h oB (ai (fG ["_law_one"] [("_law_layer",6),("_law_layers",4)] rfl (eY (pv 7)) (λ_ _ _ _=>(bF (i:=0) (show US (["_law_one","_law_layer","_law_layers"]:bg Str) by left) rfl (a7 rfl))) (λ_ _ _ _=>dB) (λ_ _ _ _=>(eX l e (ai (pv 0) (ai (pv 1) (ai (pv 2) aA))))) ⟨⟨rfl,rfl,a7 rfl⟩,⟨⟨rfl,rfl,a7 rfl⟩,trivial⟩⟩ rfl) aA)) aA))))))
   (am (cQ (i:=8) nd rfl (a7 rfl) (fS gD rfl h oB (ai (fG ["_law_key"] [("_law_rows",5)] rfl (fR rfl b (ai (pv 3) aA)) (λ_ _ _ _=>(bF (i:=0) (show US (["_law_key","_law_rows"]:bg Str) by left) rfl (a7 rfl))) (λ_ _ _ _=>(oO (cX (mS j) (cM bX (cM bX (cM bX (pv 1) aY (λ_ _=>rfl)) (pv 0) (λ_ _=>rfl)) aY (λ_ _=>rfl)) fL (ei _)))) (λ_ _ _ _=>(pv 0)) ⟨⟨rfl,rfl,a7 rfl⟩,trivial⟩ rfl) aA)))
   (am (cQ (i:=9) nd rfl (a7 rfl) (cS aA))
   (am (by fail "te")
   (aI (by fail "te"))))))))))
theorem uz(F:WL K "_law_three" "_law_three" (top 32) f fd)(e:ii P w K mg base 1 "_law_cell" ["_law_script","_law_k"] 2 bf)(j:ii P w K mg base 1 "_law_draw" ["_law_cell_here","_law_salt","_law_many_here"] 3 aH)(h:mg "range"=Th)(o:mg "tuple"=Th):FnOk P w K mg base dD 2 f fd ["_law_script"] (qC K 1 eP):=n6 (N:=["_law_script","_law_cell_here","_law_letters","_law_chord"]) (g:=jQ) F (by fail "sc") rfl rfl rfl λp A a s H E nd b m n l=>Eb (cx (by fail "so")
   (cx (iK (dM rfl rfl (iZ (aw aZ aR)) bE dS (dQ (aw fV (aw (bG rU fV (iA (aw (iA (aw aj (aw (bG fW aZ aj) aR))) (aw aZ (aw aZ aR))))) aR)))) bE)
   (cx (by fail "so")
   (by fail "so")))) (am (by fail "te")
   (am (oh (i:=2) ["_law_key"] [("_law_script",0)] nd rfl rfl rfl (fR rfl h (ai aY aA)) (λ_ _ _ _=>(bF (i:=0) (show US (["_law_key","_law_script"]:bg Str) by left) rfl (a7 rfl))) (λ_ _ _ _=>dB) (λ_ _ _ _=>(cS (ai fL (ai (cM bX fL (eX j b (ai (eX e b (ai (pv 1) (ai (kj gq aY (pv 0)) aA))) (ai aY (ai aY aA)))) (λ_ _=>rfl)) aA)))) ⟨⟨rfl,rfl,a7 rfl⟩,trivial⟩ rfl)
   (am (by fail "te")
   (aI (by fail "te")))))
theorem wx(F:WL K "_law_text" "_law_text" (top 26) f fd)(h:ii P w K mg base 1 "_law_cell" ["_law_script","_law_k"] 2 bf)(e:ii P w K mg base 1 "_law_draw" ["_law_cell_here","_law_salt","_law_many_here"] 3 aH)(j:mg "range"=Th):FnOk P w K mg base dD 2 f fd ["_law_script"] (qC K 1 iX):=n6 (N:=["_law_script","_law_cell_here","_law_letters"]) (g:=kM) F (by fail "sc") rfl rfl rfl λo A a s H E nd b m n l=>Eb (cx (by fail "so")
   (cx (iK (dM rfl rfl (iZ (aw (iA (aw aj (aw aZ (aw aZ aR)))) aR)) bE dS (iA (aw (iA (aw aj (aw (bG fW aZ aj) aR))) (aw aZ (aw aZ aR))))) bE)
   (jm (MK xo fV (aw (dM rfl rfl (gZ aj) bE dS (bG rU fV aj)) aR))))) (am (by fail "te")
   (am (oh (i:=2) ["_law_k"] [("_law_script",0)] nd rfl rfl rfl (fR rfl j (ai (eX e b (ai (pv 1) (ai aY (ai aY aA)))) aA)) (λ_ _ _ _=>(bF (i:=0) (show US (["_law_k","_law_script"]:bg Str) by left) rfl (a7 rfl))) (λ_ _ _ _=>dB) (λ_ _ _ _=>(eX e b (ai (eX h b (ai (pv 1) (ai (kj gq aY (pv 0)) aA))) (ai aY (ai aY aA))))) ⟨⟨rfl,rfl,a7 rfl⟩,trivial⟩ rfl)
   (aI (cH (sR aaL aa3 aa4 CQ fL (ai (fG ["_law_letter"] [] rfl (eY (pv 2)) (λ_ _ _ _=>(bF (i:=0) (show US (["_law_letter"]:bg Str) by left) rfl (a7 rfl))) (λ_ _ _ _=>dB) (λ_ _ _ _=>(cM bX fL (pv 0) (λ_ _=>rfl))) trivial rfl) aA))))))
theorem sV(F:WL K "_law_events" "_law_events" (top 27) f fd)(b:mg "list"=Th)(e:mg "range"=Th):FnOk P w K mg base dD 1 f fd ["_law_bed_here"] (qC K 1 gB):=n6 (N:=["_law_bed_here","_law_keys"]) (g:=jd) F (by fail "sc") rfl rfl rfl λn A a s H E nd l j m h=>Eb (cx (iK (L9.Qi (aw (bG cy aj aZ) aR)) bE)
   (jm (bG fW (bG fW (dM rfl rfl (gZ aj) bE dS (dQ (aw fV (aw aj aR)))) (dM rfl rfl (gZ aj) bE dS (dQ (aw fV (aw aj aR))))) (nc (aw (dQ (aw fV (aw aZ aR))) aR))))) (am (cQ (i:=1) nd rfl (a7 rfl) (fS (L9.D0 rfl) rfl b xL (ai (fS L9.DZ rfl e L9.K1 (ai (cM bX (pv 0) aY (λ_ _=>rfl)) aA)) aA)))
   (aI (cH (kj gq (kj gq (fG ["_law_key"] [] rfl (eY (pv 1)) (λ_ _ _ _=>(bF (i:=0) (show US (["_law_key"]:bg Str) by left) rfl (a7 rfl))) (λ_ _ _ _=>dB) (λ_ _ _ _=>(cS (ai fL (ai (pv 0) aA)))) trivial rfl) (fG ["_law_key"] [] rfl (eY (pv 1)) (λ_ _ _ _=>(bF (i:=0) (show US (["_law_key"]:bg Str) by left) rfl (a7 rfl))) (λ_ _ _ _=>dB) (λ_ _ _ _=>(cS (ai fL (ai (pv 0) aA)))) trivial rfl)) (mZ (ai (cS (ai fL (ai aY aA))) aA))))))
theorem wH(F:WL K "_law_done" "_law_done" (top 28) f fd):FnOk P w K mg base dD 1 f fd ["_law_text_here","_law_done_here","_law_sent"] (qC K 3 i7):=n6 (N:=["_law_text_here","_law_done_here","_law_sent","_law_letter","_law_word"]) (g:=kS) F (by fail "sc") rfl rfl rfl λj A a s H E nd h e i b=>Eb (cx (by fail "so")
   (jm aj)) (am (by fail "te")
   (aI (cH (pv 1))))
theorem wu(F:WL K "events_of" "events_of" (top 15) f fd)(b:mg "range"=Th):FnOk P w K mg base dD 1 f fd ["bed"] (qC K 1 gK):=n6 (N:=["bed","downs","ups"]) (g:=kQ) F (by fail "sc") rfl rfl rfl λm A a s H E nd j h l e=>Eb (cx (iK (dM rfl rfl (iZ (aw (bG cy aj aZ) aR)) bE dS (dQ (aw fV (aw aj aR)))) bE)
   (cx (iK (dM rfl rfl (iZ (aw (bG cy aj aZ) aR)) bE dS (dQ (aw fV (aw aj aR)))) bE)
   (by fail "so"))) (am (oh (i:=1) ["key"] [] nd rfl rfl rfl (fR rfl b (ai (cM bX (pv 0) aY (λ_ _=>rfl)) aA)) (λ_ _ _ _=>(bF (i:=0) (show US (["key"]:bg Str) by left) rfl (a7 rfl))) (λ_ _ _ _=>dB) (λ_ _ _ _=>(cS (ai fL (ai (pv 0) aA)))) trivial rfl)
   (am (oh (i:=2) ["key"] [] nd rfl rfl rfl (fR rfl b (ai (cM bX (pv 0) aY (λ_ _=>rfl)) aA)) (λ_ _ _ _=>(bF (i:=0) (show US (["key"]:bg Str) by left) rfl (a7 rfl))) (λ_ _ _ _=>dB) (λ_ _ _ _=>(cS (ai fL (ai (pv 0) aA)))) trivial rfl)
   (aI (by fail "te"))))
theorem tO(F:WL K "done_behind" "done_behind" (top 20) f fd)(l:mg "len"=Th):FnOk P w K mg base dD 1 f fd ["text","done","sent"] (qC K 3 gI):=n6 (N:=["text","done","sent","downs","behind"]) (g:=jj) F (by fail "sc") rfl rfl rfl λm A a s H E nd h b j e=>Eb (cx (iK (MK xo fV (aw (dM rfl rfl (gZ aj) (A7 (oi bE (oi bE Ad))) (eG (bG nr aj fV)) aj) aR)) bE)
   (cx (by fail "so")
   (cx (by fail "so")
   (jm aj)))) (am (cQ (i:=3) nd rfl (a7 rfl) (sR aaL aa3 aa4 CQ fL (ai (fG ["letter","word"] [] rfl (eY (pv 2)) (λ_ _ _ _=>(su rfl (fC (bF (i:=0) (show US (["letter","word"]:bg Str) by left) rfl (a7 rfl)) (fC (bF (i:=1) (show US (["letter","word"]:bg Str) by left) rfl (a7 rfl)) om)))) (λ_ _ _ _=>(oO (cX (mS b) (pv 1) fL (ei _)))) (λ_ _ _ _=>(pv 0)) trivial rfl) aA)))
   (am (by fail "te")
   (am (by fail "te")
   (aI (cH (pv 4))))))
end
end K71
namespace K71
open PySem L2 L3 L10 STP
section
variable{P:T5}{w:Uu}{K:Tg}{mg:Str->br Ti}{base:Heap}{f:Tt}{fd:UO}
theorem pQ(F:WL K "__init__" "Hand.__init__" (bj (top 7) 0) f fd)(e:gS K "Hand" ["bed","acts","waiting","once","sent"])(b:mg "dict"=Th):FnOk P w K mg base dD 3 f fd ["self","bed","standing"] (dR K 3 dU):=kq (N:=["self","bed","standing"]) (g:=kh) F (by fail "sc") rfl rfl rfl λm A a s H E nd j i l h=>Dj (aG (lW e (.head _) aJ (aq aj))
   (aG (by fail "so")
   (aG (by fail "so")
   (aG (by fail "so")
   (by fail "so"))))) (am (pp (pv 0) (pv 1) rfl)
   (am (by fail "te")
   (am (by fail "te")
   (am (by fail "te")
   (aI (by fail "te"))))))
theorem ug(F:WL K "stands" "Hand.stands" (bj (top 7) 1) f fd)(a:gS K "Hand" ["bed","acts","waiting","once","sent"])(j:mg "tuple"=Th)(h:mg "sorted"=Th):FnOk P w K mg base dD 3 f fd ["self"] (dR K 1 bK):=kq (N:=["self"]) (g:=mB) F (by fail "sc") rfl rfl rfl λo A b s H E nd n m e l=>Dj (eO (xm (aQ (uc oQ (aQ (zP rfl rfl (ox (yB (cF a (.tail _ (.head _)) aJ))) bv zS (xm (aQ (aq aj) (aQ (zg (cF a (.tail _ (.head _)) aJ) (aq aj)) cI)))) cI)) (aQ (cF a (.tail _ (.tail _ (.head _))) aJ) (aQ (cF a (.tail _ (.tail _ (.tail _ (.head _)))) aJ) cI))))) (aI (cH (cS (ai (fS gD rfl j oB (ai (fG ["key"] [("self",0)] rfl (eY (cW (sQ rfl) rfl h yh (ai (dA (pv 0) rfl) aA))) (λ_ _ _ _=>(bF (i:=0) (show US (["key","self"]:bg Str) by left) rfl (a7 rfl))) (λ_ _ _ _=>dB) (λ_ _ _ _=>(cS (ai (pv 0) (ai (CL e (dA (pv 1) rfl) (pv 0) (λ_ _=>rfl)) aA)))) ⟨⟨rfl,rfl,a7 rfl⟩,trivial⟩ rfl) aA)) (ai (dA (pv 0) rfl) (ai (dA (pv 0) rfl) aA))))))
theorem nt(F:WL K "is_waiting" "Hand.is_waiting" (bj (top 7) 2) f fd)(b:gS K "Hand" ["bed","acts","waiting","once","sent"]):FnOk P w K mg base dD 3 f fd ["self","key"] (dR K 2 b8):=kq (N:=["self","key"]) (g:=iU) F (by fail "sc") rfl rfl rfl λl A a s H E nd i h j e=>Dj (eO (DK (gY rG (cF b (.tail _ (.tail _ (.head _))) aJ) (aq iC)) (gY xu (aq aj) (sB (cF b (.tail _ (.tail _ (.head _))) aJ) (aq aZ))))) (aI (cH (GX (lH rF (dA (pv 0) rfl) g7 (ei _)) (Hi (lH (xU e) (pv 1) (cM bX (dA (pv 0) rfl) aY (λ_ _=>rfl)) (by with_unfolding_all rfl))))))
theorem qV(F:WL K "has_act" "Hand.has_act" (bj (top 7) 13) f fd)(h:gS K "Hand" ["bed","acts","waiting","once","sent"])(e:mg "list"=Th):FnOk P w K mg base dD 3 f fd ["self","act"] (dR K 2 bU):=kq (N:=["self","act"]) (g:=kP) F (by fail "sc") rfl rfl rfl λm A a s H E nd j i l b=>Dj (eO (gY xu (aq aj) (zK (cF h (.tail _ (.head _)) aJ)))) (aI (cH (lH (xU b) (pv 1) (fS (uh rfl) rfl e xL (ai (E5 WK XI aay vN (dA (pv 0) rfl)) aA)) (by with_unfolding_all rfl))))
theorem ww(F:WL K "come" "Hand.come" (bj (top 7) 11) f fd)(b:gS K "Hand" ["bed","acts","waiting","once","sent"])(a:ci P w K mg base dD 3 "Hand" "has_act" ["self","act"] (dR K 2 bU)):FnOk P w K mg base dD 4 f fd ["self","key","act"] (dR K 3 bB):=kq (N:=["self","key","act"]) (g:=kI) F (by fail "sc") rfl rfl rfl (by delta kI;fail "ok")
theorem AW(F:WL K "go" "Hand.go" (bj (top 7) 12) f fd)(b:gS K "Hand" ["bed","acts","waiting","once","sent"])(a:ci P w K mg base dD 3 "Hand" "has_act" ["self","act"] (dR K 2 bU)):FnOk P w K mg base dD 4 f fd ["self","key"] (dR K 2 jB):=kq (N:=["self","key","act"]) (g:=pY) F (by fail "sc") rfl rfl rfl (by delta pY;fail "ok")
theorem tH(F:WL K "decide" "Hand.decide" (bj (top 7) 10) f fd)(h:gS K "Hand" ["bed","acts","waiting","once","sent"])(p:ci P w K mg base dD 4 "Hand" "come" ["self","key","act"] (dR K 3 bB))(m:ii P w K mg base 1 "chord_acts" ["bed","keys"] 2 fX)(e:mg "zip"=Th){b:Tt}(q:mg "CHORD"=lD (.ref b))(o:∀O H,L3.DV O K H (.ref b) (.tuple [(.str "chord")])):FnOk P w K mg base dD 5 f fd ["self"] (dR K 1 b3):=kq (N:=["self","keys","what","acts","key","act"]) (g:=mF) F (by fail "sc") rfl rfl rfl λr A a s H E nd l j n i=>Dj (aG (by fail "so")
   (aG (by fail "so")
   (aG (lW h (.tail _ (.tail _ (.head _))) aJ (aq iC))
   (aG (by fail "so")
   (by fail "so"))))) (am (by fail "te")
   (am (by fail "te")
   (am (pp (pv 0) g7 rfl)
   (am (by fail "te")
   (aI (by fail "te"))))))
theorem mi(F:WL K "makes_chord" "Hand.makes_chord" (bj (top 7) 4) f fd)(l:gS K "Hand" ["bed","acts","waiting","once","sent"])(i:ci P w K mg base dD 3 "Hand" "stands" ["self"] (dR K 1 bK))(b:ii P w K mg base 1 "layer_of" ["standing"] 1 dI)(j:ii P w K mg base 1 "chords_over" ["bed","keys"] 2 bL){a:Tt}(h:mg "CHORD"=lD (.ref a))(e:∀O H,L3.DV O K H (.ref a) (.tuple [(.str "chord")])):FnOk P w K mg base dD 4 f fd ["self","key"] (dR K 2 dJ):=kq (N:=["self","key"]) (g:=fO) F (by fail "sc") rfl rfl rfl (by delta fO;fail "ok")
theorem kY(F:WL K "put_to_chord" "Hand.put_to_chord" (bj (top 7) 5) f fd)(j:gS K "Hand" ["bed","acts","waiting","once","sent"])(m:ci P w K mg base dD 5 "Hand" "decide" ["self"] (dR K 1 b3))(n:ii P w K mg base 1 "chords_over" ["bed","keys"] 2 bL)(e:mg "len"=Th){h:Tt}(r:mg "CHORD"=lD (.ref h))(q:∀O H,L3.DV O K H (.ref h) (.tuple [(.str "chord")])):FnOk P w K mg base dD 6 f fd ["self","key"] (dR K 2 dm):=kq (N:=["self","key","keys"]) (g:=g8) F (by fail "sc") rfl rfl rfl λt A a s H E nd b l p o=>Dj (aG (by fail "so")
   (aG (by fail "so")
   (iJ (gL (gY nr (zP rfl rfl (ox (BM (aQ (cF j (.head _) aJ) (aQ (aq aj) cI)))) bv zS (aq (mG kF (aw (bG cy aj aZ) aR)))) (aq (nc (aw (mG kF (aw aj aR)) aR))))) (iH (Cw j aJ cI)) eC))) (am (by fail "te")
   (am (by fail "te")
   (aI (kJ (cX (mS l) (fG ["chord"] [] rfl (eY (eX n b (ai (dA (pv 0) rfl) (ai (pv 2) aA)))) (λ_ _ _ _=>(bF (i:=0) (show US (["chord"]:bg Str) by left) rfl (a7 rfl))) (λ_ _ _ _=>dB) (λ_ _ _ _=>(cW gp rfl e k9 (ai (cM bX (pv 0) aY (λ_ _=>rfl)) aA))) trivial rfl) (mZ (ai (cW gp rfl e k9 (ai (pv 2) aA)) aA)) (ei _)) (aI (hV (HG m Ha b (pv 0)))) gh))))
theorem uC(F:WL K "begin" "Hand.begin" (bj (top 7) 6) f fd)(q:gS K "Hand" ["bed","acts","waiting","once","sent"])(o:ci P w K mg base dD 3 "Hand" "stands" ["self"] (dR K 1 bK))(m:ci P w K mg base dD 4 "Hand" "come" ["self","key","act"] (dR K 3 bB))(j:ii P w K mg base 1 "layer_of" ["standing"] 1 dI)(i:ii P w K mg base 1 "looked_up" ["bed","layer","key"] 3 iR)(p:ii P w K mg base 1 "chords_over" ["bed","keys"] 2 bL){b:Tt}(n:mg "CHORD"=lD (.ref b))(l:∀O H,L3.DV O K H (.ref b) (.tuple [(.str "chord")])){a:Tt}(e:mg "NONE"=lD (.ref a))(h:∀O H,L3.DV O K H (.ref a) (.tuple [(.str "none")])):FnOk P w K mg base dD 5 f fd ["self","key"] (dR K 2 gf):=kq (N:=["self","key","layer","meaning","word"]) (g:=jT) F (by fail "sc") rfl rfl rfl (by delta jT;fail "ok")
theorem uL(F:WL K "press" "Hand.press" (bj (top 7) 3) f fd)(j:gS K "Hand" ["bed","acts","waiting","once","sent"])(i:ci P w K mg base dD 3 "Hand" "is_waiting" ["self","key"] (dR K 2 b8))(b:ci P w K mg base dD 4 "Hand" "makes_chord" ["self","key"] (dR K 2 dJ))(e:ci P w K mg base dD 6 "Hand" "put_to_chord" ["self","key"] (dR K 2 dm))(h:ci P w K mg base dD 5 "Hand" "decide" ["self"] (dR K 1 b3))(a:ci P w K mg base dD 5 "Hand" "begin" ["self","key"] (dR K 2 gf)):FnOk P w K mg base dD 7 f fd ["self","key"] (dR K 2 im):=kq (N:=["self","key"]) (g:=jO) F (by fail "sc") rfl rfl rfl (by delta jO;fail "ok")
theorem sW(F:WL K "settle" "Hand.settle" (bj (top 7) 8) f fd)(j:gS K "Hand" ["bed","acts","waiting","once","sent"])(i:ci P w K mg base dD 5 "Hand" "decide" ["self"] (dR K 1 b3))(e:ci P w K mg base dD 4 "Hand" "come" ["self","key","act"] (dR K 3 bB)){a:Tt}(h:mg "CHORD"=lD (.ref a))(b:∀O H,L3.DV O K H (.ref a) (.tuple [(.str "chord")])):FnOk P w K mg base dD 6 f fd ["self","key"] (dR K 2 gF):=kq (N:=["self","key","what"]) (g:=ja) F (by fail "sc") rfl rfl rfl (by delta ja;fail "ok")
theorem xQ(F:WL K "lift" "Hand.lift" (bj (top 7) 7) f fd)(h:gS K "Hand" ["bed","acts","waiting","once","sent"])(e:ci P w K mg base dD 3 "Hand" "is_waiting" ["self","key"] (dR K 2 b8))(b:ci P w K mg base dD 6 "Hand" "settle" ["self","key"] (dR K 2 gF))(a:ci P w K mg base dD 4 "Hand" "go" ["self","key"] (dR K 2 jB)):FnOk P w K mg base dD 7 f fd ["self","key"] (dR K 2 iY):=kq (N:=["self","key"]) (g:=lF) F (by fail "sc") rfl rfl rfl (by delta lF;fail "ok")
theorem qX(F:WL K "wait_on" "Hand.wait_on" (bj (top 7) 9) f fd)(b:gS K "Hand" ["bed","acts","waiting","once","sent"])(a:ci P w K mg base dD 5 "Hand" "decide" ["self"] (dR K 1 b3)):FnOk P w K mg base dD 6 f fd ["self"] (dR K 1 fZ):=kq (N:=["self","age"]) (g:=iO) F (by fail "sc") rfl rfl rfl (by delta iO;fail "ok")
theorem LW(F:WL K "step" "step" (top 6) f fd)(j:gS K "Hand" ["bed","acts","waiting","once","sent"])(a:zX P w K mg base dD 3 "Hand" ["self","bed","standing"] (dR K 3 dU))(e:ci P w K mg base dD 6 "Hand" "wait_on" ["self"] (dR K 1 fZ))(h:ci P w K mg base dD 7 "Hand" "press" ["self","key"] (dR K 2 im))(b:ci P w K mg base dD 7 "Hand" "lift" ["self","key"] (dR K 2 iY))(i:ci P w K mg base dD 3 "Hand" "stands" ["self"] (dR K 1 bK)):FnOk P w K mg base dD 8 f fd ["bed","standing","event"] (dR K 3 STP.lC):=kq (N:=["bed","standing","event","hand"]) (g:=AJ) F (by fail "sc") rfl rfl rfl (by delta AJ;fail "ok")
theorem qW(F:WL K "enter" "Places.enter" (bj (top 16) 1) f fd)(a:gS K "Places" ["most","found","numbers"]){e l b:Tt}{p:UO}{y:Obj}(n:L9.XC K e l b)(t:K.lookup b=lD y)(u:Wm K (.ref b)=To)(j:FnOk P w K mg base dD 1 b p ["self","most"] (L9.xJ e "most"))(v:Binds K p ["self","most"] [])(m:T7 K TZ "TooMany"=lD (lD (.ref e)))(o:mg "TooMany"=lD (.ref e))(q:mg "len"=Th):FnOk P w K mg base (L4.lB P w) 3 f fd ["self","place","back","event"] (dR K 4 cc):=Jc (N:=["self","place","back","event"]) (g:=dC) F (by fail "sc") rfl rfl rfl λG A h s H E nd r i C B=>Dj (aG (iJ (vI (zy (aq aj) (cF a (.tail _ (.tail _ (.head _))) aJ))) (aG (iJ (gL (gY IM (uc kF (aQ (cF a (.tail _ (.head _)) aJ) cI)) (cF a (.head _) aJ))) (Bl m (cF a (.head _) aJ)) eC)
   (aG (pJ (cF a (.tail _ (.tail _ (.head _))) aJ) (aq aj) (uc kF (aQ (cF a (.tail _ (.head _)) aJ) cI)))
   (iH (rH (cF a (.tail _ (.head _)) aJ) (aq (dQ (aw aj (aw aj (aw aj aR))))))))) eC)
   (eO (pH (cF a (.tail _ (.tail _ (.head _))) aJ) (aq aj)))) (am (kJ (Bm (LD.adt i (pv 1) (dA (pv 0) rfl)) (by with_unfolding_all rfl)) (am (kJ (cX No (cW gp rfl q k9 (ai (dA (pv 0) rfl) aA)) (dA (pv 0) rfl) (ei _)) (aI (L9.EE n t u j v (r.mono (by decide)) rfl o (ai (dA (pv 0) rfl) aA))) gh)
   (am (LD.aaj i (dA (pv 0) rfl) (pv 1) (cW gp rfl q k9 (ai (dA (pv 0) rfl) aA)) rfl)
   (aI (hV (sR VW VR VS ir (dA (pv 0) rfl) (ai (cS (ai (pv 1) (ai (pv 2) (ai (pv 3) aA)))) aA)))))) gh)
   (aI (cH (LD.aan i (dA (pv 0) rfl) (pv 1) (λ_ _=>rfl)))))
theorem nF(F:WL K "__init__" "Places.__init__" (bj (top 16) 0) f fd)(a:gS K "Places" ["most","found","numbers"])(h:ci P w K mg base (L4.lB P w) 3 "Places" "enter" ["self","place","back","event"] (dR K 4 cc)):FnOk P w K mg base (L4.lB P w) 4 f fd ["self","first","most"] (dR K 3 c7):=Jc (N:=["self","first","most"]) (g:=cV) F (by fail "sc") rfl rfl rfl λm A b s H E nd e j l i=>Dj (aG (lW a (.head _) aJ (aq aj))
   (aG (lW a (.tail _ (.head _)) aJ (aq (nc aR)))
   (aG (lW a (.tail _ (.tail _ (.head _))) aJ vA)
   (iH (Gm a aJ (aQ (aq aj) (aQ (aq iC) (aQ (aq iC) cI)))))))) (am (pp (pv 0) (pv 2) rfl)
   (am (pp (pv 0) (mZ aA) rfl)
   (am (pp (pv 0) LD.abr rfl)
   (aI (hV (IE h L4.nM e (pv 0) (ai (pv 1) (ai g7 (ai g7 aA)))))))))
theorem xW(F:WL K "places_on" "places_on" (top 19) f fd)(b:gS K "Places" ["most","found","numbers"])(m:zX P w K mg base (L4.lB P w) 4 "Places" ["self","first","most"] (dR K 3 c7))(r:ci P w K mg base (L4.lB P w) 3 "Places" "enter" ["self","place","back","event"] (dR K 4 cc))(h:IT P w K mg base 8 "step" ["bed","standing","event"] 3 STP.lC)(o:ii P w K mg base 1 "events_of" ["bed"] 1 gK)(p:ii P w K mg base 1 "done_behind" ["text","done","sent"] 3 gI)(q:mg "len"=Th){j:Tt}(l:mg "AT_REST"=lD (.ref j))(n:∀O H,L3.DV O K H (.ref j) (.tuple [(.tuple []),.none,.none])):FnOk P w K mg base (L4.lB P w) 9 f fd ["bed","text","most"] (dR K 3 gW):=Jc (N:=["bed","text","most","events","places","number","place","event","answer","done"]) (g:=qK) F (by fail "sc") rfl rfl rfl λB A e s H E nd a u y t=>Dj (aG (cZ (v5 (aq (iA (aw aj aR)))) bv)
   (aG (cZ (O8 b (aQ (aq (dQ (aw (Eo n) (aw aZ aR)))) (aQ (aq aj) cI))) bv)
   (aG (cZ (aq aZ) bv)
   (aG (vo (gL (gY wg (aq aj) (uc kF (aQ (cF b (.tail _ (.head _)) aJ) cI)))) (aG (cZ (sB (sB (cF b (.tail _ (.head _)) aJ) (aq aj)) (aq aZ)) bv)
   (aG (nJ (sA (gZ aj)) bv (aG (cZ (v5 (vF (aQ (aq aj) (aQ (aq (bG cy aj aZ)) (aQ (aq aj) cI))))) bv)
   (aG (cZ (aq (iA (aw aj (aw (bG cy aj aZ) (aw (bG cy aj aZ) aR))))) bv)
   (iJ (iL (eG (bG rG aj iC))) (iH (Gm b aJ (aQ (aq (dQ (aw (bG cy aj aZ) (aw aj aR)))) (aQ (aq aj) (aQ (aq aj) cI))))) eC))))
   (L6 Es (aq aZ)))))
   (eO aJ))))) (am (cQ (i:=3) nd rfl (a7 rfl) (eX o a (ai (pv 0) aA)))
   (am (cQ (i:=4) nd rfl (a7 rfl) (MC m L4.nM a (ai (cS (ai (B3 (v:=.ref _) rfl l rfl) (ai aY aA))) (ai (pv 2) aA))))
   (am (cQ (i:=5) nd rfl (a7 rfl) aY)
   (am (yy Xq.leaving (cX Cy (pv 5) (cW gp rfl q k9 (ai (dA (pv 4) rfl) aA)) (ei _)) (am (cQ (i:=6) nd rfl (a7 rfl) (cM bX (cM bX (dA (pv 4) rfl) (pv 5) (λ_ _=>rfl)) aY (λ_ _=>rfl)))
   (am (mO Xq.leaving rfl (eY (pv 3)) (bF (i:=7) nd rfl (a7 rfl)) (am (cQ (i:=8) nd rfl (a7 rfl) (eX h a (ai (pv 0) (ai (cM bX (pv 6) aY (λ_ _=>rfl)) (ai (pv 7) aA)))))
   (am (cQ (i:=9) nd rfl (a7 rfl) (eX p a (ai (pv 1) (ai (cM bX (pv 6) aY (λ_ _=>rfl)) (ai (cM bX (pv 8) aY (λ_ _=>rfl)) aA)))))
   (aI (kJ (cX rF (pv 9) g7 (ei _)) (aI (hV (IE r L4.nM a (pv 4) (ai (cS (ai (cM bX (pv 8) aY (λ_ _=>rfl)) (ai (pv 9) aA))) (ai (pv 5) (ai (pv 7) aA)))))) gh)))))
   (aI (Pg (i:=5) nd rfl (a7 rfl) aY Ls)))))
   (aI (cH (pv 4)))))))
theorem j9{l:Tt}{b:Array Ti}(F:aaR K "typing_rooms" "typing_rooms" (top 18) f fd l b)(j:gS K "Places" ["most","found","numbers"])(h:si P w K mg base (L4.lB P w) 9 "places_on" ["bed","text","most"] [] (dR K 3 gW)):FnOk P w K mg base (L4.lB P w) 10 f fd ["bed","text","most"] (dR K 3 a8):=On (N:=["bed","text","most","prices","found","place","back","event","price"]) (g:=lh) F (by fail "sc") rfl rfl rfl λp A a s H E nd e n o m=>Dj (aG (cZ (aq (nc aR)) bv)
   (aG (cZ (aq (nc aR)) bv)
   (aG (nJ (ox (cF j (.tail _ (.head _)) (Ei (λ_ _=>.nil) (aQ (aq aj) (aQ (aq aj) (aQ (aq aj) cI)))))) (wU (jC bv (jC bv (jC bv wN)))) (aG (cZ (Fh (iL (eG (bG B5 aj iC))) (aq aZ) (gY fW (sB aJ (aq aj)) (aq aZ))) bv)
   (aG (iH (rH aJ (aq aj)))
   (iH (rH aJ (aq (dQ (aw (bG cy aj aZ) (aw (bG cy aj aZ) (aw aj aR))))))))))
   (eO aJ)))) (am (cQ (i:=3) nd rfl (a7 rfl) (mZ aA))
   (am (cQ (i:=4) nd rfl (a7 rfl) (mZ aA))
   (am (mO Xq.leaving rfl (eY (dA (xD h e L4.nM (ai (pv 0) (ai (pv 1) (ai (pv 2) aA)))) rfl)) (su rfl (fC (bF (i:=5) nd rfl (a7 rfl)) (fC (bF (i:=6) nd rfl (a7 rfl)) (fC (bF (i:=7) nd rfl (a7 rfl)) om)))) (am (cQ (i:=8) nd rfl (a7 rfl) (sH (cX A9 (pv 6) g7 (ei _)) aY (kj gq (cM bX (pv 3) (pv 6) (λ_ _=>rfl)) aY)))
   (am (hV (sR VW VR VS ir (pv 3) (ai (pv 8) aA)))
   (aI (hV (sR VW VR VS ir (pv 4) (ai (cS (ai (cM bX (pv 5) aY (λ_ _=>rfl)) (ai (cM bX (pv 5) aY (λ_ _=>rfl)) (ai (pv 8) aA)))) aA)))))))
   (aI (cH (pv 4))))))
theorem sF(F:WL K "_law_prices" "_law_prices" (top 30) f fd)(e:mg "isinstance"=Th)(h:mg "tuple"=Th)(j:mg "len"=Th):FnOk P w K mg base dD 3 f fd ["_law_found","_law_text_here"] (dR K 2 d6):=kq (N:=["_law_found","_law_text_here","_law_prices_here","_law_ahead","_law_room"]) (g:=mE) F (by fail "sc") rfl rfl rfl λo A a s H E nd m b n l=>Dj (aG (cZ vA bv)
   (aG (cZ (aq aZ) bv)
   (aG (LD.adf aJ bv (aG (iJ (uu (iL (CD (G5 (EZ (by simp) aj)))) (uu (iL (eG (bG Ir (mG kF (aw aj aR)) aZ))) (uu (vI (zy (aq (FK oU aj sE (r9 aZ))) aJ)) (iL (eG (bG wg (bG cy aj aZ) aj)))))) (eO (aq iC)) eC)
   (aG (by fail "so")
   (pJ aJ (aq (FK oU aj sE (r9 aZ))) (aq (bG cy aj aZ))))))
   (eO aJ)))) (am (cQ (i:=2) nd rfl (a7 rfl) LD.abr)
   (am (cQ (i:=3) nd rfl (a7 rfl) aY)
   (am (LD.ad4 (mO Xq.never rfl (LD.ad5 (pv 0)) (bF (i:=4) nd rfl (a7 rfl)) (am (kJ (PW.pt (yZ (Au (xO (cW uR rfl e oo (ai (pv 4) (ai (Cv (v:=.ty "tuple") rfl h oB rfl) aA))))) (yZ (cX (F0 b) (cW gp rfl j k9 (ai (pv 4) aA)) aY (ei _)) (yZ (Bm (LD.ad7 b (t7 xH (pv 4) wa (vZ aY)) (pv 2)) (by with_unfolding_all rfl)) (AI (cX Cy (cM bX (pv 4) aY (λ_ _=>rfl)) (pv 3) (ei _))))))) (aI (cH g7)) gh)
   (am (by fail "te")
   (aI (LD.aaj b (pv 2) (t7 xH (pv 4) wa (vZ aY)) (cM bX (pv 4) aY (λ_ _=>rfl)) rfl))))))
   (aI (cH (pv 2))))))
theorem sG(F:WL K "_law_closed" "_law_closed" (top 31) f fd)(j:IT P w K mg base 8 "step" ["bed","standing","event"] 3 STP.lC)(l:ii P w K mg base 1 "_law_events" ["_law_bed_here"] 1 gB)(p:ii P w K mg base 1 "_law_done" ["_law_text_here","_law_done_here","_law_sent"] 3 i7)(m:mg "list"=Th)(e:mg "len"=Th):FnOk P w K mg base dD 9 f fd ["_law_bed_here","_law_text_here","_law_prices_here"] (dR K 3 fq):=kq (N:=["_law_bed_here","_law_text_here","_law_prices_here","_law_reached","_law_standing","_law_done_here","_law_price","_law_event","_law_sent","_law_there","_law_more"]) (g:=mw) F (by fail "sc") rfl rfl rfl λq A b s H E nd h a o n=>Dj (aG (cZ (J8 (aq (dQ (aw (dQ (aw (dQ aR) (aw iC (aw iC aR)))) (aw aZ aR)))) (aq u6)) bv)
   (aG (nJ (ox (Bp aJ)) (wU (jC bv (jC bv wN))) (aG (cZ (pH aJ (aq (dQ (aw aj (aw aj aR))))) bv)
   (nJ (sA (gZ (iA (aw aj aR)))) bv (aG (by fail "so")
   (aG (by fail "so")
   (iJ (iL (eG (bG rG aj iC))) (aG (iJ (gL (gY G9 (Bv aJ (aq (dQ (aw aj (aw aj aR)))) (aq (bG fW aj aZ))) (aq (bG fW aj aZ)))) (eO (aq u6)) eC)
   (iJ (gL (gY nr (pH aJ (aq (dQ (aw aj (aw aj aR))))) (aq (bG fW aj aZ)))) (pJ aJ (aq (dQ (aw aj (aw aj aR)))) (aq u6)) eC)) eC))))))
   (eO (gY nr (vv aJ) (vv aJ))))) (am (cQ (i:=3) nd rfl (a7 rfl) (LD.afc a (cS (ai (cS (ai (cS aA) (ai g7 (ai g7 aA)))) (ai aY aA))) vE))
   (am (mO Xq.never rfl (eY (fS (LD.ab1 rfl) rfl m xL (ai (pv 2) aA))) (su rfl (fC (bF (i:=4) nd rfl (a7 rfl)) (fC (bF (i:=5) nd rfl (a7 rfl)) om))) (am (cQ (i:=6) nd rfl (a7 rfl) (LD.aan a (pv 2) (cS (ai (pv 4) (ai (pv 5) aA))) (λ_ _=>rfl)))
   (aI (mO Xq.never rfl (eY (eX l h (ai (pv 0) aA))) (bF (i:=7) nd rfl (a7 rfl)) (am (by fail "te")
   (am (by fail "te")
   (aI (kJ (cX rF (pv 10) g7 (ei _)) (am (kJ (cX Mr (LD.acG a (pv 2) (cS (ai (pv 9) (ai (pv 10) aA))) (kj gq (pv 6) aY) ⟨rfl,rfl,rfl,rfl⟩) (kj gq (pv 6) aY) (ei _)) (aI (cH vE)) gh)
   (aI (kJ (cX (mS a) (LD.aan a (pv 2) (cS (ai (pv 9) (ai (pv 10) aA))) (λ_ _=>rfl)) (kj gq (pv 6) aY) (ei _)) (aI (LD.aaj a (pv 3) (cS (ai (pv 9) (ai (pv 10) aA))) vE rfl)) gh))) gh))))))))
   (aI (cH (lH (mS a) (cW LD.aal rfl e k9 (ai (pv 3) aA)) (cW LD.aal rfl e k9 (ai (pv 2) aA)) (ei _))))))
theorem Oe(F:WL K "law" "law" (top 33) f fd)(e:si P w K mg base (L4.lB P w) 10 "typing_rooms" ["bed","text","most"] [.int 400] (dR K 3 a8))(h:IT P w K mg base 3 "_law_prices" ["_law_found","_law_text_here"] 2 d6)(m:IT P w K mg base 9 "_law_closed" ["_law_bed_here","_law_text_here","_law_prices_here"] 3 fq)(q:IT P w K mg base 12 "_law_many" ["_law_bed_here","_law_text_here","_law_most"] 3 cU)(l:ii P w K mg base 3 "_law_bed" ["_law_script","_law_most"] 2 iM)(y:ii P w K mg base 1 "_law_cell" ["_law_script","_law_k"] 2 bf)(C:ii P w K mg base 1 "_law_draw" ["_law_cell_here","_law_salt","_law_many_here"] 3 aH)(o:ii P w K mg base 2 "_law_three" ["_law_script"] 1 eP)(r:ii P w K mg base 2 "_law_text" ["_law_script"] 1 iX)(t:mg "isinstance"=Th)(u:mg "list"=Th)(v:mg "len"=Th):FnOk P w K mg base dD 13 f fd ["_law_script"] (dR K 1 F_law):=kq (N:=["_law_script","_law_bed_here","_law_text_here","_law_found","_law_prices_here","_law_fewer"]) (g:=MF) F (by fail "sc") rfl rfl rfl λB A b s H E nd a j p n=>Dj (aG (by fail "so")
   (aG (by fail "so")
   (aG (by fail "so")
   (aG (cZ (tU (λ_ _=>(.cons (.int _) .nil)) (aQ (aq aj) (aQ (aq aj) cI))) bv)
   (aG (by fail "so")
   (aG (cZ (lX (aQ aJ (aQ (aq aj) cI))) bv)
   (aG (iJ (uu (vI (GN aJ)) (Du (vI (lX (aQ (aq aj) (aQ (aq aj) (aQ aJ cI))))))) (eO (aq u6)) eC)
   (aG (by fail "so")
   (aG (cZ (tU (λ_ _=>(.cons (.int _) .nil)) (aQ (aq aj) (aQ (aq aj) cI))) bv)
   (aG (iJ (vI (Ff (lX (aQ aJ (aQ (aq aj) cI))) aJ)) (eO (aq u6)) eC)
   (aG (by fail "so")
   (by fail "so")))))))))))) (am (by fail "te")
   (am (by fail "te")
   (am (by fail "te")
   (am (cQ (i:=3) nd rfl (a7 rfl) (xD e a HK (ai (pv 1) (ai (pv 2) aA))))
   (am (by fail "te")
   (am (cQ (i:=4) nd rfl (a7 rfl) (eX h a (ai (pv 3) (ai (pv 2) aA))))
   (am (kJ (PW.pt (yZ (cX A9 (pv 4) g7 (ei _)) (AI (Au (xO (eX m a (ai (pv 1) (ai (pv 2) (ai (pv 4) aA))))))))) (aI (cH vE)) gh)
   (am (by fail "te")
   (am (cQ (i:=3) nd rfl (a7 rfl) (xD e a HK (ai (pv 1) (ai (pv 2) aA))))
   (am (kJ (cX (LD.ael j) (eX h a (ai (pv 3) (ai (pv 2) aA))) (pv 4) (ei _)) (aI (cH vE)) gh)
   (am (by fail "te")
   (aI (by fail "te")))))))))))))
end
end K71
namespace L2
open PySem PySem.Spec PyProof.Rows
section
variable{Z:St}{H:Hp}{Q:VK}{D:Ends}
theorem Lq{K:Tg}{e b:TE}{f:Str}(h:b Z H λy H1=>e Z H1 λx H2=>∃a C dx fs,x=.ref a/\H2 a=lD (.ins C dx fs)/\Cls K C/\XM K C f/\fs.length<1000/\D.nx Z (bq H2 a (.ins C dx (jb f y fs)))):Oj K e b f D Z H:=h
theorem OS{c:TT}{t u:TE}(h:c Z H λb H1=>if b=To then t Z H1 Q else u Z H1 Q):RJ c t u Z H Q:=h
theorem P1{K:Tg}{b:TE}{f:Str}(h:b Z H λx H1=>∃a C dx fs v,x=.ref a/\H1 a=lD (.ins C dx fs)/\Cls K C/\XM K C f/\fs.lookup f=lD v/\Q v H1):PH K b f Z H Q:=h
theorem KG{C:Tt}{m:Str}{sp:Sp}{E:XK}{b:TE}{t:TA}(h:b Z H λx H1=>∃a dx fs,x=.ref a/\H1 a=lD (.ins C dx fs)/\fs.lookup m=Th/\t Z H1 λvs H2=>sp (x::(vs++[])) H2 Q E):vT C m sp [] E b t Z H Q:=h
theorem JH{C:Tt}{sp:Sp}{E:XK}{t:TA}(h:t Z H λvs H1=>∀x dx,H1 x=Th->H1 dx=Th->dx≠x->sp (.ref x::(vs++[])) (bq (bq H1 dx (.own x)) x (.ins C dx [])) (λv H2=>v=.V8/\Q (.ref x) H2) E):zB C sp [] E t Z H Q:=h
end
end L2
local macro_rules| `(tactic|fail "gh")=> `(tactic|repeat (first
 |specialize L2.Ou ?_
 |specialize L2.ajE ?_
 |specialize L2.Lq ?_
 |specialize L2.OS ?_
 |specialize L2.P1 ?_
 |specialize L2.KG ?_
 |specialize L2.JH ?_
 |specialize L2.ahV ?_
 |((with_reducible show L2.uF _ _ _ _);refine⟨_,rfl,?_⟩)
 |specialize L2.RU ?_
 |specialize L2.alo ?_
 |specialize L2.akN ?_
 |specialize L2.ak5 ?_
 |specialize L2.ant ?_
 |((specialize L2.anT ?_ ?_);first|exact⟨by decide,by decide⟩|exact⟨by decide,by decide,by decide⟩|exact(show(0:Int)<_ by decide)|exact⟨by decide,by left⟩)
 |((specialize L2.ak9 ?_ ?_);exact rfl)
 |((specialize L2.alA ?_ ?_);exact rfl)
 |specialize L2.NL ?_
 |specialize L2.LK ?_
 |specialize L2.ajo ?_
 |specialize L2.ahz ?_
 |specialize L2.ahn ?_
 |specialize L2.ahR ?_
 |specialize L2.ahQ ?_
 |specialize L2.alZ ?_
 |specialize L2.alv ?_
 |specialize L2.aiK ?_
 |specialize L2.alB ?_
 |specialize L2.aj8 ?_
 |specialize L2.ahG ?_
 |specialize L2.ajb ?_
 |specialize L2.aic ?_
 |specialize L2.Oi ?_
 |specialize L2.Kb ?_
 |specialize L2.Q8 ?_
 |specialize L2.LZ ?_
 |specialize L2.OJ ?_
 |specialize L2.ajL ?_
 |specialize L2.alz ?_
 |specialize L2.ak0 ?_
 |specialize L2.af4 ?_
 |specialize L2.aie ?_
 |specialize L2.aj7 ?_
 |specialize L2.agv ?_
 |specialize L2.agW ?_
 |specialize L2.ah1 ?_
 |specialize L2.aid ?_
 |specialize L2.aiV ?_
 |specialize L2.ah7 ?_
 |specialize L2.ah3 ?_
 |specialize L2.ag5 ?_
 |specialize L2.ahI ?_
 |specialize L2.agE ?_
 |specialize L2.aih ?_
 |specialize L2.ahT ?_))
namespace K71
open PySem L2
section
open L3 L4
variable{P:T5}{w:Uu}{K:Tg}{mg:Str->br Ti}{base:Heap}{f:Tt}{fd:UO}
theorem mj:Wb ["self","most"] ["self","most"] (aB (bj (top 13) 0)):=⟨rfl,rfl,rfl,by left,rfl,by left,by left⟩
theorem DU{C B fI:Tt}(F:WL K "__init__" "TooMany.__init__" (bj (top 13) 0) f fd)(o:L9.XC K C B fI)(l:mg "BedError"=lD (.ref B))(g:ZM K B (.type "type")=To)(m:ZN K (.ref B) (.type "type") "__init__"=lD (.val (.builtin "ValueError.__init__")))
  (b:WM K (.ref B) "__getattribute__"=lD (lD (.builtin "type.__getattribute__"))) (j:Us K (.ref C) "most"=lD Th):FnOk P w K mg base dD 1 f fd ["self","most"] (L9.xJ C "most"):=by
 refine F.ok mj (λvs H Q E h=>?_) (λu A a s H vs Q E t h=>?_)
 .obtain⟨_,_,rfl,_⟩:=h;rfl
 obtain⟨e,v,rfl,r,n,q⟩:=h;refine⟨_,(am (hV (L9.EX rfl l g m b o (ai (pv 0) (ai (L9.K0 (L9.OH (by decide) (L9.Ov (pv 1) L9.NU)) (by decide)) aA)))) (aI (L9.Lp o j (pv 0) (pv 1) rfl))),?_⟩;fail "gh";refine⟨V.ref e,rfl,v,rfl,r,λy=>⟨e,y,rfl,n,?_⟩⟩;exact⟨v,rfl,V.ref e,rfl,e,rfl,n,λp j i=>q p j i⟩
end
end K71
namespace L4
open PySem PySem.Spec PySem.W PyProof.Rows L2 L3
theorem Hd{X:Cx}{y:L2.St}{E2:XK}{K:Tg}{P:T5}{w:Uu}{mg:Str->br Ti}{base:Heap}{k j:Nat}{x:Str}{ps:bg Str}{sp:Sp}{e:UD}{es:bg UD}{t:TA}{p a:Pos}(n:X.ex=[])(C:si P w K mg base (L4.lB P w) k x ps [] sp)(hP:X.prog=P)(Z:X.w=w)(hK:X.K=K)(hm:X.mg=mg)(J:X.base=base)(hr:VU j X.A)(ha:PA (X.YI (wM X y E2)) (e::es) t)(B:k<=j:=by decide)(hg:Gl X x:=by rfl)
  (G:(x==("__debug__":Str))=Tw:=by decide) (he:Uc (e::es) X.env=(Tw,eval e X.env)::Uc es X.env:=by rfl) (ZH:(backTo a (Uc es X.env)).any (·.1)=Tw:=by rfl):
  PE (X.YI (wM X y E2)) (.Call (.Name x p) (e::es) [] a) (λσ' H Q=>σ'=y/\kg sp [] E2 t σ' H Q):=by
 subst hP Z hK hm J;obtain⟨f,fd,dsv,O,b,E,Y,m⟩:=C;cases E;rintro i s _ H Q I ⟨rfl,h⟩;refine Wf (jM I hg m ?_ G);refine Xr (h₀:=X.base) I.ok.mod.kin Y (cz (ha a i s _ H _ I h) λg M ⟨vs,H1,v,r,q⟩=>⟨v.Yu,?_⟩) he ZH;have N:Vals (vs++[]) (g++[]):=r.append .nil;have hl:(g++[]).length=ps.length:=by rw[<-N.length];exact O.len _ _ _ _ q
 refine X7 (XS (O.run X.A X.stack M H1 ⟨g,[]⟩ (g++[]) (vs++[]) _ E2 (hr.mono B) v.aed (b M g v.Yu hl) N q) λr s' l=>?_);cases r with
 |error ex=>obtain⟨e,c,dx,a0,T,H',rfl,le,U,F,ne,S,R,o,un,UW,q⟩:=l;have L:=v.Xw;have I':=L.adp (ch:=[]) R un UW o (λb z=>nomatch z);exact⟨H',e,c,dx,a0,T,rfl,I'.aaY (λp z=>nomatch z),F,tE L n le,tE L n U,ne,S,q⟩
 |ok fl=>
  cases fl with
  |ret u=>exact v.after l
  |next=>exact False.elim l
  |brk=>exact False.elim l
  |cont=>exact False.elim l
theorem KB{X:Cx}{st:bg VH}{b:L2.St}{t t':TS}(h:Zl X st t')(k:∀D H,t D b H->t' D b H):Qf X st b t:=λa s H D I q=>h a s b H D I (k D H q)
end L4
namespace K71
open PySem L2
section
variable{P:T5}{w:Uu}{K:Tg}{mg:Str->br Ti}{base:Heap}{f:Tt}{fd:UO}
theorem nX:Wb ["_law_bed_here","_law_text_here","_law_most","e"] ["_law_bed_here","_law_text_here","_law_most"] (aB (top 29)):=⟨rfl,rfl,rfl,by left,rfl,by left,by left⟩
theorem xK{C:Tt}{m:bg Ti}(F:WL K "_law_many" "_law_many" (top 29) f fd)(W2:L3.si P w K mg base (L4.lB P w) 10 "typing_rooms" ["bed","text","most"] [] (L10.dR K 3 a8))
  (YD:mg "TooMany"=lD (.ref C)) (L:L4.abY K C m) (bR:m.contains (.type "BaseException")=To) (nR:T7 K TZ "TooMany"=lD (lD (.ref C))) (hh:V9 K C=To) (J:Us K (.ref C) "most"=lD Th) (Vv:mg "len"=Th):
  FnOk P w K mg base dD 12 f fd ["_law_bed_here","_law_text_here","_law_most"] (L10.dR K 3 cU):=by
 refine F.ok nX (λvs H Q E h=>h.1) (λU8 A O s H vs Q E hr h=>?_);have hu:=hr.units;obtain⟨hl,B,α,Z,xs,so,hv,g⟩:=h;have T:=L.cl;obtain⟨Y,X,U,rfl⟩:∃Y X U,vs=[Y,X,U]:=by
  match vs,hl with
  |[a,b,c],_=>exact⟨a,b,c,rfl⟩
 obtain⟨E2,y⟩:∃E2:XK,E2=λc dx u=>∃j k o,L10.Vd α Z H j o u/\L10.StoOk B K u j o/\c=.ref C/\(∃p fs,dx=lD p/\u p=lD (.xd fs)/\fs.lookup ("most":Str)=lD (.int k))/\L10.WS K E B H α Z (L10.PQ B K Q) (.ok (.fz (.tuple [.str "many",.int k])) o):=⟨_,rfl⟩;refine⟨_,(aI (L4.KF (i:=3) (E2:=E2) (tb:=Hu (yG (λxs H Q=>∃x n,xs=[x]/\Ku K x H n/\Q (.int n) H) (fy (kg (L10.dR K 3 a8) [] E2 (fy (uF 0) (fy (uF 1) (fy (uF 2) jK)))) jK))) rfl nX.nd rfl rfl rfl YD T bR rfl rfl
   (λl σ=>by exact L4.KB (aI (cH (cW gp rfl Vv k9 (ai (L4.Hd rfl W2 rfl rfl rfl rfl rfl hr (ai (pv 0) (ai (pv 1) (ai (pv 2) aA)))) aA)))) λD H q=>And.intro rfl q)
   (λl e=>by refine aI (cH (cS (ai fL (ai (te:=L9.Mz K (uF 3) "most") ?_ aA))));refine L9.K9 (pv 3) ?_;rfl)
   (λc dx u h=>by rw[y]at h;obtain⟨_,_,_,_,_,h,_⟩:=h;exact⟨C,m,h,T,by rw[XB,dN,WW]⟩))),?_⟩
 unfold cU at g;unfold L4.MZ;refine⟨?_,λc dx u N e I he M hd hn=>?_⟩
 .fail "gh"
  refine L10.zi so hv (F:=a8) (n:=3) ?_;cases q:L10.k6 a8 3 xs Z with
  |bad=>rw[q]at g;exact g.elim
  |ok x o=>
   rw[q]at g;cases x with
   |fz d=>exact g.elim
   |tp l=>exact g.elim
   |rf i=>
    dsimp only at g;cases qi:o[i]? with
    |none=>rw[qi]at g;exact g.elim
    |some c=>
     rw[qi]at g;cases c with
     |lst ys=>intro j H' t r v R;obtain⟨a,ha,rfl⟩:=R;obtain⟨zs,h1,N⟩:=r.ZU i a _ ha qi;refine⟨.ref a,ys.length,rfl,.inl ⟨zs,.inl (.inl h1),N.length.symm⟩,?_⟩;exact g j H' t r (.int _) (.int _)
     |_=>exact g.elim
  |er x o=>
   rw[q]at g;obtain⟨xc,xf⟩:=x;dsimp only at g;by_cases M:xc= "TooMany"
   case neg=>rw[ax M]at g;exact g.elim
   subst M;rw[av rfl]at g;split at g
   .rename_i f k
    by_cases hf:f=("most":Str)
    case neg=>rw[ax hf]at g;exact g.elim
    subst hf;rw[av rfl]at g;rintro c dx j H' t r ⟨⟨a',e1,e2⟩,fs,g2,g3⟩;obtain⟨nn,v,k1,k2⟩:=g3 "most" (.int k) rfl;have e3:=nR.symm.trans e2;cases e3;cases k2;rw[y];cases dx with
    |none=>exact a6 rfl nn
    |some p=>exact⟨j,k,o,t,r,e1,⟨p,fs,rfl,g2 p rfl,k1⟩,g⟩
   .exact g.elim
 .rw[y]at N;obtain⟨j,k,o,t,r,rfl,⟨p,fs,rfl,hx,S⟩,w2⟩:=N;have G:Vp u (bq u e (.frz I (.own e))):=bO he _;have eE:(bq u e (.frz I (.own e))) e=lD (.frz I (.own e)):=aF;generalize bq u e (.frz I (.own e))=H2 at G eE;fail "gh";refine⟨.ref e,rfl,e,I,C,m,p,fs,.int k,rfl,eE,M,hd,hn,L,hh,J,G _ _ hx,S,?_⟩;fail "gh";refine⟨Tq rfl,λp J=>?_⟩;have s3:Vp H2 (bq H2 p (.tup [.str "many",.int k])):=bO J _;exact w2 j _ (t.trans (L10.Vd.same (G.trans s3))) (r.grow (G.trans s3)) _ (.tup ⟨.inl (.inl aF),λz=>a6 J ((r.grow G).owd p z)⟩ (.cons (.str _) (.cons (.int _) .nil)))
end
end K71
theorem SM{α:Type}:∀{l:bg α},l.length=1->∃a,l=[a]
 |[a],_=>⟨a,rfl⟩
theorem SY{α:Type}:∀{l:bg α},l.length=2->∃a b,l=[a,b]
 |[a,b],_=>⟨a,b,rfl⟩
theorem SE{α:Type}:∀{l:bg α},l.length=3->∃a b c,l=[a,b,c]
 |[a,b,c],_=>⟨a,b,c,rfl⟩
theorem SZ{α:Type}:∀{l:bg α},l.length=4->∃a b c d,l=[a,b,c,d]
 |[a,b,c,d],_=>⟨a,b,c,d,rfl⟩
local macro_rules| `(tactic|fail "ba")=> `(tactic|(intro _ _ _ _ _ _ us hl;first|(obtain⟨_,h⟩:=SM hl;subst h;rfl)|(obtain⟨_,_,h⟩:=SY hl;subst h;rfl)|(obtain⟨_,_,_,h⟩:=SE hl;subst h;rfl)|(obtain⟨_,_,_,_,h⟩:=SZ hl;subst h;rfl)|(match us,hl with|[_,_,_,_,_],_=>rfl)|(match us,hl with|[],_=>rfl)))| `(tactic|fail "bd")=> `(tactic|(intro _ _ _ _ _ _ us hl;first|((have h1:us.length=1:=by simpa using hl);obtain⟨_,h⟩:=SM h1;subst h;exact⟨_,rfl,rfl⟩)|((have h1:us.length=2:=by simpa using hl);obtain⟨_,_,h⟩:=SY h1;subst h;exact⟨_,rfl,rfl⟩)|((have h1:us.length=3:=by simpa using hl);obtain⟨_,_,_,h⟩:=SE h1;subst h;exact⟨_,rfl,rfl⟩)|((have h1:us.length=4:=by simpa using hl);(match us,h1 with|[_,_,_,_],_=>exact⟨_,rfl,rfl⟩))))| `(tactic|fail "fl")=> `(tactic|first|exact List.forall_mem_nil _|(refine List.forall_mem_cons.mpr ⟨?_,?_⟩;(·(show Us _ _ _=_;k_is));fail "fl"))| `(tactic|fail "ki")=> `(tactic|first|(refine' L3.NI.mk ?a' ⟨_,L2.Iv ?b' ?c' ?d'⟩;(case a'=>k_is);(case b'=>k_is);(case c'=>k_is);(case d'=>k_is))|(refine' L3.MI.mk ?a' ?e' ⟨_,L2.Iv ?b' ?c' ?d'⟩;(case a'=>k_is);(case e'=>k_is);(case b'=>k_is);(case c'=>k_is);(case d'=>k_is))|(refine' L3.CI.mk ?a' ?b' ?c' ?d' ?e' ?f' ?g' ?i';(case a'=>k_is);(case b'=>k_is);(case c'=>k_is);(case d'=>k_is);(case e'=>k_is);(case f'=>k_is);(case g'=>k_is);(case i'=>fail "fl"))|(refine' L3.DI.mk ?a' ⟨_,L3.J4 ?b' ?c' ?d' ?e'⟩;(case a'=>k_is);(case b'=>k_is);(case c'=>k_is);(case d'=>k_is);(case e'=>k_is))|k_is|k_exc|rfl|left|(rw[<-ac6];rfl))
namespace K71
open PySem L2 L3
def F_lawH:FN:=L10.Rg F_law
theorem all_mk{l:acN}{w:Uu}{K:Tg}{h:Heap}{mg:Str->br Ti}{fa:Tt}
  {adu:Tok}
  {Yz:Tt} {aej:Nat} {aec:Array (br Ti)}
  {acJ:Tok}
  {VP:Tt} {adx:Nat} {ado:Array (br Ti)}
  {Yv:Tt} {aaU:Nat} {aaP:Array (br Ti)}
  {XZ:Tt} {ab9:Nat} {abW:Array (br Ti)}
  {aam:Tt} {XF:Tok}
  {f0 f1 f2 f3 f4 f5 f6 f7 f8 f9 f10 f11 f12 f13 f14 f15 f16 f17 f18 f19 f20 b f22 f23 f24 f25 f26 f27 f28 f29 f30 f31 f32 f33 f34 f35 q f37 f38 p:Tt}
  {g m:Tt}
  {nmR qR:Str} {Y:Tt} {bsR:bg Ti} {snR:bg Str} {akg:bg Ti} {abR:Bool} {ajg:br Bool} {ddR:br Tt} {k0R k1R k2R k3R k5R:br Ti}
  {ocN:Ti} {odN:br Tt} {y:Array VN} {nN:Nat} {slN:Array (br Ti)} (X:K.In h) (G:h.Ns TZ mg) (hfa:mg "law"=lD (.ref fa))
  (h0:NI K f0 "layer_of" (top 5))
  (h1:NI K f1 "looked_up" (top 8))
  (h2:NI K f2 "chords_over" (top 9))
  (h3:NI K f3 "chord_acts" (top 10))
  (h4:NI K f4 "_law_cell" (top 22))
  (h5:NI K f5 "_law_draw" (top 23))
  (h6:NI K f6 "_law_meaning" (top 24))
  (h7:NI K f7 "_law_bed" (top 25))
  (h8:NI K f8 "_law_three" (top 32))
  (h9:NI K f9 "_law_text" (top 26))
  (h10:NI K f10 "_law_events" (top 27))
  (h11:NI K f11 "_law_done" (top 28))
  (h12:NI K f12 "events_of" (top 15))
  (h13:NI K f13 "done_behind" (top 20))
  (h14:NI K f14 "step" (top 6))
  (h15:NI K f15 "places_on" (top 19))
  (u:DI K f16 aam "typing_rooms" (top 18) #[.int 400 XF])
  (h17:NI K f17 "_law_prices" (top 30))
  (h18:NI K f18 "_law_closed" (top 31))
  (h19:NI K f19 "_law_many" (top 29))
  (h20:NI K f20 "law" (top 33))
  (a:CI K b "Hand" ["bed","acts","waiting","once","sent"])
  (h22:MI K b f22 "__init__" "Hand.__init__" (bj (top 7) 0))
  (h23:MI K b f23 "stands" "Hand.stands" (bj (top 7) 1))
  (h24:MI K b f24 "is_waiting" "Hand.is_waiting" (bj (top 7) 2))
  (h25:MI K b f25 "has_act" "Hand.has_act" (bj (top 7) 13))
  (h26:MI K b f26 "come" "Hand.come" (bj (top 7) 11))
  (h27:MI K b f27 "go" "Hand.go" (bj (top 7) 12))
  (h28:MI K b f28 "decide" "Hand.decide" (bj (top 7) 10))
  (h29:MI K b f29 "makes_chord" "Hand.makes_chord" (bj (top 7) 4))
  (h30:MI K b f30 "put_to_chord" "Hand.put_to_chord" (bj (top 7) 5))
  (h31:MI K b f31 "begin" "Hand.begin" (bj (top 7) 6))
  (h32:MI K b f32 "press" "Hand.press" (bj (top 7) 3))
  (h33:MI K b f33 "settle" "Hand.settle" (bj (top 7) 8))
  (h34:MI K b f34 "lift" "Hand.lift" (bj (top 7) 7))
  (h35:MI K b f35 "wait_on" "Hand.wait_on" (bj (top 7) 9))
  (o:CI K q "Places" ["most","found","numbers"])
  (h37:MI K q f37 "enter" "Places.enter" (bj (top 16) 1))
  (h38:MI K q f38 "__init__" "Places.__init__" (bj (top 16) 0))
  (YX:T7 K TZ "TooMany"=lD (lD (.ref g)))
  (abq:T7 K TZ "BedError"=lD (lD (.ref m)))
  (xR:K.lookup g=lD (excClassObj nmR qR g Y bsR (.ref m::[.type "ValueError",.type "Exception",.type "BaseException",.type "object"]) To snR akg abR ajg ddR k0R k1R k2R k3R k5R "ValueError.__new__"))
  (eI:YL K m [.type "ValueError",.type "Exception",.type "BaseException",.type "object"] "ValueError.__new__"=To)
  (lN:K.lookup Y=lD ⟨ocN,odN,.dict y nN,slN⟩)
  (n:(y.all λe=>match e.key with|.str _ _=>To|_=>Tw)=To)
  (inN:T7 K Y "__init__"=lD (lD (.ref p)))
  (saR:Us K (.ref g) "__setattr__"=lD (lD (.builtin "object.__setattr__")))
  (r:Us K (.ref g) "most"=lD Th)
  (rdB:ZM K m (.type "type")=To)
  (fcB:ZN K (.ref m) (.type "type") "__init__"=lD (.val (.builtin "ValueError.__init__")))
  (spB:WM K (.ref m) "__getattribute__"=lD (lD (.builtin "type.__getattribute__")))
  (gaR:Us K (.ref g) "__getattribute__"=lD (lD (.builtin "BaseException.__getattribute__")))
  (gtR:Us K (.ref g) "__getattr__"=lD Th)
  (csR:Us K (.ref g) "__class__"=lD (lD (.builtin "object.__class__")))
  (obR:adF K g (.type "object")=lD To)
  (hdR:V9 K g=To)
  (t:MI K g p "__init__" "TooMany.__init__" (bj (top 13) 0))
  (ad2:T7 K TZ "NONE"=lD (lD (.ref Yz)))
  (adB:T7 K TZ "CHORD"=lD (lD (.ref VP)))
  (ab3:T7 K TZ "AT_REST"=lD (lD (.ref XZ)))
  (abO:K.lookup XZ=lD ⟨.type "tuple",Th,.seq #[.ref Yv,.none,.none] ab9,abW⟩)
  (aaV:K.lookup Yv=lD ⟨.type "tuple",Th,.seq #[] aaU,aaP⟩)
  (ac9:K.lookup VP=lD ⟨.type "tuple",Th,.seq #[.str "chord" acJ] adx,ado⟩)
  (ad9:K.lookup Yz=lD ⟨.type "tuple",Th,.seq #[.str "none" adu] aej,aec⟩)
  (y0:T7 K TZ "max"=lD Th)
  (y1:T7 K TZ "all"=lD Th)
  (y2:T7 K TZ "list"=lD Th)
  (y3:T7 K TZ "sorted"=lD Th)
  (y4:T7 K TZ "len"=lD Th)
  (y5:T7 K TZ "range"=lD Th)
  (y6:T7 K TZ "tuple"=lD Th)
  (y7:T7 K TZ "dict"=lD Th)
  (y8:T7 K TZ "zip"=lD Th)
  (y9:T7 K TZ "isinstance"=lD Th):
  ∃fd:UO,(∀(s:Tv) (v:Ti),YS s fd ⟨[v],[]⟩ [("_law_script",v)])/\∀base:Heap,K.In base->base.Ns TZ mg->FnOk l.prog w K mg base dD 13 fa fd ["_law_script"] (L3.qC K 1 F_lawH):=by
 have A:=U1 X G y0;have adj:=U1 X G y1;have M:=U1 X G y2;have Yx:=U1 X G y3;have j:=U1 X G y4;have N:=U1 X G y5;have S:=U1 X G y6;have ac8:=U1 X G y7;have aeK:=U1 X G y8;have WQ:=U1 X G y9;have I:=KH (xs:=[.str "none"]) (ds:=[(.str "none")]) ad9 (by show 1<=TL;decide) (.cons ⟨_,rfl⟩ .nil) λO H=>(.cons (.str _) .nil);have J:=KH (xs:=[.str "chord"]) (ds:=[(.str "chord")]) ac9 (by show 1<=TL;decide) (.cons ⟨_,rfl⟩ .nil) λO H=>(.cons (.str _) .nil);have abn:=KH (xs:=[]) (ds:=[]) aaV (by show 0<=TL;decide) .nil λO H=>.nil;have Zq:=KH (xs:=[.ref Yv,.V8,.V8]) (ds:=[(.tuple []),.none,.none]) abO (by show 3<=TL;decide) (.cons rfl (.cons rfl (.cons rfl .nil))) λO H=>(.cons (abn O H) (.cons .V8 (.cons .V8 .nil)));have E:=Vu X G ad2;have L:=Vu X G adB;have Zt:=Vu X G ab3;refine h20.law X G hfa (by fail "ba") λbase fd ae3=>?_;have W:Tp l.prog w K mg base h:=⟨X,G⟩;have Yb:=h0.c W λ_ z=>yS z A;have ZF:=h1.c W λ_ z=>vW z;have VT:=h2.c W λ_ z=>sT z adj;have Zd:=h3.c W λ_ z=>uM z M Yx j E I;have T:=h4.c W λ_ z=>xI z j;have R:=h5.c W λ_ z=>xT z;have Xv:=h6.c W λ_ z=>rh z R A;have aah:=h7.c W λ_ z=>yt z T R Xv N S j;have Zg:=h8.c W λ_ z=>uz z T R N S;have ZG:=h9.c W λ_ z=>wx z T R N;have XN:=h10.c W λ_ z=>sV z M N;have ZD:=h11.c W λ_ z=>wH z;have Yy:=h12.c W λ_ z=>wu z N;have XO:=h13.c W λ_ z=>tO z j;have f:=a.cf;have Q:=o.cf;have n:aae K Y=To:=by unfold aae;rw[lN];exact n
 have XR:L4.BI K g (.ref m::[.type "ValueError",.type "Exception",.type "BaseException",.type "object"]):=⟨_,_,_,_,_,_,_,_,_,_,_,_,_,_,_,_,xR⟩;have LR:L4.abY K g (.ref m::[.type "ValueError",.type "Exception",.type "BaseException",.type "object"]):=⟨XR,rfl,gaR,gtR,csR,obR⟩;have B:L9.XC K g m p:=⟨⟨_,_,_,_,_,_,_,_,_,_,_,_,_,_,xR,n,inN⟩,eI,saR⟩;have YD:=Vu X G YX;have abV:=Vu X G abq;obtain⟨fdI,Z⟩:=t.F;obtain⟨_,_,_,_,_,_,_,_,_,rfl,YZ,_⟩:=Z.ex;have YY:=t.i;have YV:=DU (P:=l.prog) (w:=w) (mg:=mg) (base:=base) Z B abV rdB fcB spB r;have YW:=Z.binds (ps:=["self","most"]) (by fail "ba");have acp:=h22.k a W λ_ z=>pQ z f ac8;have VY:=h23.mt a W λ_ z=>ug z f S Yx;have V6:=h24.mt a W λ_ z=>nt z f;have WE:=h25.mt a W λ_ z=>qV z f M;have Wr:=h26.mt a W λ_ z=>ww z f WE;have aao:=h27.mt a W λ_ z=>AW z f WE;have U:=h28.mt a W λ_ z=>tH z f Wr Zd aeK L J;have Xl:=h29.mt a W λ_ z=>mi z f VY Yb VT L J;have Xf:=h30.mt a W λ_ z=>kY z f U VT j L J;have YQ:=h31.mt a W λ_ z=>uC z f VY Wr Yb ZF VT L J E I;have YR:=h32.mt a W λ_ z=>uL z f V6 Xl Xf U YQ;have Yw:=h33.mt a W λ_ z=>sW z f U Wr L J;have Zc:=h34.mt a W λ_ z=>xQ z f V6 Yw aao;have Yd:=h35.mt a W λ_ z=>qX z f U;have C:=h14.c W λ_ z=>LW z f acp Yd YR Zc VY;have VJ:=h37.mt o W λ_ z=>qW z Q B YZ YY YV YW YX YD j;have Zr:=h38.k o W λ_ z=>nF z Q VJ;have W7:=h15.d W λ_ z=>xW z Q Zr VJ C Yy XO j Zt Zq;have Wo:L3.si l.prog w K mg base (L4.lB l.prog w) 10 "typing_rooms" ["bed","text","most"] [.int 400] (L10.dR K 3 a8):=u.c (ds:=[.int 400 XF]) (dvs:=[.int 400]) W (.cons ⟨_,rfl⟩ .nil) λ_ z=>j9 z Q W7;have W2:L3.si l.prog w K mg base (L4.lB l.prog w) 10 "typing_rooms" ["bed","text","most"] [] (L10.dR K 3 a8):=u.c (ds:=[]) (dvs:=[]) W .nil λ_ z=>j9 z Q W7;have W9:=h17.c W λ_ z=>sF z WQ S j;have XQ:=h18.c W λ_ z=>sG z C XN ZD M j;have ZI:=h19.c W λ_ z=>xK z W2 YD LR rfl YX hdR r j;exact(Oe ae3 Wo W9 XQ ZI aah T R Zg ZG WQ M j).imp (λ_ _ _ _ h=>L10.Oy h)
end K71
inductive PySem.W.Fast|tw9867169713437259771|tw7648288305864412130|tw6065220217517998142|tw4555207238593652566|tw15600124378323081021|tw2032254375139671290|tw9937993946763226639|tw8178613889031382997|tw3413957609678060575|tw4237833144278842785|tw621682399082449363|tw12830191936237781088|tw7747061495634205168|tw12965069927864242137|tw3949471131600715005|tw6672914480791968422|tw5018690552424511734|tw4610625070051303376|tw17939930412442328530|tw6064591267169684401|tw14696240278226299599|tw7339355436029211688|tw9995376622316791570|tw8003639590895374744|tw237910288057116919|tw9339327538740243326|tw3448542245401435261|tw2045951315209549889|tw6204830313945451573|tw13244389518574152899|tw15404620353946886066|tw12747558182104121949|tw13557063391353794930|tw5842622929004627117|tw16123198830248605070|tw4909392963642178841|tw12027127417812430693|tw17236838880644943526|tw9160075572345908481|tw6544499940489149153|tw4596615257026620413|tw4623326560211170827|tw12972919452351657535|tw17030544501858686990|tw12247868478928252719|tw17092316707231994966|tw7226133477937143173|tw13794159549165005822|tw1475099771910395667|tw11847067837882659532|tw9767569350124158356|tw13660261937668431521|tw3493767497820708059|tw753432433129818167|tw10016339147500287982|tw4262048778351822739|tw6059216830405833911|tw1703052295873865904|tw15911304678231367250|tw2877425228165653993|tw17838665942809634250|tw5253693034244064998|tw5464276489883355259|tw657714510006123863|tw7162125861650667399|tw17832272078910577259|tw10256397342476445030|tw3556755695377798720|tw13345499214153548166|tw8846451317612049508|tw2179800189270891374|tw9668652829455806136|tw9230646974765390623|tw8821969436152405128|tw17455673263823010727|tw14133355189556468382|tw272675359319657278|tw17406894778568570780|tw895008549184247734|tw11207018817274952248|tw8820030358261431415|tw8555764876617798347|tw7891509465213183225|tw8134660455020327109|tw3023701112560972172|tw12250365979972477952|tw17549317107675684211|tw15104017674164099699|tw6106869761115332366|tw14416156402602899293|tw57530491395565515|tw8403537764729869944|tw6363184032294081720|tw6308945998887765392|tw4307856333505762383|tw2597328456328768434|tw17698272076724287977|tw405150235283680210|tw7989497587914335625|tw14998682592653073766|tw1712973429644673239|tw15376211016913342616|tw2647293121270472965|tw18218996671244132654|tw17110021324598133128|tw2925191977798636019
open PySem PySem.W PyProof.Rows
set_option maxRecDepth 100000 in
set_option maxHeartbeats 0 in
theorem PySem.Challenge.cw_chordbed_k71_typing_rooms_holds : PySem.Challenge.rw_chordbed_k71_typing_rooms.Holds := by
 w_on;o_law;k_head;(case hw=>w_witness2)
 k_fill
 refine L3.Q9 (l:=PySem.Challenge.rw_chordbed_k71_typing_rooms) (n:=63) (k:=13) (x:= "_law_script") (F:=K71.F_lawH) rfl (by decide) rfl ⟨rfl,by decide,by decide⟩ (λw h Y=>PySem.W.kIn_of Y) ?F K71.main
 case F=>
  intro w e f h b G a
  apply K71.all_mk b G a
  all_goals fail "ki"
