import PyProof.Rows.All
import Wide.All
import OpenK.AllK
import Wide.FinOn
import Lean
import PyProof.EqAt
import PyProof.EqKinds
import PyProof.TupleCall
import KE.KIntText
import KE.KRevSl
import PyProof.Rows.SeqMore
import PyProof.WalkInts
import PyProof.Rows.MinMaxN
import PyProof.ExcInit
import OpenK.KMake
import PyProof.InstStoreFacts
import PyProof.FString2
import PyProof.Rows.FStr
import PyProof.Rows.SetFrom
import PyProof.SeqRoads2
import PyProof.RangeFor
import PyProof.WalksMore
import PyProof.StrBlock2
import PyProof.Rows.SortShell
import PyProof.TupleOfSeq
import KE.KDictList
import KE.KDictOf
import PyProof.IsiH_tuple
import PyProof.Rows.RuleN_abs
import PyProof.Rows.Range3
import KE.KRevIter
import PyProof.StrLawsRepr
import PyProof.ReprStr
import PyProof.IsiH_list
import PyProof.Rows.TupDisplay
import PySem.Challenge.RW_chordbed_k72_typed
set_option compiler.extract_closed false
set_option genSizeOf false
set_option genInjectivity false
set_option Elab.async false
set_option linter.all false
set_option maxRecDepth 100000
local macro_rules|`(tactic|left)=>`(tactic|decide+kernel)|`(tactic|change $e)=>`(tactic|with_reducible exact $e)|`(tactic|specialize $e)=>`(tactic|with_reducible refine $e)
local macro_rules|`(tactic|exists $e)=>`(tactic|with_reducible apply $e)|`(def $i:declId $s:optDeclSig $v:declVal)=>`(noncomputable def $i:declId $s:optDeclSig $v:declVal)|`(abbrev $i:declId $s:optDeclSig $v:declVal)=>`(noncomputable abbrev $i:declId $s:optDeclSig $v:declVal)
local macro_rules|`(tactic|omega)=>`(tactic|lia)
open Option renaming some->lD,none->Sg,isSome_map->Yz,getD_some->YQ,isSome_iff_exists->ZF,map_eq_some_iff->aac,isSome_some->abf,toList_none->abh,getD_none->abK
open PySem.W renaming Frag->Ld,nsIn->SU,findIn->Ti,mg_none_of->TU,emptyDict->Uh,fnOf->Ui,keepIn->Uq,mg_of->Uy,instObj->UE,hasDictIn->Vb,isFn->Vk,kia_one->Vx,specialIn->VN,cellsFrom_some->VO,plainGet->V2,callWith_K->Wr,codeIn->Ws,methodCall_KW->Xj,lookIn->Xr,InstAt->Xs,tailIn->Xx,plainGet_of->XU,excIn->X0,methodObj->Ym,plainOver->Yn,takerIn->YW,makesIn->YX,readsIn->YZ,findCls->Y0,nsOkIn->Zc,pyHash_slot->aaC,tail_of_in->aaP,handedIn->abt,OpenLaw->abM,typeIn->abX,kitOne->abZ,notCls->ab4,mroIn->acH,clsIn->acJ
open PySem renaming wpAny_bind->Sf,Value->Sh,PyData->Sk,Addr->So,Shared->Sr,wpAny_pure->Ss,sizeLine->SD,mainGlobals->SK,starEach->SY,Program->S0,Around->Tc,NameKind->Tf,World->Tn,wpAny_field->Tz,Expr->TF,FuncData->TL,bootBuiltins->T1,wpAny_newObj_type->T5,wpAny_seqItems->Uc,swapsWith->Uk,wpAny_holding->Uo,compareOp->Up,wpAny_Call_Name_kw->Uu,mem_of_lookup->Ux,wpAny_truthy_bool->Uz,wpAny_callSpecial?_slot->UA,wpAny_loadPart_at->UC,cellsFrom->UH,wpAny_call_entry->UI,sysModules->UK,Stmt->UL,wpAny_standAt->U4,wpAny_setField->Va,sizeLine_eq->Vd,wpAny_setField_rec->Vf,wpAny_passesOwn->Vi,binaryOp->Vj,plainId_quiet->Vp,wpAny_letGo->VD,codeAny_call_builtin->VF,wpAny_isSubtype_exc->VP,wpAny_execs_nil->VV,codeAny_builtin->VW,wpAny_ite_split->VY,DictEntry->V5,wpAny_getItem_str_slice->V6,Scope->Wf,wpAny_typeOf->Wh,ExcBaseFacts->Wk,builtinLookup_eq_fast->Wm,call_meets->Wt,wpAny_pyIter_list->WO,codeAny_mono->WU,wpAny_call->W7,GenState->XS,PassesOwn->XT,wpAny_isInstance->XW,ItemsOf->XX,BindsTo->X5,wpAny_rule->X6,post_val_or_str->Yh,wpAny_specialOf->Yi,typeLookup_type->Yj,wpAny_updateSeq->Yk,wpAny_pyIter_tuple->Yo,Result->YD,IsPart->YE,wpAny_updateSeq_pair->YF,wpAny_tryCatch->YG,wpAny_onRaise->Y5,typeIs_int->Za,tupleKind_room_in1->Zb,Keyword->Zp,ZipApart->Zr,wpAny_Call_ofName->Zs,eqIsQuiet_byValue->Zt,plainObj_wpAny_Assign_Attribute->ZE,wpAny_execs_cons->ZN,wpAny_of_eq->aab,Within->aai,pushCells_keeps->aaj,OsState->aaB,Model->aaI,Code->aaJ,typeIs_str->aaK,ReadsAll->aaM,IsZip->aaN,wpAny_binaryOp_repeat_ref->abg,wpAny_comprehension_free->abu,Drawn->abJ,JoinOk->ab0,wpAny_Assign_Subscript->ab2,wpAny_isTrue_Compare1->acG,wpAny_loadName_local->acS,Reads->acU,wpAny_loadName_cell->adm,wpAny_raiseNew_none->adn,wpAny_Name->adG,wpAny_Constant_int->adH,wpAny_load->adJ,wpAny_getItem_heap->adK,wpAny_setItem_heap->adL,wpAny_assign_Name->aeu,wpAny_sequenceKey->aev,slot_list_getitem->aew,OwnTail->aex,wpAny_pyHash_int->aeW,wpAny_pyHash_str->aeX,wpAny_lookBehind->ae3,pastItsLine_dict->ae4,noFill_tuple_add->ae6,call->ae8,wpAny_pyIter_zip->ae9,beq_builtin_none->afa,wpAny_Expr_any->ahh,wpAny_loadPart->ahj,refuseLoop_ref->ahq,isSubtype_type->ahr,callType_codes->ahs,intBits_le_64->ajc,seq_tuple_add->ajd,evalPart_none->aje,call_list_seq->ajf,wpAny_attempt->ajg,strLen_append->ajh,wpAny_newList->aji
open Bool renaming true->Si,false->Sq,false_ne_true->SH,and_eq_true->S2,and_self->T7,false_eq_true->U8,true_or->U9,eq_iff_iff->VH,false_or->Wi,or_true->WA,false_and->WB,or_eq_true->Xw,true_and->Yp,and_true->Yq,or_false->aaa,not_true->aae,or_eq_false_iff->abi,not_eq_true'->ab1
open List renaming length_map->Sj,getElem?_eq_some_iff->Sl,length_append->Su,mem_cons_self->Sv,getElem?_map->Sx,mem_cons_of_mem->Sy,replicate->Sz,size_toArray->SE,getElem?_append_left->SG,getElem?_eq_getElem->SI,length_cons->SJ,map_cons->SN,mem_singleton->SQ,lookup_cons->SR,mem_cons->SS,map_append->S5,range->S6,mem_of_getElem?->S7,append_nil->S8,mem_map->Ta,getElem?_append_right->Tb,length_replicate->Tj,mem_append_right->To,map_map->Tr,getElem?_set_ne->Ts,find?_cons->Tu,append_assoc->Tw,mem_append->Tx,mem_iff_getElem?->TJ,replicate_succ->TK,length_take->TQ,length_range->TR,getElem?_set_self->TV,Nodup->TX,length_set->TZ,getElem?_set->T4,mem_filter->T6,pairwise_cons->Ub,mem_append_left->Ud,not_mem_nil->Ue,nodup_cons->Um,pairwise_singleton->Uv,drop_eq_nil_of_le->UB,length_nil->UM,flatten_cons->UU,mem_range->U1,getElem?_replicate->U2,lookup->U7,lookup_cons_self->Ve,length_drop->Vs,all_eq_true->Vt,take_length->Vu,drop_eq_getElem_cons->Vv,of_mem_zip->VI,take_add_one->VX,reverse_cons->VZ,nodup_append->V0,length_singleton->Wb,length_filter_le->Wc,filter_cons->We,any_cons->Wj,map_congr_left->Wu,map_nil->Wz,mem_filterMap->WC,contains_cons->WE,mem_of_find?_eq_some->WQ,length->WW,pairwise_map->WY,filterMap_cons_none->W5,filterMap_cons_some->W6,mem_flatMap->Xg,foldl->Xo,take_of_length_le->Xp,foldl_cons->Xt,forIn_cons->Xv,nodup_nil->X1,mem_of_mem_take->X2,filterMap_cons->Yg,length_reverse->Yl,map_inj_right->YB,getElem_mem->Y4,any_eq_true->Y7,nil_append->Zn,forIn_nil->ZH,drop_zero->ZI,getElem?_take_of_lt->Z9,getElem?_cons_succ->aak,getElem?_cons_zero->aal,filter_cons_of_pos->aam,filter_cons_of_neg->aan,pairwise_lt_range->aaE,getElem?_eq_none->aaS,pairwise_append->abj,flatten_append->abx,set_cons_zero->abN,set_cons_succ->abO,mem_replicate->abP,getElem?_inj->ab3,zipIdx_cons->acI,cons_append->acK,map_reverse->acL,zipIdx_nil->acV,headD_cons->acW,length_zip->acX,filterMap->adp,map_take->adM,map_drop->adN,take_nil->adO,map->ajk
open Nat renaming le_of_ble_eq_true->Sm,le_refl->Sw,lt_of_lt_of_le->SX,ne_of_lt->S1,le_trans->Tg,zero_le->Th,ne_of_gt->TY,lt_irrefl->Ul,zero_add->UX,add_sub_cancel_left->VS,lt_trans->V3,lt_succ_self->Wg,le_succ->W0,le_of_succ_le->W2,lt_succ_of_lt->W3,le_add_right->Xk,le_of_lt->Xq,add_assoc->YA,min_le_right->Y9,mul_le_mul->ZP,add_comm->aaL,sub_zero->aaO,sub_self->aaR,cast->abw,lt_of_le_of_lt->abY,min_eq_left->ado,le_of_eq->ae5,succ_mul->ae7,max_le->aht
open Option.some renaming inj->SM
open PyProof.Rows renaming envOfC->S3,slot_tuple_getitem->T3,callWith_type1->Us,callWith_builtin1->agf,kws_cons->agg,kws_nil->agh
open Array renaming length_toList->TH,getElem?_eq_some_iff->TN,getElem?_toList->V7,getElem?_setIfInBounds_self_of_lt->XM,getElem?_setIfInBounds_ne->YR,getElem?_eq_getElem->ZJ,toArray_toList->aaQ,find?_toList->abr,forIn_toList->abv,all_toList->ab5,toList->adI
open Int renaming toNat_natCast->Ua,le_refl->X7,ofNat->Zd,toNat->aaD,toNat_of_nonneg->abL,emod_lt_of_pos->ab6,emod_nonneg->adq
open PySem.F renaming plainAttrs_list->Ut,slot_list_append->UN,type_list_append->UO,excBase_ValueError->Vg,slot_dict_values->WI,plainAttrs_dict->WX,plainAttrs_str->W9,slot_str_join->Xl,type_str_join->Xm,attrBase_ValueError->Y6,slot_dict_getitem->Zo,args_tuple_add_2->Zq,slot_list_extend->Zu,type_list_extend->Zv,type_dict_values->Zw,entry_tuple_add->ZG,slot_tuple_add->ZO,slot_dict_pop->aad
open PySem.SeqAt renaming eqv_refl->W8,compareEq_reads->ahk,compareNe_reads->ahl,in_list_reads->ahm,in_tuple_reads->ahn,notIn_list_reads->aho,notIn_tuple_reads->ahp
open List.Pairwise renaming nil->Xu,filterMap->afb,filter->afg
open List.Perm renaming refl->YY,swap->akz
open PySem.Str renaming join->Y1
open Int.ofNat renaming inj->Ze
open PySem.PassesOwn renaming never->adP
open PySem.EqMixed renaming eq_bool_str->aeY,eq_int_str->aeZ,eq_str_bool->ae0,eq_str_int->ae1
open PySem.W.Looks renaming here->ae2
open PySem.StrLaws renaming sliced_plain->afc,strSliceIndices_plain->afd,joinFits->afe,glued_eq_join->aff
open PySem.EqNone renaming eq_none_none->af7,eq_none_bool->af8,eq_none_int->af9,eq_none_str->aga,eq_bool_none->agb,eq_int_none->agc,eq_str_none->agd
open PySem.Within renaming cons->age
open List.Nodup renaming sublist->ajj
open PySem.IsL renaming update->aky
open List.cons renaming injEq->akB
namespace L2
open PySem PySem.Spec PyProof.Rows
abbrev cJ:=Sum Int Str
def uN:cJ->Sh->Bool
 | .inl k,v=>Sh.isInt k v
 | .inr x,v=>Sh.isStrOf x v
def Rp (w:Tn):cJ->Int
 | .inl k=>hashInt k
 | .inr x=>hashStr w x
theorem cN:∀{k:cJ} {v:Sh},uN k v=Si->(∃i t,k=Sum.inl i/\v=Sh.int i t)\/(∃x t,k=Sum.inr x/\v=Sh.str x t)
 | .inl i,v,h=>by obtain⟨t,e⟩:=Sh.isInt_shape h;exact .inl ⟨i,t,rfl,e⟩
 | .inr x,v,h=>by obtain⟨t,e⟩:=Sh.isStrOf_shape h;exact .inr ⟨x,t,rfl,e⟩
theorem DW (i:Int) (t:Tok):uN (.inl i) (.int i t)=Si:=by simp[uN,Sh.isInt]
theorem DC (x:Str) (t:Tok):uN (.inr x) (.str x t)=Si:=by simp[uN,Sh.isStrOf]
theorem Oh (a b:Int):decide ((Sum.inl a:cJ)=Sum.inl b)=(a==b):=by
 by_cases e:a=b
 .subst e;simp
 .have h:¬(Sum.inl a:cJ)=Sum.inl b:=fun q=>e (Sum.inl.inj q);rw[decide_eq_false h];exact(beq_eq_false_iff_ne.mpr e).symm
theorem MC (a b:Str):decide ((Sum.inr a:cJ)=Sum.inr b)=decide (a=b):=by
 by_cases e:a=b
 .subst e;simp
 .have h:¬(Sum.inr a:cJ)=Sum.inr b:=fun q=>e (Sum.inr.inj q);rw[decide_eq_false h,decide_eq_false e]
theorem Nv (a:Int) (b:Str):decide ((Sum.inl a:cJ)=Sum.inr b)=Sq:=decide_eq_false (fun q=>nomatch q)
theorem NV (a:Str) (b:Int):decide ((Sum.inr a:cJ)=Sum.inl b)=Sq:=decide_eq_false (fun q=>nomatch q)
def cP (prog:S0) (w:Tn):PySem.KeyKind prog w cJ where
 is:=uN
 hash:=Rp w
 inj:=fun v a b ha g=>by
  rcases cN ha with⟨i,t,rfl,rfl⟩|⟨x,t,rfl,rfl⟩
  .rcases cN g with⟨j,u,rfl,e⟩|⟨y,u,rfl,e⟩
   .injection e with e1 _;rw[e1]
   .exact nomatch e
  .rcases cN g with⟨j,u,rfl,e⟩|⟨y,u,rfl,e⟩
   .exact nomatch e
   .injection e with e1 _;rw[e1]
 byValue:=fun k v h=>by rcases cN h with⟨i,t,rfl,rfl⟩|⟨x,t,rfl,rfl⟩<;>rfl
 pyHash:=fun f h=>by
  rcases cN f with⟨i,t,rfl,rfl⟩|⟨x,t,rfl,rfl⟩
  .exact aeW h
  .exact aeX h
 eqBool:=fun l f h=>by
  rcases cN l with⟨i,t,rfl,rfl⟩|⟨x,t,rfl,rfl⟩
  .rcases cN f with⟨j,u,rfl,rfl⟩|⟨y,u,rfl,rfl⟩
   .rw[Oh] at h;exact wpAny_eqBool_int h
   .rw[Nv] at h;exact SeqAt.EqAt.int_str i t y u _ _ _ _ h
  .rcases cN f with⟨j,u,rfl,rfl⟩|⟨y,u,rfl,rfl⟩
   .rw[NV] at h;exact SeqAt.EqAt.str_int x t j u _ _ _ _ h
   .rw[MC] at h;exact wpAny_eqBool_str h
 «strs»:=fun k x t v h=>by
  rcases cN h with⟨i,u,rfl,e⟩|⟨y,u,rfl,e⟩
  .exact nomatch e
  .injection e with e1 _
   subst e1;cases v<;>rfl
theorem yW (prog:S0) (w:Tn) (i:Int) (t:Tok):(cP prog w).is (.inl i) (.int i t)=Si:=DW i t
theorem yc (prog:S0) (w:Tn) (x:Str) (t:Tok):(cP prog w).is (.inr x) (.str x t)=Si:=DC x t
inductive V where
 |UT|bl (b:Bool)|int (i:Int)|str (x:Str)|byt (b:Array UInt8)|flt (b:UInt64)|ref (a:So)|ty (n:String)
 deriving DecidableEq
def RelV:V->Sh->Prop
 | .UT,u=>u=Sh.none
 | .bl b,u=>u=Sh.bool b
 | .int i,u=>∃t,u=Sh.int i t
 | .str x,u=>∃t,u=Sh.str x t
 | .byt b,u=>∃t,u=Sh.bytes b t
 | .flt b,u=>∃t,u=Sh.float b t
 | .ref a,u=>u=Sh.ref a
 | .ty n,u=>u=Sh.type n
abbrev Vals:List V->List Sh->Prop:=Paired RelV
theorem Vals.length (r:Vals xs us):xs.length=us.length:=Paired.length r
theorem Vals.get:∀{xs:List V} {us:List Sh} {i:Nat} {x:V},Vals xs us->xs[i]? =lD x->∃u,us[i]? =lD u/\RelV x u
 |_,_,_,_,.nil,e=>by simp at e
 |_,_,0,_,.cons r _,e=>by simp at e;subst e;exact⟨_,rfl,r⟩
 |_,_,i+1,x,.cons _ t,e=>by obtain⟨u,b,a⟩:=Vals.get t (by simpa using e);exact⟨u,by simpa using b,a⟩
theorem Vals.append:∀{xs ys:List V} {us ws:List Sh},Vals xs us->Vals ys ws->Vals (xs++ys) (us++ws)
 |_,_,_,_,.nil,s=>s
 |_,_,_,_,.cons r t,s=> .cons r (Vals.append t s)
theorem Vals.take:∀{xs:List V} {us:List Sh} (n:Nat),Vals xs us->Vals (xs.take n) (us.take n)
 |_,_,0,_=> .nil
 |_,_,_+1,.nil=> .nil
 |_,_,n+1,.cons r t=> .cons r (Vals.take n t)
theorem Vals.drop:∀{xs:List V} {us:List Sh} (n:Nat),Vals xs us->Vals (xs.drop n) (us.drop n)
 |_,_,0,r=>r
 |_,_,_+1,.nil=> .nil
 |_,_,n+1,.cons _ t=>Vals.drop n t
def WJ:Option V->Option Sh->Prop
 |some v,lD u=>RelV v u
 |none,Sg=>True
 |_,_=>False
def KV:List (κ×V)->List (κ×Sh)->Prop:=Paired fun(p:κ×V) (q:κ×Sh)=>p.1=q.1/\RelV p.2 q.2
def kV:cJ->V
 | .inl i=> .int i
 | .inr x=> .str x
inductive HO where
 |lst (xs:List V)
 |tup (xs:List V)
 |dK (S4:List (cJ×V))|dT (S4:List (List cJ×V))
 |set (S:Int->Bool) (n:Nat)
 |ins (C dx:So) (fs:List (Str×V))
 |own (x:So)
 |xd (fs:List (Str×V))
 |met (f x:So)
 |rng (lo hi:Int)
 |frz (o:Obj) (u:HO)
 |tbl (ps:Array Sh)
 |ext (φ:Heap->Prop)
 |exw (φ:Tn->Heap->Prop)
abbrev Hp:=So->Option HO
def bx (H:Hp) (a:So) (o:HO):Hp:=fun b=>if b=a then lD o else H b
theorem aG:bx H a o a=lD o:=by unfold bx;rw[if_pos rfl]
theorem ay (h:b≠a):bx H a o b=H b:=by unfold bx;rw[if_neg h]
theorem Qq {H:Hp} {a b:So} {o u:HO} (h:H a=lD o) (h':H b=lD u) (d:o≠u):a≠b:=by intro e;subst e;rw[h] at h';exact d (SM h')
theorem bZ {H:Hp} (h:H a=lD o) (h':H b=Sg):a≠b:=by intro e;subst e;rw[h] at h';cases h'
def Y3 (h:Heap) (a:So) (items:Array Sh):Prop:=∃o,h.get? a=lD o/\(o.cls= .type "tuple"/\∃n,o.data= .seq items n)/\o.dict=Sg
theorem Y3.tup (x:Y3 h a items):IsTup h a items:=let⟨o,e,c,_⟩:=x;⟨o,e,c⟩
theorem Y3.lt (x:Y3 h a items):a<h.objs.size:=let⟨_,e,_⟩:=x;Heap.lt_size e
theorem Y3.new (h:Heap) (xs:Array Sh):Y3 (h.push {cls:= .type "tuple",data:= .seq xs}) h.objs.size xs:=⟨_,Heap.get?_push_size _ rfl,⟨rfl,_,rfl⟩,rfl⟩
section
variable (P:S0) (w:Tn)
def ObjOk (H:Hp) (h:Heap) (a:So):HO->Prop
 | .lst xs=>xs.length<=SD/\∃(b:List Sh) (n:Nat),Vals xs b/\h.get? a=lD {cls:= .type "list",data:= .seq b.toArray n}
 | .tup xs=>xs.length<=SD/\∃b:List Sh,Vals xs b/\Y3 h a b.toArray
 | .dK S4=>S4.length<=SD/\(a==UK)=Sq/\∃vs,KV S4 vs/\h.DictOf (cP P w) a vs
 | .dT S4=>S4.length<=SD/\(a==UK)=Sq/\∃xs:List (List cJ×So×Sh),
   Paired (fun(p:List cJ×V) (q:List cJ×So×Sh)=>p.1=q.1/\H q.2.1=lD (.tup (p.1.map kV))/\RelV p.2 q.2.2) S4 xs/\
   ∃o es ep,h.get? a=lD o/\o.ExactDict/\o.data= .dict es ep/\es.toList=xs.map (entryOfKey (tupleKind (cP P w)))/\(xs.map (·.1)).Nodup
 | .set S n=>h.SetOf (intKind P w) a S n
 | .ins C dx fs=>H dx=lD (.own a)/\fs.length<=1000/\dx≠a/\h.get? a=lD (UE C dx)/\
   ∃mA,h.Ns1 dx mA/\(∀f,WJ (fs.lookup f) (mA f))/\aai mA (fs.map (·.1))
 | .own _=>∃o,h.get? a=lD o
 | .xd fs=>∃mA,h.Ns1 a mA/\∀f,WJ (fs.lookup f) (mA f)
 | .rng lo hi=>∃t u v,h.get? a=lD {cls:= .type "range",data:= .fields #[.int lo t,.int hi u,.int 1 v]}
 | .frz o u=>h.get? a=lD o/\ObjOk H h a u
 | .tbl ps=>h.get? a=lD {cls:= .none,data:= .fields ps}
 | .met f x=>h.get? a=lD (Ym (.ref f) (.ref x))
 | .ext φ=>φ h/\(∃o,h.get? a=lD o)/\∀h1 h2:Heap,φ h1->(∀o,h1.get? a=lD o->h2.get? a=lD o)->φ h2
 | .exw φ=>φ w h/\(∃o,h.get? a=lD o)/\∀h1 h2:Heap,φ w h1->(∀o,h1.get? a=lD o->h2.get? a=lD o)->φ w h2
def XQ (H:Hp) (h:Heap):Prop:=∀a o,H a=lD o->ObjOk P w H h a o
end
section
variable {P:S0} {w:Tn} {H H':Hp} {h h':Heap} {a:So} {o:HO}
theorem ObjOk.lt (x:ObjOk P w H h a o):a<h.objs.size:=by
 cases o with
 |lst xs=>obtain⟨_,_,_,_,e⟩:=x;exact Heap.lt_size e
 |tup xs=>obtain⟨_,_,_,p⟩:=x;exact p.lt
 |dK S4=>obtain⟨_,_,_,_,o,_,_,e,_⟩:=x;exact Heap.lt_size e
 |dT S4=>obtain⟨_,_,_,_,o,_,_,e,_⟩:=x;exact Heap.lt_size e
 |set S n=>obtain⟨o,_,_,_,e,_⟩:=x;exact Heap.lt_size e
 |ins C dx fs=>obtain⟨_,_,_,e,_⟩:=x;exact Heap.lt_size e
 |own y=>obtain⟨_,e⟩:=x;exact Heap.lt_size e
 |xd fs=>obtain⟨_,⟨_,_,_,e,_⟩,_⟩:=x;exact Heap.lt_size e
 |rng lo hi=>obtain⟨_,_,_,e⟩:=x;exact Heap.lt_size e
 |frz b u=>obtain⟨e,_⟩:=x;exact Heap.lt_size e
 |tbl ps=>exact Heap.lt_size (show h.get? a=lD _ from x)
 |met f y=>exact Heap.lt_size (show h.get? a=lD _ from x)
 |ext φ=>obtain⟨_,⟨_,e⟩,_⟩:=x;exact Heap.lt_size e
 |exw φ=>obtain⟨_,⟨_,e⟩,_⟩:=x;exact Heap.lt_size e
theorem Paired.WK:∀{l₁:List α} {l₂:List β},Paired F l₁ l₂->(∀a b,F a b->G a b)->Paired G l₁ l₂
 |_,_,.nil,_=> .nil
 |_,_,.cons r t,f=> .cons (f _ _ r) (Paired.WK t f)
theorem ObjOk.Xb (x:ObjOk P w H h a o) (k:∀b u,(b=a\/H b=lD (.own a))->h.get? b=lD u->h'.get? b=lD u)
  (G:∀b,H b=lD (.own a)->H' b=lD (.own a)) (F:∀b xs,H b=lD (.tup xs)->H' b=lD (.tup xs)):ObjOk P w H' h' a o:=by
 induction o with
 |lst xs=>obtain⟨z,B,n,r,e⟩:=x;exact⟨z,B,n,r,k _ _ (.inl rfl) e⟩
 |tup xs=>obtain⟨z,B,r,g,e,c⟩:=x;exact⟨z,B,r,g,k _ _ (.inl rfl) e,c⟩
 |dK S4=>obtain⟨z,y,vs,r,g,i,j,e,c⟩:=x;exact⟨z,y,vs,r,g,i,j,k _ _ (.inl rfl) e,c⟩
 |dT S4=>obtain⟨z,y,xs,r,g,i,j,e,c⟩:=x;exact⟨z,y,xs,Paired.WK r fun p q z=>⟨z.1,F _ _ z.2.1,z.2.2⟩,g,i,j,k _ _ (.inl rfl) e,c⟩
 |set S n=>obtain⟨g,i,j,t,e,c⟩:=x;exact⟨g,i,j,t,k _ _ (.inl rfl) e,c⟩
 |ins C dx fs=>obtain⟨d,z,ne,e,A,⟨m,i,j,I,c⟩,r⟩:=x;exact⟨G _ d,z,ne,k _ _ (.inl rfl) e,A,⟨m,i,j,k _ _ (.inr d) I,c⟩,r⟩
 |own y=>obtain⟨g,e⟩:=x;exact⟨g,k _ _ (.inl rfl) e⟩
 |xd fs=>obtain⟨A,⟨m,i,j,e,c⟩,r⟩:=x;exact⟨A,⟨m,i,j,k _ _ (.inl rfl) e,c⟩,r⟩
 |rng lo hi=>obtain⟨t,u,v,e⟩:=x;exact⟨t,u,v,k _ _ (.inl rfl) e⟩
 |frz g u E=>obtain⟨e,q⟩:=x;exact⟨k _ _ (.inl rfl) e,E q⟩
 |tbl ps=>have e:h.get? a=lD {cls:= .none,data:= .fields ps}:=x;show h'.get? a=lD {cls:= .none,data:= .fields ps};exact k a _ (.inl rfl) e
 |met f y=>have e:h.get? a=lD (Ym (.ref f) (.ref y)):=x;show h'.get? a=lD (Ym (.ref f) (.ref y));exact k a _ (.inl rfl) e
 |ext φ=>obtain⟨p,⟨o,e⟩,l⟩:=x;exact⟨l _ _ p fun o q=>k _ _ (.inl rfl) q,⟨o,k _ _ (.inl rfl) e⟩,l⟩
 |exw φ=>obtain⟨p,⟨o,e⟩,l⟩:=x;exact⟨l _ _ p fun o q=>k _ _ (.inl rfl) q,⟨o,k _ _ (.inl rfl) e⟩,l⟩
theorem XQ.lt (x:XQ P w H h) (e:H a=lD o):a<h.objs.size:=(x a o e).lt
theorem XQ.fresh (x:XQ P w H h) (e:h.objs.size<=a):H a=Sg:=by
 cases q:H a with
 |none=>rfl
 |some u=>exact absurd (SX (x.lt q) e) (Ul _)
theorem XQ.kept (x:XQ P w H h) (k:∀b u,h.get? b=lD u->h'.get? b=lD u):XQ P w H h':=fun a o e=>
 (x a o e).Xb (fun b u _ q=>k b u q) (fun _ q=>q) fun _ _ q=>q
theorem XQ.laid (x:XQ P w H h) (k:∀b u,h.get? b=lD u->h'.get? b=lD u) (g:h.objs.size<=a) (new:ObjOk P w (bx H a o) h' a o):XQ P w (bx H a o) h':=fun b u e=>by
 have hn:=x.fresh g;by_cases f:b=a
 .subst f;rw[aG] at e;cases e;exact new
 .rw[ay f] at e;exact(x b u e).Xb (fun c v _ q=>k c v q) (fun c q=>by rw[ay (bZ q hn)];exact q) fun c xs q=>by rw[ay (bZ q hn)];exact q
end
def Rd (H:Hp) (a:So) (u:HO):Prop:=H a=lD u\/∃o,H a=lD (.frz o u)
theorem Rd.ok (r:Rd H a u) (x:XQ P w H h):ObjOk P w H h a u:=by
 rcases r with r|⟨o,r⟩
 .exact x a u r
 .obtain⟨_,q⟩:=x a _ r;exact q
def Ps:Option HO->Prop
 |some (.lst _)=>True
 |some (.dK _)=>True
 |some (.dT _)=>True
 |some (.set _ _)=>True
 |some (.ins _ _ _)=>True
 |some (.ext _)=>True
 |some (.exw _)=>True
 |_=>False
section
variable {P:S0} {w:Tn} {H:Hp} {h h':Heap} {x e:So} {Z:HO}
theorem XQ.write (ok:XQ P w H h) (g:Ps (H x)) (o:e=x\/H e=lD (.own x)) (k:∀b u,b≠e->h.get? b=lD u->h'.get? b=lD u) (l:∃u,h'.get? e=lD u)
  (new:ObjOk P w (bx H x Z) h' x Z):XQ P w (bx H x Z) h':=fun b u q=>by
 have f:∀c y,H c=lD (.own y)->c≠x:=fun c y r z=>by subst z;rw[r] at g;exact g
 have m:∀c xs,H c=lD (.tup xs)->c≠x:=fun c xs r z=>by subst z;rw[r] at g;exact g
 by_cases j:b=x
 .subst j;rw[aG] at q;cases q;exact new
 .rw[ay j] at q
  by_cases a:b=e
  .have n:H b=lD (.own x):=by
    rcases o with z|z
    .exact absurd (a.trans z) j
    .rw[a];exact z
   rw[q] at n;cases n;obtain⟨v,p⟩:=l;exact⟨v,by rw[a];exact p⟩
  .refine(ok b u q).Xb (fun c v i r=>k c v ?_ r) (fun c r=>by rw[ay (f c b r)];exact r) fun c xs r=>by rw[ay (m c xs r)];exact r
   rcases i with rfl|i
   .exact a
   .rintro rfl
    rcases o with z|z
    .exact f c b i z
    .rw[i] at z;cases z;exact j rfl
end
structure Un (fs ex:List So) (H H':Hp) (h h':Heap):Prop where
 keep:∀b o,h.get? b=lD o->H b=Sg->b∉fs->b∉ex->h'.get? b=lD o
 slot:∀b o,h.get? b=lD o->H b=Sg->b∈fs->b∉ex->∃sl,h'.get? b=lD {o with slots:=sl}
 free:∀b o,h.get? b=lD o->H b=Sg->b∉ex->H' b=Sg
 there:∀b o,h.get? b=lD o->b∉ex->∃o',h'.get? b=lD o'
 YJ:∀b xs,H b=lD (.tup xs)->H' b=lD (.tup xs)
 Yu:∀b o u,H b=lD (.frz o u)->H' b=lD (.frz o u)
 YL:∀b ps,H b=lD (.tbl ps)->∃more,H' b=lD (.tbl (ps++more))
section
variable {fs fs' ex ex':List So} {H H1 H2:Hp} {h h1 h2 h':Heap} {a x e:So} {o:HO}
theorem Un.any (u:Un fs ex H H1 h h1) (q:h.get? b=lD ob) (n:H b=Sg) (f:b∉ex):∃sl,h1.get? b=lD {ob with slots:=sl}:=by
 by_cases g:b∈fs
 .exact u.slot b ob q n g f
 .exact⟨ob.slots,u.keep b ob q n g f⟩
theorem Un.kept (k:∀b u,h.get? b=lD u->h'.get? b=lD u):Un fs ex H H h h':=
 ⟨fun b f q _ _ _=>k b f q,fun b f q _ _ _=>⟨f.slots,k b f q⟩,fun _ _ _ n _=>n,fun b f q _=>⟨f,k b f q⟩,fun _ _ q=>q,fun _ _ _ q=>q,fun _ ps q=>⟨#[],by rw[q];simp⟩⟩
theorem Un.refl:Un fs ex H H h h:=Un.kept fun _ _ q=>q
theorem Un.laid (k:∀b u,h.get? b=lD u->h'.get? b=lD u) (f:h.objs.size<=a) (hn:H a=Sg):Un fs ex H (bx H a o) h h' where
 keep:=fun b u q _ _ _=>k b u q
 slot:=fun b u q _ _ _=>⟨u.slots,k b u q⟩
 free:=fun b u q n _=>by rw[ay (S1 (SX (Heap.lt_size q) f))];exact n
 there:=fun b u q _=>⟨u,k b u q⟩
 YJ:=fun b xs q=>by rw[ay (bZ q hn)];exact q
 Yu:=fun b u xs q=>by rw[ay (bZ q hn)];exact q
 YL:=fun b ps q=>⟨#[],by rw[ay (bZ q hn),q];simp⟩
theorem Un.write (g:Ps (H x)) (p:e=x\/H e=lD (.own x)) (k:∀b u,b≠e->h.get? b=lD u->h'.get? b=lD u) (i:∃u,h'.get? e=lD u):Un fs ex H (bx H x o) h h':=by
 have j:∀b,H b=Sg->b≠x:=fun b n z=>by subst z;rw[n] at g;exact g
 have l:∀b,H b=Sg->b≠e:=fun b n z=>by
  subst z;rcases p with r|r
  .exact j b n r
  .rw[n] at r;cases r
 have hm:∀b u,H b=lD u->¬Ps (lD u)->b≠x:=fun b u q m z=>by subst z;rw[q] at g;exact m g
 refine⟨fun b u q n _ _=>k b u (l b n) q,fun b u q n _ _=>⟨u.slots,k b u (l b n) q⟩,fun b u q n _=>by rw[ay (j b n)];exact n,fun b u q _=> ?_,
  fun b xs q=>by rw[ay (hm b _ q fun z=>z)];exact q,fun b u xs q=>by rw[ay (hm b _ q fun z=>z)];exact q,fun b ps q=>⟨#[],by rw[ay (hm b _ q fun z=>z),q];simp⟩⟩
 by_cases f:b=e
 .subst f;exact i
 .exact⟨u,k b u f q⟩
end
def Qy (h:Heap) (H:Hp):List So:=(S6 h.objs.size).filter fun a=>(H a).isSome
def uZ (h:Heap) (H:Hp):Heap:=PySem.W.hideAll h (Qy h H)
theorem Dx (h:Heap) (H:Hp):(uZ h H).objs.size=h.objs.size:=PySem.W.hideAll_size _ _
theorem EX (e:h.get? b=lD o) (n:H b=Sg):(uZ h H).get? b=lD o:=
 PySem.W.hideAll_get _ e fun hm=>by have q:=(T6.mp hm).2;rw[n] at q;simp at q
theorem JV (e:(uZ h H).get? b=lD o):h.get? b=lD o/\H b=Sg:=by
 have a:=PySem.W.of_hideAll (Qy h H) e;refine⟨a,?_⟩;cases q:H b with
 |none=>rfl
 |some x=>have hm:b∈Qy h H:=T6.mpr ⟨U1.mpr (Heap.lt_size a),by simp[q]⟩;have z:(uZ h H).get? b=Sg:=PySem.W.hideAll_none (Qy h H) hm;rw[z] at e;cases e
structure Mod (K:Ld) (mg:Str->Option Sh) (base:Heap):Prop where
 kin:K.In base
 glob:base.Ns SK mg
 blt:∃mb,base.Ns builtinsNs mb/\∀x:Str,x≠ "__name__"->mb x=T1 x
 nolimit:base.NoLimit
structure Cx where
 prog:S0
 w:Tn
 K:Ld
 mg:Str->Option Sh
 base:Heap
 A:Tc
 N:List Str
 s₀:Sr
 H₀:Hp
 env:Env
 outer:List Env
 stack:List Env
 ex:List So
 fn:Str->Bool
 calm:Bool
 pn:List (So×Obj)
 xe:Sh->Sr->Prop
def yp (l:List Env):List So:=l.filterMap (·.frame)
abbrev Cx.fs (X:Cx):List So:=yp X.outer
def QT (sc:Wf) (x:Str):Prop:=sc.names.lookup x=lD .local\/sc.names.lookup x=lD .cell\/sc.names.lookup x=lD .free
def Qo (sc:Wf) (x:Str):Prop:=sc.names.lookup x=lD .local\/sc.names.lookup x=lD .cell
def Q9 (env:Env) (h:Heap) (m:Str->Option Sh) (x:Str) (u:Sh):Prop:=
 (env.kindOf x=lD .local/\m x=lD u)\/((env.kindOf x=lD .cell\/env.kindOf x=lD .free)/\∃c,env.cells.lookup x=lD c/\h.IsCell c (lD u))
structure Cx.Ok (X:Cx):Prop where
 mod:Mod X.K X.mg X.base
 kind:X.env.scope.kind= .function
 glob:X.env.globals=SK
 blt:X.env.builtins=builtinsNs
 above:X.s₀.heap.objs.size<=X.env.locals
 inj:∀x y c,X.env.cells.lookup x=lD c->X.env.cells.lookup y=lD c->x=y
 has:∀x,(X.env.kindOf x=lD .cell\/X.env.kindOf x=lD .free)->∃c,X.env.cells.lookup x=lD c
 cab:∀x c,X.fn x=Si->X.env.cells.lookup x=lD c->X.s₀.heap.objs.size<=c
 hd:X.calm=Si->X.A.handled=Sg
 frames:X.A.frames=lD X.stack
 stk:X.stack=X.outer\/(X.stack=X.env::X.outer/\X.env.frame=lD X.env.locals)
 exf:∀b∈X.ex,b≠X.env.locals/\∀x c,X.env.cells.lookup x=lD c->c≠b
 bs:∀b o,X.base.get? b=lD o->X.s₀.heap.get? b=lD o/\X.H₀ b=Sg
 bsz:X.base.objs.size<=X.s₀.heap.objs.size
 aas:∀b o,X.base.get? b=lD o->b∉X.ex
 aay:∀b∈X.ex,b∉X.fs
 Ya:X.s₀.heap.FunFrames X.base X.outer
 frf:∀b∈X.fs,X.H₀ b=Sg
structure Inv (X:Cx) (pins:List (So×Obj)) (σ:List (Option V)) (H:Hp) (s:Sr):Prop where
 ok:X.Ok
 os:s.os=X.s₀.os
 bare:AllBare s.gens
 base:Un X.fs X.ex X.H₀ H X.s₀.heap s.heap
 loc:∃m,s.heap.Ns X.env.locals m/\∀(i:Nat) (x:Str) (v:V),X.N[i]? =lD x->σ[i]? =lD (lD v)->QT X.env.scope x->∃u,RelV v u/\Q9 X.env s.heap m x u
 cell:∀x c,X.env.cells.lookup x=lD c->∃v,s.heap.IsCell c v
 free:H X.env.locals=Sg
 V1:∀x c,X.env.cells.lookup x=lD c->H c=Sg
 pin:∀p∈X.pn++pins,s.heap.get? p.1=lD p.2/\H p.1=Sg/\p.1≠X.env.locals/\p.1∉X.fs/\∀v,p.2.data≠ .cell v
 T9:XQ X.prog X.w H s.heap
 len:σ.length=X.N.length
section
variable {X:Cx} {Z:List (So×Obj)} {Y:List (Option V)} {H H':Hp} {s:Sr} {h':Heap}
theorem Cx.Ok.aiI (ok:X.Ok) (e:X.base.get? b=lD o):b∉X.fs:=fun a=>by have:=(ok.Ya.mem a).1;rw[e] at this;cases this
theorem Inv.bs (I:Inv X Z Y H s):∀b o,X.base.get? b=lD o->s.heap.get? b=lD o/\H b=Sg:=fun b o e=>
 ⟨I.base.keep b o (I.ok.bs b o e).1 (I.ok.bs b o e).2 (I.ok.aiI e) (I.ok.aas b o e),I.base.free b o (I.ok.bs b o e).1 (I.ok.bs b o e).2 (I.ok.aas b o e)⟩
theorem Inv.bk (I:Inv X Z Y H s):∀b o,X.base.get? b=lD o->s.heap.get? b=lD o:=fun b o e=>(I.bs b o e).1
theorem Inv.mod (I:Inv X Z Y H s):Mod X.K X.mg X.base:=I.ok.mod
theorem Inv.XH (I:Inv X Z Y H s):X.K.In s.heap:=I.ok.mod.kin.keeps I.bk
theorem Inv.lt (I:Inv X Z Y H s):X.env.locals<s.heap.objs.size:=let⟨_,hn,_⟩:=I.loc;hn.lt
theorem Inv.sz (I:Inv X Z Y H s):X.s₀.heap.objs.size<=s.heap.objs.size:=Tg I.ok.above (Xq I.lt)
theorem Inv.ahD (I:Inv X Z Y H s) (h:s.heap.objs.size<=a):a∉X.fs:=fun e=>by obtain⟨_,o,b,_⟩:=I.ok.Ya.mem e;exact absurd (SX (Heap.lt_size b) (Tg I.sz h)) (Ul _)
theorem Inv.cne (I:Inv X Z Y H s):∀x c,X.env.cells.lookup x=lD c->c≠X.env.locals:=fun x c e z=>by obtain⟨v,o,f,g⟩:=I.cell x c e;obtain⟨m,⟨h,i,j,a,b,_⟩,_⟩:=I.loc;rw[z,a] at f;cases f;rw[b] at g;cases g
theorem Inv.Ya (I:Inv X Z Y H s):s.heap.FunFrames X.base X.outer:=by
 have all:∀(l:List Env),(∀b∈yp l,b∈X.fs)->X.s₀.heap.FunFrames X.base l->s.heap.FunFrames X.base l:=by
  intro l
  induction l with
  |nil=>intro _ _;trivial
  |cons t r i=>intro h n;obtain⟨p,⟨L,o,a,hn,m,q⟩,j⟩:=n;have g:=h L (by unfold yp;rw[Yg,a];exact Sv);obtain⟨u,e⟩:=I.base.slot L o m (I.ok.frf L g) g fun z=>I.ok.aay L z g;exact⟨p,⟨L,_,a,hn,e,q⟩,i (fun b f=>h b (by unfold yp;rw[Yg,a];exact Sy _ f)) j⟩
 exact all X.outer (fun _ f=>f) I.ok.Ya
theorem Inv.stack (I:Inv X Z Y H s):s.heap.FunFrames X.base X.stack:=by
 rcases I.ok.stk with e|⟨e,hf⟩
 .rw[e];exact I.Ya
 .rw[e];obtain⟨m,hn,_⟩:=I.loc;refine .cons (by rw[I.ok.kind];decide) hf hn ?_ I.Ya;exact Heap.get?_none_of_le (Tg I.ok.bsz I.ok.above)
theorem Inv.YH (I:Inv X Z Y H s):∀b∈yp X.stack,b∈X.env.locals::X.fs:=fun b a=>by
 rcases I.ok.stk with e|⟨e,hf⟩
 .rw[e] at a;exact Sy _ a
 .rw[e] at a;unfold yp at a;rw[Yg,hf] at a;exact a
theorem Inv.Y8 (I:Inv X Z Y H s):∀b∈yp X.stack,H b=Sg:=fun b a=>by
 rcases SS.mp (I.YH b a) with e|a
 .rw[e];exact I.free
 .obtain⟨_,o,f,_⟩:=I.ok.Ya.mem a;exact I.base.free b o f (I.ok.frf b a) fun z=>I.ok.aay b z a
theorem Inv.step {g':Array XS} {t':Nat} {d':abJ} {ch:List So} (I:Inv X Z Y H s)
  (g:∀b∈ch,(b∈X.ex\/X.s₀.heap.objs.size<=b)/\b≠X.env.locals/\(∀x c,X.env.cells.lookup x=lD c->c≠b)/\∀p∈X.pn++Z,p.1≠b)
  (keep:∀b o,b≠X.env.locals->b∉X.fs->b∉ch->s.heap.get? b=lD o->H b=Sg->h'.get? b=lD o)
  (y:∀b o,b≠X.env.locals->b∈X.fs->b∉ch->s.heap.get? b=lD o->H b=Sg->∃sl,h'.get? b=lD {o with slots:=sl}) (free:∀b o,b∉ch->s.heap.get? b=lD o->H b=Sg->H' b=Sg)
  (A:∀b o,b∉ch->s.heap.get? b=lD o->∃o',h'.get? b=lD o')
  (YJ:∀b xs,H b=lD (.tup xs)->H' b=lD (.tup xs)) (T:∀b o u,H b=lD (.frz o u)->H' b=lD (.frz o u)) (U:∀b ps,H b=lD (.tbl ps)->∃more,H' b=lD (.tbl (ps++more)))
  (N:∀m,s.heap.Ns X.env.locals m->h'.Ns X.env.locals m) (T9:XQ X.prog X.w H' h') (R:AllBare g'):
  Inv X Z Y H' {s with heap:=h',gens:=g',drawn:=d',toks:=t'}:=by
 have E:∀b o,X.s₀.heap.get? b=lD o->b≠X.env.locals:=fun b o e=>S1 (SX (Heap.lt_size e) I.ok.above);have j:∀b o,X.s₀.heap.get? b=lD o->b∉X.ex->b∉ch:=fun b o e a B=>by
  rcases(g b B).1 with z|z
  .exact a z
  .exact absurd (SX (Heap.lt_size e) z) (Ul _)
 have h:∀x c,X.env.cells.lookup x=lD c->∀v,s.heap.IsCell c v->h'.IsCell c v:=fun x c e v ⟨o,C,J⟩=>by
  have f:c∉ch:=fun z=>(g c z).2.2.1 x c e rfl;by_cases M:c∈X.fs
  .obtain⟨sl,q⟩:=y c o (I.cne x c e) M f C (I.V1 x c e);exact⟨_,q,J⟩
  .exact⟨o,keep c o (I.cne x c e) M f C (I.V1 x c e),J⟩
 refine⟨I.ok,I.os,R,⟨fun b o e n B a=> ?_,fun b o e n B a=> ?_,fun b o e n a=> ?_,fun b o e a=> ?_,fun b xs e=>YJ b xs (I.base.YJ b xs e),fun b o xs e=>T b o xs (I.base.Yu b o xs e),fun b ps e=> ?_⟩,?_,fun x c e=> ?_,?_,fun x c e=> ?_,fun p L=> ?_,T9,I.len⟩
 .exact keep b o (E b o e) B (j b o e a) (I.base.keep b o e n B a) (I.base.free b o e n a)
 .obtain⟨sl,t⟩:=I.base.slot b o e n B a;obtain⟨G,F⟩:=y b _ (E b o e) B (j b o e a) t (I.base.free b o e n a);exact⟨G,F⟩
 .obtain⟨o',t⟩:=I.base.there b o e a;exact free b o' (j b o e a) t (I.base.free b o e n a)
 .obtain⟨o',t⟩:=I.base.there b o e a;exact A b o' (j b o e a) t
 .obtain⟨P,t⟩:=I.base.YL b ps e;obtain⟨O,F⟩:=U b _ t;exact⟨P++O,by rw[F,Array.append_assoc]⟩
 .obtain⟨m,hn,Q⟩:=I.loc
  refine⟨m,N m hn,fun i x v t F S=> ?_⟩;obtain⟨u,r,l⟩:=Q i x v t F S;refine⟨u,r,?_⟩;rcases l with l|⟨k,c,e,z⟩
  .exact .inl l
  .exact .inr ⟨k,c,e,h x c e _ z⟩
 .obtain⟨v,z⟩:=I.cell x c e;exact⟨v,h x c e v z⟩
 .obtain⟨m,⟨o,_,_,C,_⟩,_⟩:=I.loc;exact free _ o (fun z=>(g _ z).2.1 rfl) C I.free
 .obtain⟨v,o,C,J⟩:=I.cell x c e;exact free c o (fun z=>(g c z).2.2.1 x c e rfl) C (I.V1 x c e)
 .obtain⟨e,n,ne,K,d⟩:=I.pin p L;have f:p.1∉ch:=fun z=>(g p.1 z).2.2.2 p L rfl;exact⟨keep p.1 p.2 ne K f e n,free p.1 p.2 f e n,ne,K,d⟩
theorem Inv.un {t':Nat} (I:Inv X Z Y H s) (u:Un X.fs [] H H' s.heap h') (T9:XQ X.prog X.w H' h'):Inv X Z Y H' {s with heap:=h',toks:=t'}:=by obtain⟨m,⟨o,v,y,i,r⟩,_⟩:=id I.loc;obtain⟨p,l⟩:=u.any i I.free (by simp);exact I.step (g':=s.gens) (d':=s.drawn) (ch:=[]) (fun _ z=>nomatch z) (fun b o _ f _ e n=>u.keep b o e n f (by simp)) (fun b o _ f _ e n=>u.slot b o e n f (by simp)) (fun b o _ e n=>u.free b o e n (by simp)) (fun b o _ e=>u.there b o e (by simp)) u.YJ u.Yu u.YL (fun t hm=>by obtain⟨q,g,h,a,j⟩:=hm;rw[i] at a;cases a;exact⟨_,g,h,l,j⟩) T9 I.bare
theorem Inv.call {g':Array XS} {t':Nat} {d':abJ} {ch:List So} (I:Inv X Z Y H s) (u:Un (yp X.stack) ch H H' s.heap h') (T9:XQ X.prog X.w H' h') (t:AllBare g')
  (g:∀b∈ch,(b∈X.ex\/X.s₀.heap.objs.size<=b)/\b≠X.env.locals/\(∀x c,X.env.cells.lookup x=lD c->c≠b)/\∀p∈X.pn++Z,p.1≠b):
  Inv X Z Y H' {s with heap:=h',gens:=g',drawn:=d',toks:=t'}:=by
 obtain⟨m,⟨o,C,E,l,r⟩,_⟩:=id I.loc;obtain⟨y,h⟩:=u.any l I.free fun z=>(g _ z).2.1 rfl;exact I.step (ch:=ch) g (fun b o h v a e n=>u.keep b o e n (fun z=>(SS.mp (I.YH b z)).elim h v) a) (fun b o _ _ a e n=>u.any e n a) (fun b o a e n=>u.free b o e n a) (fun b o a e=>u.there b o e a) u.YJ u.Yu u.YL (fun B hm=>by obtain⟨A,i,j,f,q⟩:=hm;rw[l] at f;cases f;exact⟨_,i,j,h,q⟩) T9 t
theorem Inv.turned {t':Nat} {it:So} (I:Inv X Z Y H s) (k:∀b o,b≠it->s.heap.get? b=lD o->h'.get? b=lD o) (hn:H it=Sg) (g:it≠X.env.locals)
  (t:it∈X.ex\/X.s₀.heap.objs.size<=it) (l:∀x c,X.env.cells.lookup x=lD c->c≠it) (j:∀p∈X.pn++Z,p.1≠it):Inv X Z Y H {s with heap:=h',toks:=t'}:=by
 have f:∀b u,H b=lD u->b≠it:=fun b u e z=>by rw[z,hn] at e;cases e
 refine I.step (g':=s.gens) (d':=s.drawn) (ch:=[it]) (fun b i=> ?_) (fun b o _ _ a e _=>k b o (fun z=>a (by simp[z])) e) (fun b o _ _ a e _=>⟨o.slots,k b o (fun z=>a (by simp[z])) e⟩) (fun _ _ _ _ n=>n)
  (fun b o a e=>⟨o,k b o (fun z=>a (by simp[z])) e⟩) (fun _ _ e=>e) (fun _ _ _ e=>e) (fun b ps e=>⟨#[],by rw[e];simp⟩) (fun m hm=> ?_) (fun b u e=> ?_) I.bare
 .have e:b=it:=by simpa using i
  subst e;exact⟨t,g,l,j⟩
 .obtain⟨o,w,y,h,r⟩:=hm;exact⟨o,w,y,k _ o (Ne.symm g) h,r⟩
 .refine(I.T9 b u e).Xb (fun c v a q=>k c v ?_ q) (fun _ q=>q) fun _ _ q=>q
  rcases a with z|z
  .rw[z];exact f b u e
  .exact f c _ z
theorem Inv.tok (I:Inv X Z Y H s) (t:Nat):Inv X Z Y H {s with toks:=t}:=I.un Un.refl I.T9
theorem Inv.kept {t':Nat} (I:Inv X Z Y H s) (k:∀b u,s.heap.get? b=lD u->h'.get? b=lD u):Inv X Z Y H {s with heap:=h',toks:=t'}:=I.un (Un.kept k) (I.T9.kept k)
theorem Inv.laid {a:So} {o:HO} {t':Nat} (I:Inv X Z Y H s) (k:∀b u,s.heap.get? b=lD u->h'.get? b=lD u) (e:s.heap.objs.size<=a) (new:ObjOk X.prog X.w (bx H a o) h' a o):
  Inv X Z Y (bx H a o) {s with heap:=h',toks:=t'}:=I.un (Un.laid k e (I.T9.fresh e)) (I.T9.laid k e new)
theorem Inv.write {x e:So} {o:HO} {t':Nat} (I:Inv X Z Y H s) (f:Ps (H x)) (g:e=x\/H e=lD (.own x)) (k:∀b u,b≠e->s.heap.get? b=lD u->h'.get? b=lD u) (a:∃u,h'.get? e=lD u)
  (new:ObjOk X.prog X.w (bx H x o) h' x o):Inv X Z Y (bx H x o) {s with heap:=h',toks:=t'}:=I.un (Un.write f g k a) (I.T9.write f g k a new)
theorem Inv.ZZ (I:Inv X Z Y H s) (h:∀p∈afU,s.heap.get? p.1=lD p.2/\H p.1=Sg/\p.1≠X.env.locals/\p.1∉X.fs/\∀v,p.2.data≠ .cell v):Inv X afU Y H s:=
 ⟨I.ok,I.os,I.bare,I.base,I.loc,I.cell,I.free,I.V1,fun p a=>(Tx.mp a).elim (fun z=>I.pin p (Ud _ z)) (h p),I.T9,I.len⟩
theorem qX {N:List Str} (e:N.Nodup) {i j:Nat} (a:N[i]? =lD x) (b:N[j]? =lD x):i=j:=by obtain⟨l,g⟩:=Sl.mp a;obtain⟨h,f⟩:=Sl.mp b;exact(List.getElem_inj e).mp (g.trans f.symm)
theorem uE {M:aaI} {A:Tc} {E:Sh->Sr->Prop} {i:Nat} {x:Str} {v:V} {u:Sh} {Q:Unit->Sr->Prop} (I:Inv X Z Y H s) (hN:X.N.Nodup) (hi:X.N[i]? =lD x) (hx:Qo X.env.scope x) (r:RelV v u)
  (h:∀s',Inv X Z (Y.set i (lD v)) H s'->(∃a,Heap.SameBut a s.heap s'.heap/\(a=X.env.locals\/X.env.cells.lookup x=lD a))->Q () s') (hf:X.fn x=Si\/X.env.scope.names.lookup x=lD .local:=by first|exact .inl rfl|exact .inr rfl|assumption):wpAny M A (storeName X.env x u) Q E s:=by
 obtain⟨m,hn,hl⟩:=id I.loc;have aer:(X.env.scope.kind== .class||(X.env.scope.kind== .module&&X.env.locals !=X.env.globals))=Sq:=by rw[I.ok.kind];rfl
 have hiσ:i<Y.length:=by rw[I.len];exact(Sl.mp hi).1
 have cne:=I.cne;have tracked:∀{a:So} {h':Heap},(∃o,s.heap.get? a=lD o/\H a=Sg)->Heap.SameBut a s.heap h'->XQ X.prog X.w H h':=fun{a h'} ha hs b ob e=>by
  obtain⟨_,_,ady⟩:=ha;refine(I.T9 b ob e).Xb (fun c w' hc q=>(hs.2 c ?_).trans q) (fun _ q=>q) fun _ _ q=>q;rintro rfl;rcases hc with rfl|hc
  .rw[ady] at e;cases e
  .rw[ady] at hc;cases hc
 rcases hx with hk|hk
 .refine wpAny_storeName_local hk hn (fun h' hn' hs=> ?_) aer
  obtain⟨oL,_,_,hoL,_⟩:=id hn;refine h _ ⟨I.ok,I.os,I.bare,⟨fun b o e n hb hx=> ?_,fun b o e n hb hx=> ?_,I.base.free,fun b o e hx=> ?_,I.base.YJ,I.base.Yu,I.base.YL⟩,⟨_,hn',fun j y v' e1 e2 e3=> ?_⟩,fun y c e=> ?_,I.free,I.V1,fun p hp=> ?_,tracked ⟨oL,hoL,I.free⟩ hs,by simpa using I.len⟩ ⟨_,hs,.inl rfl⟩
  .exact(hs.2 b (S1 (SX (Heap.lt_size e) I.ok.above))).trans (I.base.keep b o e n hb hx)
  .obtain⟨sl,e1⟩:=I.base.slot b o e n hb hx;exact⟨sl,(hs.2 b (S1 (SX (Heap.lt_size e) I.ok.above))).trans e1⟩
  .obtain⟨o',e1⟩:=I.base.there b o e hx;exact⟨o',(hs.2 b (S1 (SX (Heap.lt_size e) I.ok.above))).trans e1⟩
  .by_cases hj:j=i
   .subst hj;rw[hi] at e1;cases e1;rw[TV hiσ] at e2;cases e2;exact⟨u,r,.inl ⟨hk,by simp⟩⟩
   .rw[Ts (Ne.symm hj)] at e2
    obtain⟨u',r',q⟩:=hl j y v' e1 e2 e3;refine⟨u',r',?_⟩;rcases q with⟨k,e⟩|⟨k,c,e,z⟩
    .refine .inl ⟨k,?_⟩;have:y≠x:=fun e=>hj (qX hN e1 (e▸hi));simp[this,e]
    .exact .inr ⟨k,c,e,z.sameBut hs (cne y c e)⟩
  .obtain⟨w',z⟩:=I.cell y c e;exact⟨w',z.sameBut hs (cne y c e)⟩
  .obtain⟨e,n,ne,nf,d⟩:=I.pin p hp;exact⟨(hs.2 p.1 ne).trans e,n,ne,nf,d⟩
 .have hfn:X.fn x=Si:=by
   rcases hf with z|z
   .exact z
   .rw[z] at hk;cases hk
  obtain⟨c,hc⟩:=I.ok.has x (.inl hk);obtain⟨w',z⟩:=I.cell x c hc;refine wpAny_storeName_cell I.ok.kind hk hc z (fun h' hc' hs=> ?_);obtain⟨oc,hoc,aio⟩:=id z;refine h {s with heap:=h'} ⟨I.ok,I.os,I.bare,⟨fun b o e n hb hx=> ?_,fun b o e n hb hx=> ?_,I.base.free,fun b o e hx=> ?_,I.base.YJ,I.base.Yu,I.base.YL⟩,⟨m,hn.sameBut hs (Ne.symm (cne x c hc)),fun j y v' e1 e2 e3=> ?_⟩,fun y c' e=> ?_,I.free,I.V1,fun p hp=> ?_,tracked ⟨oc,hoc,I.V1 x c hc⟩ hs,by simpa using I.len⟩ ⟨c,hs,.inr hc⟩
  .exact(hs.2 b (S1 (SX (Heap.lt_size e) (I.ok.cab x c hfn hc)))).trans (I.base.keep b o e n hb hx)
  .obtain⟨sl,e1⟩:=I.base.slot b o e n hb hx;exact⟨sl,(hs.2 b (S1 (SX (Heap.lt_size e) (I.ok.cab x c hfn hc)))).trans e1⟩
  .obtain⟨o',e1⟩:=I.base.there b o e hx;exact⟨o',(hs.2 b (S1 (SX (Heap.lt_size e) (I.ok.cab x c hfn hc)))).trans e1⟩
  .by_cases hj:j=i
   .subst hj;rw[hi] at e1;cases e1;rw[TV hiσ] at e2;cases e2;exact⟨u,r,.inr ⟨.inl hk,c,hc,hc'⟩⟩
   .rw[Ts (Ne.symm hj)] at e2
    obtain⟨u',r',q⟩:=hl j y v' e1 e2 e3;refine⟨u',r',?_⟩;rcases q with q|⟨k,c',e,z'⟩
    .exact .inl q
    .refine .inr ⟨k,c',e,z'.sameBut hs ?_⟩;rintro rfl;exact hj (qX hN e1 (I.ok.inj _ _ _ e hc▸hi))
  .by_cases hcc:c'=c
   .subst hcc;exact⟨_,hc'⟩
   .obtain⟨w2,z2⟩:=I.cell y c' e;exact⟨w2,z2.sameBut hs hcc⟩
  .obtain⟨e,n,ne,nf,d⟩:=I.pin p hp;refine⟨(hs.2 p.1 ?_).trans e,n,ne,nf,d⟩;intro q;rw[q,hoc] at e;have q':oc=p.2:=SM e;exact d w' (by rw[<-q'];exact aio)
theorem mK {i:Nat} {v:V} {u:Sh} {Q:Unit->Sr->Prop} (I:Inv X Z Y H s) (hN:X.N.Nodup) (hi:X.N[i]? =lD x) (hx:Qo X.env.scope x) (r:RelV v u)
  (h:∀s',Inv X Z (Y.set i (lD v)) H s'->Q () s') (hf:X.fn x=Si\/X.env.scope.names.lookup x=lD .local:=by first|exact .inl rfl|exact .inr rfl|assumption):wpAny M A (storeName X.env x u) Q E s:=
 uE I hN hi hx r (fun s' I' _=>h s' I') hf
theorem Inv.acd {a:Sr} {ch:List So} (I:Inv X Z Y H s) (h:a.os=s.os) (u:Un (yp X.stack) ch H H' s.heap a.heap) (T9:XQ X.prog X.w H' a.heap) (i:AllBare a.gens)
  (f:∀b∈ch,(b∈X.ex\/X.s₀.heap.objs.size<=b)/\b≠X.env.locals/\(∀x c,X.env.cells.lookup x=lD c->c≠b)/\∀p∈X.pn++Z,p.1≠b):Inv X Z Y H' a:=by
 obtain⟨h',g',d',t',g⟩:=a;have e:g=s.os:=h;subst e;exact I.call (g':=g') (t':=t') (d':=d') u T9 i f
end
abbrev XK:=Sh->Option So->Hp->Prop
abbrev St:=List (Option V)
abbrev VK:=V->Hp->Prop
abbrev TE:=St->Hp->VK->Prop
abbrev TT:=St->Hp->(Bool->Hp->Prop)->Prop
abbrev TA:=St->Hp->(List V->Hp->Prop)->Prop
structure Ends where
 nx:St->Hp->Prop
 rt:VK
 bk:St->Hp->Prop:=fun _ _=>False
 ct:St->Hp->Prop:=fun _ _=>False
abbrev TS:=Ends->St->Hp->Prop
def EP (X:Cx) (a:List (So×Obj)) (b:St) (Q:VK) (u:Sh) (e:Sr):Prop:=∃v H',Inv X a b H' e/\RelV v u/\Q v H'
def TP (X:Cx) (a:List (So×Obj)) (e:St) (Q:Bool->Hp->Prop) (b:Bool) (f:Sr):Prop:=∃H',Inv X a e H' f/\Q b H'
def AP (X:Cx) (a:List (So×Obj)) (b:St) (Q:List V->Hp->Prop) (us:List Sh) (e:Sr):Prop:=∃vs H',Inv X a b H' e/\Vals vs us/\Q vs H'
def SP (X:Cx) (a:List (So×Obj)) (D:Ends) (f:Flow) (b:Sr):Prop:=
 match f with
 | .next=>∃σ' H',Inv X a σ' H' b/\D.nx σ' H'
 | .brk=>∃σ' H',Inv X a σ' H' b/\D.bk σ' H'
 | .cont=>∃σ' H',Inv X a σ' H' b/\D.ct σ' H'
 | .ret u=>∃v σ' H',Inv X a σ' H' b/\RelV v u/\D.rt v H'
def PE (X:Cx) (e:TF) (t:TE):Prop:=
 ∀(a:List (So×Obj)) (s:Sr) (b:St) (H:Hp) (Q:VK),Inv X a b H s->t b H Q->wpAny (model X.prog X.w) X.A (eval e X.env) (EP X a b Q) X.xe s
def PT (X:Cx) (e:TF) (t:TT):Prop:=
 ∀(a:List (So×Obj)) (s:Sr) (b:St) (H:Hp) (Q:Bool->Hp->Prop),Inv X a b H s->t b H Q->wpAny (model X.prog X.w) X.A (isTrue e X.env (eval e X.env)) (TP X a b Q) X.xe s
def PW (X:Cx) (e:TF) (t:TT):Prop:=
 ∀(b:Sem Sh) (a:List (So×Obj)) (s:Sr) (f:St) (H:Hp) (Q:Bool->Hp->Prop),Inv X a f H s->t f H Q->wpAny (model X.prog X.w) X.A (isTrue e X.env b) (TP X a f Q) X.xe s
theorem PW.pt (h:PW X e t):PT X e t:=h _
def PA (X:Cx) (es:List TF) (t:TA):Prop:=
 ∀(e:Pos) (a:List (So×Obj)) (s:Sr) (b:St) (H:Hp) (Q:List V->Hp->Prop),Inv X a b H s->t b H Q->wpAny (model X.prog X.w) X.A (spliced (backTo e (SY es X.env))) (AP X a b Q) X.xe s
def PS (X:Cx) (st:UL) (t:TS):Prop:=
 ∀(a:List (So×Obj)) (s:Sr) (b:St) (H:Hp) (D:Ends),Inv X a b H s->t D b H->wpAny (model X.prog X.w) X.A (exec st X.env) (SP X a D) X.xe s
def YM (X:Cx) (st:List UL) (t:TS):Prop:=
 ∀(a:List (So×Obj)) (s:Sr) (b:St) (H:Hp) (D:Ends),Inv X a b H s->t D b H->wpAny (model X.prog X.w) X.A (execs st X.env) (SP X a D) X.xe s
theorem cz {α:Type} {t:Sem α} {Q b:α->Sr->Prop} {M:aaI} {A:Tc} {E:Sh->Sr->Prop} {s:Sr} (h:wpAny M A t Q E s) (e:∀a s,Q a s->b a s):wpAny M A t b E s:=wpAny_mono h e fun _ _ x=>x
section
variable {X:Cx}
def yr (i:Nat):TE:=fun a H Q=>∃v,a[i]? =lD (lD v)/\Q v H
def tC (v:V):TE:=fun _ H Q=>Q v H
theorem NZ (t:X.N[i]? =lD x) (p:QT X.env.scope x) (hd:(x==("__debug__":Str))=Sq:=by decide) (j:(x==("__classdict__":Str))=Sq:=by decide):PE X (.Name x pos) (yr i):=by
 intro f s o H Q I h;obtain⟨v,e,h⟩:=h;obtain⟨m,hn,q⟩:=I.loc;obtain⟨u,r,l⟩:=q i x v t e p;have b:EP X f o Q u s:=⟨v,H,I,r,h⟩;rcases l with⟨a,hm⟩|⟨a,c,n,g⟩
 .exact adG (acS I.ok.kind a hn hm b) hd
 .rcases a with a|a
  .exact adG (adm I.ok.kind a n g b) hd
  .exact adG (wpAny_loadName_free I.ok.kind a n g b j) hd
theorem bC {i j pos}:PE X (.Constant (.int i) j pos) (tC (.int i)):=fun _ _ _ H _ I h=>adH ⟨.int i,H,I.tok _,⟨_,rfl⟩,h⟩
theorem KS {b j pos}:PE X (.Constant (.bool b) j pos) (tC (.bl b)):=fun _ _ _ H _ I h=>Constant_bool ⟨.bl b,H,I,rfl,h⟩
theorem gJ {j pos}:PE X (.Constant .none j pos) (tC .UT):=fun _ _ _ H _ I h=>Constant_none ⟨.UT,H,I,rfl,h⟩
theorem hW {x j pos}:PE X (.Constant (.str x) j pos) (tC (.str x)):=fun _ _ _ H _ I h=>Calls.Constant_str ⟨.str x,H,I.tok _,⟨_,rfl⟩,h⟩
def Gl (X:Cx) (x:Str):Prop:=X.env.kindOf x=lD .globalImplicit
theorem jy (I:Inv X pins σ H s) (a:Gl X x) (hm:X.mg x=lD u) (h:Q u s)
  (hd:(x==("__debug__":Str))=Sq:=by decide):wpAny (model X.prog X.w) X.A (eval (.Name x pos) X.env) Q E s:=
 Calls.Name_function_global I.ok.kind a (Calls.loadGlobal_global (by rw[I.ok.glob];exact I.mod.glob.keeps I.bk) hm h) hd
theorem kW (I:Inv X pins σ H s) (b:Gl X x) (hm:X.mg x=Sg) (a:T1 x=lD u) (h:Q u s)
  (hn:x≠ "__name__":=by decide) (hd:(x==("__debug__":Str))=Sq:=by decide):wpAny (model X.prog X.w) X.A (eval (.Name x pos) X.env) Q E s:=by
 obtain⟨g,f,e⟩:=I.mod.blt;exact Calls.Name_function_global I.ok.kind b (Calls.loadGlobal_builtin (by rw[I.ok.glob];exact I.mod.glob.keeps I.bk) hm (by rw[I.ok.blt];exact f.keeps I.bk) ((e x hn).trans a) h) hd
theorem wR {x:Str} {v:V} {u:Sh} {a:Pos} (b:Gl X x) (hm:X.mg x=lD u) (r:RelV v u) (hd:(x==("__debug__":Str))=Sq:=by decide):PE X (.Name x a) (tC v):=
 fun _ _ _ H _ I h=>jy I b hm ⟨v,H,I,r,h⟩ hd
theorem Jj (b:Gl X x) (hm:X.mg x=Sg) (a:T1 x=lD u) (r:RelV v u) (hn:x≠ "__name__":=by decide) (hd:(x==("__debug__":Str))=Sq:=by decide):PE X (.Name x pos) (tC v):=
 fun _ _ _ H _ I h=>kW I b hm a ⟨v,H,I,r,h⟩ hn hd
variable {a b:TF} {ta Z:TE} {pos:Pos}
def PC (X:Cx) (i:CmpOp) (a b:TF) (t:TE):Prop:=
 ∀(e:List (So×Obj)) (s:Sr) (h:St) (H:Hp) (Q:VK),Inv X e h H s->t h H Q->
  wpAny (model X.prog X.w) X.A (eval a X.env) (fun v g=>wpAny (model X.prog X.w) X.A (eval b X.env) (fun u f=>wpAny (model X.prog X.w) X.A (Up i v u) (EP X e h Q) X.xe f) X.xe g) X.xe s
def tB (t:TE):TT:=fun e H Q=>t e H fun x f=>∃c,x= .bl c/\Q c f
theorem Ar (h:PC X op a b t) (f:behindInMarks op b=Sq:=by first|exact afE _ (by decide) (by decide)|rfl):PT X (.Compare a [op] [b] pos) (tB t):=by intro e s g H Q I l;refine acG (cz (h e s g H _ I l) fun v w f=>cz f fun u r m=>cz m fun c p ⟨x,o,n,i,j⟩=> ?_) f;obtain⟨d,rfl,q⟩:=j;cases i;exact Uz ⟨o,n,q⟩
theorem Ee {e:TF} {t:TE} (h:PE X e t) (m:∀whole,isTrue e X.env whole=(do let v<-whole;standAt e.pos;holding [v] (truthy v)):=by intro _;rfl):PT X e (tB t):=by intro f s g H Q I l;refine isTrue_plain (cz (h f s g H _ I l) fun v p ⟨x,o,n,i,j⟩=> ?_) (m _);obtain⟨d,rfl,q⟩:=j;cases i;exact Uz ⟨o,n,q⟩
variable {U T:TT} {Y:List TF}
def Oo (t u:TT):TT:=fun e H Q=>t e H fun c f=>if c=Si then u e f Q else Q Sq f
def Rq (t u:TT):TT:=fun e H Q=>t e H fun c f=>if c=Si then Q Si f else u e f Q
def NX (t:TT):TT:=fun e H Q=>t e H fun c f=>Q (!c) f
theorem Iq (ha:PT X a U):PW X (.BoolOp .And [a] pos) U:=by
 intro i f s g H Q I h;refine isTrue_and (cz (ha f s g H Q I h) fun c j e=> ?_);cases c with
 |true=>exact isTrue_and_nil e
 |false=>exact e
theorem Mc (ha:PT X a U):PW X (.BoolOp .Or [a] pos) U:=by
 intro i f s g H Q I h;refine isTrue_or (cz (ha f s g H Q I h) fun c j e=> ?_);cases c with
 |false=>exact isTrue_or_nil e
 |true=>exact e
theorem NT (ha:PT X a U) (n:PW X (.BoolOp .And (b::Y) pos) T):PW X (.BoolOp .And (a::b::Y) pos) (Oo U T):=by
 intro l e s f H Q I h;refine isTrue_and (cz (ha e s f H _ I h) fun c m ⟨j,i,g⟩=> ?_);cases c with
 |true=>exact n l e m f j Q i g
 |false=>exact⟨j,i,g⟩
theorem Qh (ha:PT X a U) (n:PW X (.BoolOp .Or (b::Y) pos) T):PW X (.BoolOp .Or (a::b::Y) pos) (Rq U T):=by
 intro l e s f H Q I h;refine isTrue_or (cz (ha e s f H _ I h) fun c m ⟨j,i,g⟩=> ?_);cases c with
 |true=>exact⟨j,i,g⟩
 |false=>exact n l e m f j Q i g
theorem Mf (ha:PT X a U):PT X (.UnaryOp .Not a pos) (NX U):=by intro e s f H Q I h;exact isTrue_not (ha e s f H (fun c g=>Q (!c) g) I h)
def GQ (ta Z:TE):TE:=fun e H Q=>ta e H fun x f=>∃c,x= .bl c/\if c=Si then Z e f Q else Q (.bl Sq) f
theorem zk {op} (h:PE X a t):PE X (.BoolOp op [a] pos) t:=fun e s f H Q I g=>BoolOp_one (h e s f H Q I g)
theorem zZ (ha:PE X a ta) (n:PE X (.BoolOp .And (b::Y) pos) Z):PE X (.BoolOp .And (a::b::Y) pos) (GQ ta Z):=by
 intro e s g H Q I h;refine BoolOp_and (cz (ha e s g H _ I h) fun v l ⟨x,j,i,m,f⟩=> ?_);obtain⟨c,rfl,f⟩:=f;cases m;refine Uz ?_;cases c with
 |true=>exact n e l g j Q i f
 |false=>exact⟨.bl Sq,j,i,rfl,f⟩
def Qv (t:TT) (ta Z:TE):TE:=fun e H Q=>t e H fun c f=>if c=Si then ta e f Q else Z e f Q
theorem sH (m:PT X c U) (ha:PE X a ta) (n:PE X b Z):PE X (.IfExp c a b pos) (Qv U ta Z):=by
 intro e s f H Q I h;refine wpAny_IfExp (cz (m e s f H _ I h) fun d g ⟨l,j,i⟩=> ?_);cases d with
 |true=>exact ha e g f l Q j i
 |false=>exact n e g f l Q j i
end
def Xa (K:Ld) (H:Hp) (a:So) (xs:List V):Prop:=
 Rd H a (.lst xs)\/
  ∃(o:Obj) (b:Array Sh) (n:Nat),K.lookup a=lD o/\o.cls= .type "list"/\o.dict=Sg/\o.data= .seq b n/\b.size<=SD/\Vals xs b.toList
def WZ (K:Ld) (H:Hp) (a:So) (xs:List V):Prop:=
 Rd H a (.tup xs)\/
  ∃(o:Obj) (b:Array Sh) (n:Nat),K.lookup a=lD o/\(o.cls= .type "tuple"/\o.dict=Sg)/\o.data= .seq b n/\b.size<=SD/\Vals xs b.toList
def Q6:Sh->Option V
 | .none=>lD .UT
 | .bool b=>lD (.bl b)
 | .int i _=>lD (.int i)
 | .str x _=>lD (.str x)
 | .bytes b _=>lD (.byt b)
 | .float b _=>lD (.flt b)
 | .ref a=>lD (.ref a)
 | .type n=>lD (.ty n)
 |_=>Sg
theorem RelV.abs (r:RelV x u):Q6 u=lD x:=by
 cases x with
 |UT=>cases r;rfl
 |bl _=>cases r;rfl
 |int _=>obtain⟨t,rfl⟩:=r;rfl
 |str _=>obtain⟨t,rfl⟩:=r;rfl
 |byt _=>obtain⟨t,rfl⟩:=r;rfl
 |flt _=>obtain⟨t,rfl⟩:=r;rfl
 |ref _=>cases r;rfl
 |ty _=>cases r;rfl
theorem RelV.inj (r:RelV x u) (q:RelV y u):x=y:=SM (r.abs.symm.trans q.abs)
theorem Vals.inj:∀{xs ys:List V} {us:List Sh},Vals xs us->Vals ys us->xs=ys
 |_,_,_,.nil,.nil=>rfl
 |_,_,_,.cons r t,.cons r' t'=>by rw[r.inj r',Vals.inj t t']
section
variable {X:Cx} {Z:List (So×Obj)} {Y:St} {H:Hp} {s:Sr} {a:So} {xs ys:List V}
theorem Xa.of {K:Ld} (h:H a=lD (.lst xs)):Xa K H a xs:= .inl (.inl h)
theorem WZ.of {K:Ld} (h:H a=lD (.tup xs)):WZ K H a xs:= .inl (.inl h)
theorem Inv.list (I:Inv X Z Y H s) (h:Xa X.K H a xs):∃Tt:List Sh,Vals xs Tt/\PlainL s.heap a Tt.toArray/\xs.length<=SD:=by
 rcases h with h|⟨o,Tt,n,hk,hc,hd,hs,hz,r⟩
 .obtain⟨z,Tt,n,r,e⟩:=h.ok I.T9;exact⟨Tt,r,⟨_,n,e,rfl,rfl,rfl⟩,z⟩
 .refine⟨Tt.toList,r,⟨o,n,I.XH a o hk,hc,hd,by simpa using hs⟩,?_⟩;have e:=r.length;simp only[TH] at e;omega
theorem Inv.tuple (I:Inv X Z Y H s) (h:WZ X.K H a xs):∃Tt:List Sh,Vals xs Tt/\IsTup s.heap a Tt.toArray/\xs.length<=SD:=by
 rcases h with h|⟨o,Tt,n,hk,hc,hs,hz,r⟩
 .obtain⟨z,Tt,r,p⟩:=h.ok I.T9;exact⟨Tt,r,p.tup,z⟩
 .refine⟨Tt.toList,r,⟨o,I.XH a o hk,hc.1,n,by simpa using hs⟩,?_⟩;have e:=r.length;simp only[TH] at e;omega
theorem Inv.ad4 (I:Inv X Z Y H s) (h:WZ X.K H a xs):∃Tt:List Sh,Vals xs Tt/\Y3 s.heap a Tt.toArray/\xs.length<=SD:=by
 rcases h with h|⟨o,Tt,n,hk,hc,hs,hz,r⟩
 .obtain⟨z,Tt,r,p⟩:=h.ok I.T9;exact⟨Tt,r,p,z⟩
 .refine⟨Tt.toList,r,⟨o,I.XH a o hk,⟨hc.1,n,by simpa using hs⟩,hc.2⟩,?_⟩;have e:=r.length;simp only[TH] at e;omega
theorem Inv.acB (I:Inv X Z Y H s) (h:Xa X.K H a xs) (h':Xa X.K H a ys):xs=ys:=by
 obtain⟨j,r,⟨o,n,e,_,_,d⟩,_⟩:=I.list h;obtain⟨b,i,⟨l,m,f,_,_,g⟩,_⟩:=I.list h';rw[e] at f;cases f;rw[d] at g;injection g with d1 _;have:j=b:=by simpa using congrArg adI d1
 subst this;exact r.inj i
theorem Inv.aby (I:Inv X Z Y H s) (h:WZ X.K H a xs) (h':WZ X.K H a ys):xs=ys:=by
 obtain⟨j,r,⟨o,e,_,n,d⟩,_⟩:=I.tuple h;obtain⟨b,i,⟨l,f,_,m,g⟩,_⟩:=I.tuple h';rw[e] at f;cases f;rw[d] at g;injection g with d1 _;have:j=b:=by simpa using congrArg adI d1
 subst this;exact r.inj i
end
abbrev Cx.XA (X:Cx) (E:Sh->Sr->Prop):Cx:={X with xe:=E}
abbrev Cx.nox (X:Cx):Cx:=X.XA fun _ _=>False
theorem Cx.Ok.XA {X:Cx} (ok:X.Ok) (E:Sh->Sr->Prop):(X.XA E).Ok:=
 ⟨ok.mod,ok.kind,ok.glob,ok.blt,ok.above,ok.inj,ok.has,ok.cab,ok.hd,ok.frames,ok.stk,ok.exf,ok.bs,ok.bsz,ok.aas,ok.aay,ok.Ya,ok.frf⟩
theorem Cx.Ok.Wx {X:Cx} (ok:(X.XA E).Ok):X.Ok:=
 ⟨ok.mod,ok.kind,ok.glob,ok.blt,ok.above,ok.inj,ok.has,ok.cab,ok.hd,ok.frames,ok.stk,ok.exf,ok.bs,ok.bsz,ok.aas,ok.aay,ok.Ya,ok.frf⟩
section
variable {X:Cx} {Z:List (So×Obj)} {Y:St} {H:Hp} {s:Sr} {E:Sh->Sr->Prop}
theorem Inv.XA (I:Inv X Z Y H s) (E:Sh->Sr->Prop):Inv (X.XA E) Z Y H s:=⟨I.ok.XA E,I.os,I.bare,I.base,I.loc,I.cell,I.free,I.V1,I.pin,I.T9,I.len⟩
theorem Inv.Wx (I:Inv (X.XA E) Z Y H s):Inv X Z Y H s:=⟨I.ok.Wx,I.os,I.bare,I.base,I.loc,I.cell,I.free,I.V1,I.pin,I.T9,I.len⟩
theorem SP.Wx (h:SP (X.XA E) Z D f s'):SP X Z D f s':=by
 cases f with
 |next=>obtain⟨a,b,I,q⟩:=h;exact⟨a,b,I.Wx,q⟩
 |brk=>obtain⟨a,b,I,q⟩:=h;exact⟨a,b,I.Wx,q⟩
 |cont=>obtain⟨a,b,I,q⟩:=h;exact⟨a,b,I.Wx,q⟩
 |ret u=>obtain⟨v,a,b,I,r,q⟩:=h;exact⟨v,a,b,I.Wx,r,q⟩
theorem YM.nox {st:List UL} (h:YM X.nox st t):YM X st t:=fun Z s Y H D I a=>
 wpAny_mono (h Z s Y H D (I.XA _) a) (fun _ _ q=>q.Wx) fun _ _ z=>False.elim z
end
section
variable {X:Cx} {st:UL} {Y:List UL} {t u:TS} {e:TF} {Z:TE} {pos:Pos}
def FH:TS:=fun D a H=>D.nx a H
def JJ (t u:TS):TS:=fun D a H=>t {D with nx:=u D} a H
theorem lu:YM X [] FH:=fun _ _ a H _ I h=>VV ⟨a,H,I,h⟩
theorem am (l:PS X st t) (j:YM X Y u):YM X (st::Y) (JJ t u):=by
 intro a s g H D I h;refine ZN (cz (l a s g H {D with nx:=u D} I h) fun f i q=> ?_);cases f with
 |next=>obtain⟨b,n,m,q⟩:=q;exact j a i b n D m q
 |ret v=>exact q
 |brk=>exact q
 |cont=>exact q
theorem aR (g:PS X st t):YM X [st] t:=by
 intro a s b H D I h;refine ZN (cz (g a s b H D I h) fun f i q=> ?_);cases f with
 |next=>exact VV q
 |ret v=>exact q
 |brk=>exact q
 |cont=>exact q
theorem Inv.quiet {a:List (So×Obj)} {b:St} {H:Hp} {s:Sr} (I:Inv X a b H s):interactive X.env=Sq:=by simp[interactive,I.ok.kind]
def zb (Z:TE):TS:=fun D a H=>Z a H fun _ b=>D.nx a b
theorem gq (i:PE X e Z) (g:Uk e Sg pos.line X.env=pure Sq:=by rfl):PS X (.Expr e pos) (zb Z):=by intro a s b H D I h;exact ahh (cz (i a s b H _ I h) fun v m ⟨x,l,j,n,f⟩=>⟨b,l,j,f⟩) I.quiet g
def JR (Z:TE):TS:=fun D a H=>Z a H D.rt
theorem dm (i:PE X e Z):PS X (.Return (lD e) pos) (JR Z):=by intro a s b H D I h;exact wpAny_Return_some (cz (i a s b H _ I h) fun v m ⟨x,l,j,f,g⟩=>⟨x,b,l,j,f,g⟩)
def LQ:TS:=fun D _ H=>D.rt .UT H
theorem Kg:PS X (.Return Sg pos) LQ:=fun _ _ a H _ I h=>wpAny_Return_none ⟨.UT,a,H,I,rfl,h⟩
def Nr (c:TT) (t u:TS):TS:=fun D a H=>c a H fun b f=>if b=Si then t D a f else u D a f
theorem uv (n:PT X c tc) (ha:YM X a t) (o:YM X b u):PS X (.If c a b pos) (Nr tc t u):=by
 intro f s g H D I h;refine wpAny_If (cz (n f s g H _ I h) fun d i ⟨m,l,j⟩=> ?_);cases d with
 |true=>exact ha f i g m D l j
 |false=>exact o f i g m D l j
end
abbrev TG:=V->St->Hp->(St->Hp->Prop)->Prop
abbrev Nm:=List V->St->Hp->(St->Hp->Prop)->Prop
def PG (X:Cx) (a:TF) (t:TG):Prop:=
 ∀(b:List (So×Obj)) (s:Sr) (e:St) (H:Hp) (v:V) (u:Sh) (Q:St->Hp->Prop),Inv X b e H s->RelV v u->t v e H Q->
  wpAny (model X.prog X.w) X.A (assign a X.env u) (fun _ f=>∃σ' H',Inv X b σ' H' f/\Q σ' H') X.xe s
def QV (X:Cx) (f:List TF) (t:Nm):Prop:=
 ∀(a:List (So×Obj)) (s:Sr) (b:St) (H:Hp) (vs:List V) (e:List Sh) (Q:St->Hp->Prop),Inv X a b H s->Vals vs e->t vs b H Q->
  wpAny (model X.prog X.w) X.A (assignInOrder ((assignEach f X.env).map (·.2)) e) (fun _ g=>∃σ' H',Inv X a σ' H' g/\Q σ' H') X.xe s
abbrev Rj:=V->V->Hp->VK->Prop
def Q8 (X:Cx) (e:Operator) (t:Rj):Prop:=
 ∀(a:List (So×Obj)) (s:Sr) (b:St) (H:Hp) (x y:V) (v u:Sh) (Q:VK),Inv X a b H s->RelV x v->RelV y u->t x y H Q->
  wpAny (model X.prog X.w) X.A (inplaceOp e v u) (EP X a b Q) X.xe s
section
variable {X:Cx} {pos:Pos}
def xL (i:Nat):TG:=fun v a H Q=>Q (a.set i (lD v)) H
theorem bL (hN:X.N.Nodup) (hi:X.N[i]? =lD x) (hx:Qo X.env.scope x) (hf:X.fn x=Si\/X.env.scope.names.lookup x=lD .local:=by first|exact .inl rfl|exact .inr rfl|assumption):PG X (.Name x pos) (xL i):=by intro pins s σ H v u Q I r h;exact aeu (mK I hN hi hx r (fun s' I'=>⟨_,H,I',h⟩) hf)
def Ot:Nm:=fun vs a H Q=>vs=[]/\Q a H
def Hv (t:TG) (u:Nm):Nm:=fun vs b H Q=>∃v r,vs=v::r/\t v b H fun a e=>u r a e Q
theorem mS:QV X [] Ot:=by intro a s b H vs f Q I r h;obtain⟨e,h⟩:=h;subst e;cases r;exact assignInOrder_nil ⟨b,H,I,h⟩
theorem eS (n:PG X e t) (m:QV X es u)
  (l:(assignEach (e::es) X.env).map (·.2)=assign e X.env::(assignEach es X.env).map (·.2):=by rfl):QV X (e::es) (Hv t u):=by
 intro a s f H vs y Q I r h;obtain⟨v,w,o,h⟩:=h;subst o;cases r with
 |cons r i=>rw[l];refine assignInOrder_cons (cz (n a s f H _ _ _ I r h) fun _ g ⟨b,q,p,j⟩=> ?_);exact m a g b q _ _ Q p i j
def MX (K:Ld) (n:Nat) (t:Nm):TG:=fun v b H Q=>∃a xs,v= .ref a/\WZ K H a xs/\xs.length=n/\t xs b H Q
theorem qY (q:X.calm=Si) (h:QV X es t)
  (hn:(assignEach es X.env).length=n:=by rfl) (dJ:(assignEach es X.env).findIdx? (·.1)=Sg:=by rfl):PG X (.Tuple es k pos) (MX X.K n t):=by
 intro f s i H v u Q I r g;obtain⟨a,xs,w,m,p,g⟩:=g;subst w;cases r;obtain⟨C,rv,l,A⟩:=I.tuple m;refine assign_Tuple_tuple (I.ok.hd q) l (by simp[hn,<-p,rv.length]) dJ fun B j=> ?_;have y:=I.kept (t':=s.toks) fun b o e=>j b o (S1 (Heap.lt_size e)) e;exact h f _ i H xs _ Q y (by simpa using rv) g
def HC (b:TE) (g:TG):TS:=fun D a H=>b a H fun x e=>g x a e D.nx
theorem M3 (o:PE X e te) (n:PG X tg g) (m:swapsWithSole [tg] e pos.line X.env=pure Sq:=by rfl) (l:swappedStores [tg] e X.env=pure Sg:=by rfl)
  (p:(assignEach [tg] X.env).map (·.2)=[assign tg X.env]:=by rfl):PS X (.Assign [tg] e pos) (HC te g):=by
 intro a s b H D I h;refine wpAny_Assign_stores (cz (o a s b H _ I h) fun v f ⟨x,t,r,i,j⟩=> ?_) m l;rw[p];exact cz (n a f b t x v _ r i j) fun _ u q=>q
theorem dh {i:Nat} {x:Str} {e:TF} {te:TE} {pos':Pos} (hN:X.N.Nodup) (hi:X.N[i]? =lD x) (hx:Qo X.env.scope x) (he:PE X e te) (hs:Uk e (lD (.Name x pos')) pos.line X.env=pure Sq:=by rfl) (hf:X.fn x=Si\/X.env.scope.names.lookup x=lD .local:=by first|exact .inl rfl|exact .inr rfl|assumption):
  PS X (.Assign [.Name x pos'] e pos) (HC te (xL i)):=by
 intro pins s σ H D I h;refine wpAny_Assign_Name (cz (he pins s σ H _ I h) fun v s1 ⟨y,H1,I1,r1,q1⟩=> ?_) hs;exact mK I1 hN hi hx r1 (fun s2 I2=>⟨_,H1,I2,q1⟩) hf
def O0 (i:Nat) (e:TE) (b:Rj):TS:=fun D a H=>∃x,a[i]? =lD (lD x)/\e a H fun y g=>b x y g fun z f=>D.nx (a.set i (lD z)) f
theorem MB (hN:X.N.Nodup) (hi:X.N[i]? =lD x) (hx:Qo X.env.scope x) (he:PE X e te) (ho:Q8 X op ti) (hf:X.fn x=Si\/X.env.scope.names.lookup x=lD .local:=by first|exact .inl rfl|exact .inr rfl|assumption):
  PS X (.AugAssign (.Name x pos') op e pos) (O0 i te ti):=by
 intro pins s σ H D I h;obtain⟨v,e1,h⟩:=h;obtain⟨m,hn,hl⟩:=I.loc;have vis:QT X.env.scope x:=by rcases hx with k|k;exact .inl k;exact .inr (.inl k)
 obtain⟨u,r,l⟩:=hl i x v hi e1 vis;refine wpAny_AugAssign_Name ?_;have go:wpAny (model X.prog X.w) X.A (eval e X.env) (fun w s₂=>wpAny (model X.prog X.w) X.A (inplaceOp op u w) (fun r s₃=>wpAny (model X.prog X.w) X.A (storeName X.env x r) (fun _=>SP X pins D .next) X.xe s₃) X.xe s₂) X.xe s:=by refine cz (he pins s σ H _ I h) fun w s1 ⟨y,H1,I1,r1,q1⟩=> ?_;refine cz (ho pins s1 σ H1 v y u w _ I1 r r1 q1) fun z s2 ⟨zv,H2,I2,r2,q2⟩=> ?_;exact mK I2 hN hi hx r2 (fun s3 I3=>⟨_,H2,I3,q2⟩) hf
 rcases l with⟨hk,hm⟩|⟨hk,c,hc,abq⟩
 .exact acS I.ok.kind hk hn hm go
 .rcases hk with hk|hk
  .exact adm I.ok.kind hk hc abq go
  .rcases hx with k|k
   .have:X.env.scope.names.lookup x=lD .free:=hk;rw[k] at this;cases this
   .have:X.env.scope.names.lookup x=lD .free:=hk;rw[k] at this;cases this
def Rx (f:Int->Int->Int):Rj:=fun x y H Q=>∃i j,x= .int i/\y= .int j/\Q (.int (f i j)) H
theorem MP:Q8 X .Add (Rx fun i j=>i+j):=by intro a s l H x y v u Q I e b h;obtain⟨i,j,g,f,q⟩:=h;subst g;subst f;obtain⟨t,rfl⟩:=e;obtain⟨m,rfl⟩:=b;exact iadd_int ⟨.int _,H,I.tok _,⟨_,rfl⟩,q⟩
end
section
variable {X:Cx} {pos:Pos}
def Gs (c:TT) (f:TS):TS:=fun D a H=>∃W:Nat->St->Hp->Prop,(∃m,W m a H)/\∀m a H,W m a H->
 c a H fun b e=>if b=Si then∃N:St->Hp->Prop,(∀σ' H',N σ' H'->∃m',m'<m/\W m' σ' H')/\f {D with nx:=N,ct:=N,bk:=D.nx} a e else D.nx a e
theorem yP (r:XT (model X.prog X.w) X.A X.env X.xe) (M:PT X c tc) (O:YM X body tb):PS X (.While c body [] pos) (Gs tc tb):=by
 intro e s C H D I h;obtain⟨W,⟨L,F⟩,turn⟩:=h;refine wpAny_While (codeAny_whileLoop (fun n K=>∃σ' H',Inv X e σ' H' K/\W n σ' H') ?_ L ⟨C,H,I,F⟩);rintro n J ⟨g,B,P,E⟩;refine Vi r (cz (M e J g B _ P (turn n g B E)) fun b G ⟨y,u,l⟩=> ?_);cases b with
 |true=>
  obtain⟨N,t,l⟩:=l;rw[if_pos rfl];refine Vi r (cz (O e G g y _ u l) fun f Q j=> ?_);cases f with
  |next=>obtain⟨a,i,q,o⟩:=j;obtain⟨p,hm,m⟩:=t a i o;exact⟨p,hm,a,i,q,m⟩
  |cont=>obtain⟨a,i,q,o⟩:=j;obtain⟨p,hm,m⟩:=t a i o;exact⟨p,hm,a,i,q,m⟩
  |brk=>exact j
  |ret v=>exact j
 |false=>rw[if_neg SH];exact VV ⟨g,y,u,l⟩
end
structure It where
 go:Nat->Hp->Prop
 yld:Nat->Hp->V->Hp->Prop
 stop:Nat->Hp->Prop
def mZ (X:Cx) (a:List (So×Obj)) (H:Hp) (b:So):Prop:=
 H b=Sg/\b≠X.env.locals/\b∉X.fs/\(b∈X.ex\/X.s₀.heap.objs.size<=b)/\(∀x c,X.env.cells.lookup x=lD c->c≠b)/\∀p∈X.pn++a,p.1≠b
theorem Inv.aax (I:Inv X pins σ H s) (a:s.heap.objs.size<=b) (hn:H' b=Sg):mZ X pins H' b:=by
 refine⟨hn,TY (SX I.lt a),I.ahD a,.inr (Tg I.sz a),fun x c e z=> ?_,fun p f z=> ?_⟩
 .obtain⟨v,q⟩:=I.cell x c e;exact absurd (SX q.lt (by rw[z];exact a)) (Ul _)
 .exact absurd (SX (Heap.lt_size (I.pin p f).1) (by rw[z];exact a)) (Ul _)
structure Turn (P:S0) (w:Tn) (K:Ld) (tg:TF) (J:It) (fp:List So) (it:So) (tn:Nat->Heap->Prop):Prop where
 mem:it∈fp
 obj:∀i h,tn i h->∀b∈fp,∃o,h.get? b=lD o/\∀v,o.data≠ .cell v
 keep:∀i h h',tn i h->(∀b∈fp,∀o,h.get? b=lD o->h'.get? b=lD o)->tn i h'
 item:∀(X:Cx),X.prog=P->X.w=w->X.K=K->X.calm=Si->∀(i:Nat) (pins:List (So×Obj)) (s:Sr) (σ:St) (H:Hp) (E:Sh->Sr->Prop),Inv X pins σ H s->(∀b∈fp,mZ X pins H b)->tn i s.heap->J.go i H->
  wpAny (model P w) X.A (pyNext (.ref it)) (fun r s1=>∃u,r=lD u/\
   wpAny (model P w) X.A (letOwnedTupleGo tg (.ref it) u) (fun _ s2=>∃x H',Inv X pins σ H' s2/\RelV x u/\J.yld i H x H'/\tn (i+1) s2.heap/\∀b∈fp,H' b=Sg) E s1) E s
 done:∀(X:Cx),X.prog=P->X.w=w->X.K=K->X.calm=Si->∀(i:Nat) (pins:List (So×Obj)) (s:Sr) (σ:St) (H:Hp) (E:Sh->Sr->Prop),Inv X pins σ H s->(∀b∈fp,mZ X pins H b)->tn i s.heap->J.stop i H->
  wpAny (model P w) X.A (pyNext (.ref it)) (fun r s1=>r=Sg/\Inv X pins σ H s1) E s
 self:∀(A:Tc) (i:Nat) (s:Sr) (Q:Sh->Sr->Prop) (E:Sh->Sr->Prop),tn i s.heap->Q (.ref it) s->wpAny (model P w) A (pyIter (.ref it)) Q E s
abbrev TI:=St->Hp->(It->Hp->Prop)->Prop
def RA (X:Cx) (a:List (So×Obj)) (l:St) (m:TF) (R:It->Hp->Prop) (e:Sh) (h:Sr):Prop:=
 ∃(i:So) (j:List So) (g:Nat->Heap->Prop) (J:It) (f:Hp),e= .ref i/\Inv X a l f h/\Turn X.prog X.w X.K m J j i g/\g 0 h.heap/\(∀b∈j,mZ X a f b)/\R J f
def PI (X:Cx) (g b:TF) (f:TI):Prop:=
 ∀(a:List (So×Obj)) (s:Sr) (e:St) (H:Hp) (R:It->Hp->Prop),Inv X a e H s->f e H R->
  wpAny (model X.prog X.w) X.A (eval b X.env) (fun v h=>wpAny (model X.prog X.w) X.A (pyIter v) (RA X a e g R) X.xe h) X.xe s
theorem Fx {M:aaI} {A:Tc} {E:Sh->Sr->Prop} {s:Sr} {b:TF} {it:So} {u:Sh} {o:Obj} {n:String} {vs:Array Sh} {Q:Unit->Sr->Prop} (e:s.heap.get? it=lD o) (f:o.cls= .type n) (hd:o.data= .fields vs)
  (hn:["enumerate","zip","dict_itemiterator","dict_reverseitemiterator","odict_iterator","itertools.zip_longest","itertools.pairwise"].contains n=Sq) (a:Q () s):wpAny M A (letOwnedTupleGo b (.ref it) u) Q E s:=by
 unfold letOwnedTupleGo;cases b<;>first
  |exact Ss a
  |(cases u<;>first
    |exact Ss a
    |(refine Sf (adJ e ?_)
      rw[f,hd];show wpAny M A (if(["enumerate","zip","dict_itemiterator","dict_reverseitemiterator","odict_iterator","itertools.zip_longest","itertools.pairwise"].contains n&&vs[0]? ==lD (rawInt _))=Si then _ else _) Q E s;rw[if_neg (by intro h;rw[hn,WB] at h;cases h)];exact Ss a))
def Rb (K:Ld) (a:So):It:=
 ⟨fun i H=>∃xs x,Xa K H a xs/\xs[i]? =lD x,fun i H x b=>b=H/\∀xs,Xa K H a xs->xs[i]? =lD x,fun i H=>∃xs,Xa K H a xs/\xs.length<=i⟩
def Rf (K:Ld) (a:So):It:=
 ⟨fun i H=>∃xs x,WZ K H a xs/\xs[i]? =lD x,fun i H x b=>b=H/\∀xs,WZ K H a xs->xs[i]? =lD x,fun i H=>∃xs,WZ K H a xs/\xs.length<=i⟩
def QP (lo:Int) (n:Nat):It:=⟨fun i _=>i<n,fun i H x a=>a=H/\x= .int (lo+i),fun i _=>n<=i⟩
theorem Dz {K:Ld} (a it:So):Turn P w K tg (Rb K a) [it] it (fun i h=>h.IsListIter it a i) where
 mem:=by simp
 obj:=fun i h f b g=>by
  have e:b=it:=by simpa using g
  subst e;obtain⟨o,e,c,d⟩:=f;exact⟨o,e,fun v z=>by rw[d] at z;cases z⟩
 keep:=fun i h M f k=>f.at fun o e=>k it (by simp) o e
 item:=by intro X y r A L i l s N H E I n f t;subst y r A;obtain⟨xs,x,m,q⟩:=t;obtain⟨Z,rv,p,R⟩:=I.list m;obtain⟨u,T,Q⟩:=rv.get q;obtain⟨J,G,U,F,C,B⟩:=n it (by simp);refine wpAny_pyNext_list_item f p.isList (by simpa using T) fun M j O=> ?_;have I1:=I.turned (t':=s.toks) (fun b o g e=>(O.2 b g).trans e) J G F C B;obtain⟨o,e,c,d⟩:=id j;exact⟨u,rfl,Fx e c d (by decide) ⟨x,H,I1,Q,⟨rfl,fun ys S=>by rw[I.acB S m];exact q⟩,j,fun b g=>(n b g).1⟩⟩
 done:=by intro X y r A L i l s N H E I n f t;subst y r A;obtain⟨xs,m,q⟩:=t;obtain⟨Z,rv,p,R⟩:=I.list m;obtain⟨J,G,U,F,C,B⟩:=n it (by simp);have hl:=rv.length;exact wpAny_pyNext_list_end (I.ok.hd L) f p.isList (by simp;omega) fun M Y=>⟨rfl,I.turned (fun b o g e=>Y b o g e) J G F C B⟩
 self:=fun _ _ _ _ _ f h=>wpAny_pyIter_listiter f h
theorem AI {K:Ld} (a it:So):Turn P w K tg (Rf K a) [it] it (fun i h=>h.IsTupleIter it a i) where
 mem:=by simp
 obj:=fun i h f b g=>by
  have e:b=it:=by simpa using g
  subst e;obtain⟨o,e,c,d⟩:=f;exact⟨o,e,fun v z=>by rw[d] at z;cases z⟩
 keep:=fun i h N f k=>f.at fun o e=>k it (by simp) o e
 item:=by intro X y r A M i l s O H E I n f t;subst y r A;obtain⟨xs,x,m,q⟩:=t;obtain⟨L,rv,p,S⟩:=I.tuple m;obtain⟨u,U,R⟩:=rv.get q;obtain⟨J,G,Y,F,C,B⟩:=n it (by simp);refine wpAny_pyNext_tuple_item f (show s.heap.IsTuple a L.toArray from p) (by simpa using U) fun N j Q=> ?_;have I1:=I.turned (t':=s.toks) (fun b o g e=>(Q.2 b g).trans e) J G F C B;obtain⟨o,e,c,d⟩:=id j;exact⟨u,rfl,Fx e c d (by decide) ⟨x,H,I1,R,⟨rfl,fun ys T=>by rw[I.aby T m];exact q⟩,j,fun b g=>(n b g).1⟩⟩
 done:=by intro X y r A M i l s O H E I n f t;subst y r A;obtain⟨xs,m,q⟩:=t;obtain⟨L,rv,p,S⟩:=I.tuple m;obtain⟨J,G,Y,F,C,B⟩:=n it (by simp);have hl:=rv.length;exact wpAny_pyNext_tuple_end (I.ok.hd M) f (show s.heap.IsTuple a L.toArray from p) (by simp;omega) fun N Z=>⟨rfl,I.turned (fun b o g e=>Z b o g e) J G F C B⟩
 self:=fun _ _ _ _ _ f h=>wpAny_pyIter_tupleiter f h
theorem Aq {K:Ld} (it:So) (lo:Int) (n:Nat):Turn P w K tg (QP lo n) [it] it (fun i h=>IsRangeIter h it (lo+(i:Nat)*1) ((n:Int) - (i:Nat)) 1) where
 mem:=by simp
 obj:=fun i h a b g=>by
  have e:b=it:=by simpa using g
  subst e;exact⟨_,a,fun v z=>by have L:=z;cases L⟩
 keep:=fun i h y a k=>k it (by simp) _ a
 item:=by intro X r m u q i f s J H E I l a p;subst r m u;obtain⟨G,F,Q,C,B,A⟩:=l it (by simp);have W:=Walks.range (prog:=X.prog) (w:=X.w) (I.ok.hd q) it lo 1 n;refine W.item i s _ _ p a fun v y M O j N=> ?_;obtain⟨t,rfl⟩:=O;have S:Inv X f J H {s with heap:=y,toks:=M}:=I.turned (fun b o g e=>N b o (by simpa using g) e) G F C B A;refine⟨_,rfl,Fx j rfl rfl (by decide) ⟨.int (lo+i),H,S,⟨t,?_⟩,⟨rfl,rfl⟩,j,fun b g=>(l b g).1⟩⟩;rw[Int.mul_one]
 done:=by intro X r m u q i f s J H E I l a p;subst r m u;obtain⟨G,F,Q,C,B,A⟩:=l it (by simp);exact wpAny_pyNext_range_end (I.ok.hd q) a (by have:n<=i:=p;omega) fun y R=>⟨rfl,I.turned (fun b o g e=>R b o g e) G F C B A⟩
 self:=fun _ _ _ _ _ a h=>wpAny_pyIter_rangeiter a h
section
variable {X:Cx} {Z:TF}
theorem GY {a:List (So×Obj)} {f:St} {H:Hp} {s:Sr} {R:It->Hp->Prop} {E:Sh->Sr->Prop} {lo hi:Int} {t u v:Tok} {g:Nat} (I:Inv X a f H s) (n: -(2^62)<=lo) (m:lo<2^62) (l: -(2^62)<=hi) (j:hi<2^62)
  (q:R (QP lo (hi - lo).toNat) H):wpAny (model X.prog X.w) X.A (pyIter (.ref s.heap.objs.size)) (RA X a f Z R) E {s with heap:=s.heap.push {cls:= .type "range",data:= .fields #[.int lo t,.int hi u,.int 1 v]},toks:=g}:=by
 refine wpAny_pyIter_range (IsRange.new ..) (small_one n m l j) ?_;have h:Inv X a f H {s with heap:=s.heap.push {cls:= .type "range",data:= .fields #[.int lo t,.int hi u,.int 1 v]},toks:=g}:=I.kept fun b o e=>Heap.get?_push_of_some _ e;refine⟨(s.heap.push {cls:= .type "range",data:= .fields #[.int lo t,.int hi u,.int 1 v]}).objs.size,[(s.heap.push {cls:= .type "range",data:= .fields #[.int lo t,.int hi u,.int 1 v]}).objs.size],_,_,H,rfl,
  h.kept (t':=g) fun b o e=>Heap.get?_push_of_some _ e,Aq _ lo (hi - lo).toNat,?_,fun b i=> ?_,q⟩
 .have r:lo+((0:Nat):Int)*1=lo:=by simp
  have p:(((hi - lo).toNat:Nat):Int) - ((0:Nat):Int)=Builtin.Range.rangeSize lo hi 1:=by rw[rangeSize_one];split<;>omega
  show IsRangeIter _ _ (lo+((0:Nat):Int)*1) ((((hi - lo).toNat:Nat):Int) - ((0:Nat):Int)) 1;rw[r,p];exact Heap.get?_push_size _ rfl
 .have e:b=(s.heap.push {cls:= .type "range",data:= .fields #[.int lo t,.int hi u,.int 1 v]}).objs.size:=by simpa using i
  subst e;exact h.aax (Sw _) (h.T9.fresh (Sw _))
def LW (ta:TA):TI:=fun a H R=>ta a H fun vs b=>∃j:Int,vs=[.int j]/\ -(2^62)<=j/\j<2^62/\R (QP 0 j.toNat) b
theorem fY (o:Gl X "range") (hm:X.mg "range"=Sg) (ha:PA X [a] ta) (n:SY [a] X.env=[(Sq,eval a X.env)]:=by rfl):PI X Z (.Call (.Name "range" p) [a] [] pos) (LW ta):=by
 intro b s g H R I h;refine Call_ (kW I o hm boot_range (Us (cz (ha pos b s g H _ I h) fun v w ⟨vs,y,u,l,f⟩=> ?_) n rfl));obtain⟨j,e,f,m,q⟩:=f;subst e;cases l with
 |cons r i=>cases i;obtain⟨t,rfl⟩:=r;exact call_range_1 (GY u (by omega) (by omega) f m (by simpa using q))
def M0 (e:TI) (g:TG) (f:TS):TS:=fun D a H=>e a H fun J j=>∃W:Nat->Nat->St->Hp->Prop,(∃m,W 0 m a j)/\∀i m a H,W i m a H->
 (J.stop i H/\D.nx a H)\/(J.go i H/\∃N:St->Hp->Prop,(∀σ' H',N σ' H'->∃m',m'<m/\W (i+1) m' σ' H')/\∀x H',J.yld i H x H'->g x a H' fun b h=>f {D with nx:=N,ct:=N,bk:=D.nx} b h)
def r8 (fp:List So) (h:Heap):List (So×Obj):=fp.filterMap fun b=>(h.get? b).map fun o=>(b,o)
theorem jV (a:b∈fp) (e:h.get? b=lD o):(b,o)∈r8 fp h:=WC.mpr ⟨b,a,by rw[e];rfl⟩
theorem D2 (a:p∈r8 fp h):p.1∈fp/\h.get? p.1=lD p.2:=by
 obtain⟨b,f,e⟩:=WC.mp a;cases q:h.get? b with
 |none=>rw[q] at e;cases e
 |some o=>rw[q] at e;have g:=SM e;subst g;exact⟨f,q⟩
theorem Inv.pinned (I:Inv X pins σ H s) (i:∀b∈fp,mZ X pins H b) (h:∀b∈fp,∃o,s.heap.get? b=lD o/\∀v,o.data≠ .cell v):Inv X (pins++r8 fp s.heap) σ H s:=
 I.ZZ fun p g=>(Tx.mp g).elim (fun z=>I.pin p (To _ z)) fun z=>by obtain⟨a,e⟩:=D2 z;obtain⟨m,l,j,_⟩:=i p.1 a;obtain⟨o,f,d⟩:=h p.1 a;rw[e] at f;cases f;exact⟨e,m,l,j,d⟩
theorem Inv.Yr (I:Inv X (pins++pl) σ H s):Inv X pins σ H s:=I.ZZ fun p a=>I.pin p (To _ (Ud _ a))
theorem sG (M:XT (model X.prog X.w) X.A X.env X.xe) (hc:X.calm=Si) (hi:PI X Z iter wi) (hg:PG X Z g) (p:YM X body tb)
  (hs:∀x,foldedSetIterable iter X.env x=pure x:=by intro _;rfl):PS X (.For Z iter body [] pos) (M0 wi g tb):=by
 intro j s σ H D I h;refine wpAny_For (cz (hi j s σ H _ I h) fun v s1 h1=>cz h1 fun itv s2 h2=> ?_) hs;obtain⟨it,P,tn,J,H2,e,I2,T,S,f2,W,⟨m0,w0⟩,turn⟩:=h2;subst e;have F:∀{B:Hp},(∀b∈P,B b=Sg)->∀b∈P,mZ X j B b:=fun hn b p=>⟨hn b p,(f2 b p).2⟩;refine codeAny_forLoop_any (fun n s'=>∃i σ' B,Inv X j σ' B s'/\tn i s'.heap/\(∀b∈P,B b=Sg)/\W i n σ' B) ?_ m0 ⟨0,σ,H2,I2,S,fun b p=>(f2 b p).1,w0⟩;rintro n s3 ⟨i,l,Q,I3,K,O,w3⟩;rcases turn i n l Q w3 with⟨G,qn⟩|⟨go,N,hN,step⟩
 .refine Vi M (cz (T.done X rfl rfl rfl hc i j s3 l Q X.xe I3 (F O) K G) fun r s4 ⟨Y,I4⟩=> ?_);subst Y;exact VV ⟨l,Q,I4,qn⟩
 .refine Vi M (cz (T.item X rfl rfl rfl hc i j s3 l Q X.xe I3 (F O) K go) fun r s4 ⟨u,Y,h4⟩=> ?_)
  subst Y;refine Vi M (cz h4 fun _ s5 ⟨x,H5,I5,r5,y5,E,fr5⟩=> ?_);have I5':=I5.pinned (F fr5) (T.obj _ _ E);refine Vi M (cz (hg _ s5 l H5 x u _ I5' r5 (step x H5 y5)) fun _ s6 ⟨R,H6,I6,q6⟩=> ?_);refine Vi M (cz (p _ s6 R H6 _ I6 q6) fun f U C=> ?_);have q:∀{a:St} {y:Hp},Inv X (j++r8 P s5.heap) a y U->N a y->∃m,m<n/\∃i σ' B,Inv X j σ' B U/\tn i U.heap/\(∀b∈P,B b=Sg)/\W i m σ' B:=fun{a y} t L=>by obtain⟨m',hm,w7⟩:=hN a y L;refine⟨m',hm,i+1,a,y,t.Yr,T.keep _ _ _ E fun b p o e=>(t.pin (b,o) (To _ (To _ (jV p e)))).1,fun b p=> ?_,w7⟩;obtain⟨o,e,d⟩:=T.obj _ _ E b p;exact(t.pin (b,o) (To _ (To _ (jV p e)))).2.1
  cases f with
  |next=>obtain⟨a,y,t,L⟩:=C;exact q t L
  |cont=>obtain⟨a,y,t,L⟩:=C;exact q t L
  |brk=>obtain⟨a,y,t,C⟩:=C;exact⟨a,y,t.Yr,C⟩
  |ret v=>obtain⟨x7,a,y,t,r7,C⟩:=C;exact⟨x7,a,y,t.Yr,r7,C⟩
end
abbrev R2:=V->V->Hp->VK->Prop
def OpR (X:Cx) (f:Sh->Sh->Sem Sh) (r:R2):Prop:=
 ∀(a:List (So×Obj)) (s:Sr) (b:St) (H:Hp) (x y:V) (v u:Sh) (Q:VK),Inv X a b H s->RelV x v->RelV y u->r x y H Q->
  wpAny (model X.prog X.w) X.A (f v u) (EP X a b Q) X.xe s
def VR (X:Cx) (f:Sh) (r:List V->Hp->VK->Prop):Prop:=
 ∀(a:List (So×Obj)) (s:Sr) (b:St) (H:Hp) (xs:List V) (e:List Sh) (Q:VK),Inv X a b H s->Vals xs e->r xs H Q->
  wpAny (model X.prog X.w) X.A (call f e) (EP X a b Q) X.xe s
def LC (r:R2) (ta b:TE):TE:=fun a H Q=>ta a H fun x f=>b a f fun y e=>r x y e Q
def rI (C:Int->Int->Prop) (g:Int->Int->V):R2:=fun x y H Q=>∃i j,x= .int i/\y= .int j/\C i j/\Q (g i j) H
def zg (g:Int->Int->V):R2:=fun x y H Q=>∃i j,x= .int i/\y= .int j/\Q (g i j) H
section
variable {X:Cx} {a b c:TF} {ta Z tc:TE} {pos:Pos}
theorem MO (ha:PE X a ta) (n:PE X b Z) {R:V->V->Hp->Prop} (I:Inv X pins σ H s)
  (h:ta σ H fun x H1=>Z σ H1 fun y H2=>R x y H2) {f:Sh->Sh->Sem Sh}
  (m:∀v u s2 x y H2,Inv X pins σ H2 s2->RelV x v->RelV y u->R x y H2->wpAny (model X.prog X.w) X.A (f v u) Q X.xe s2):
  wpAny (model X.prog X.w) X.A (eval a X.env) (fun v s₁=>wpAny (model X.prog X.w) X.A (eval b X.env) (fun u s₂=>wpAny (model X.prog X.w) X.A (f v u) Q X.xe s₂) X.xe s₁) X.xe s:=by
 refine cz (ha pins s σ H _ I h) fun v e ⟨x,H1,p,i,l⟩=> ?_;refine cz (n pins e σ H1 _ p l) fun u s2 ⟨y,H2,o,g,j⟩=> ?_;exact m v u s2 x y H2 o i g j
theorem tW (l:OpR X (Vj op) r) (ha:PE X a ta) (m:PE X b Z):PE X (.BinOp a op b pos) (LC r ta Z):=by intro e s f H Q I h;exact wpAny_BinOp (MO ha m I h fun v u g x y o n j i q=>l e g f o x y v u Q n j i q)
theorem Rg {g:Int->Int->Int}
  (e:∀(i j:Int) (t u:Tok) (s:Sr) (Q:Sh->Sr->Prop) (E:Sh->Sr->Prop),C i j->Q (.int (g i j) s.toks) {s with toks:=s.toks+1}->wpAny (model X.prog X.w) X.A (f (.int i t) (.int j u)) Q E s):
  OpR X f (rI C fun i j=> .int (g i j)):=by
 intro l s r H x y v u Q I o n h;obtain⟨i,j,rfl,rfl,p,q⟩:=h;obtain⟨t,rfl⟩:=o;obtain⟨m,rfl⟩:=n;exact e i j t m s _ _ p ⟨.int (g i j),H,I.tok _,⟨_,rfl⟩,q⟩
theorem Pe {g:Int->Int->Int}
  (e:∀(i j:Int) (t u:Tok) (s:Sr) (Q:Sh->Sr->Prop) (E:Sh->Sr->Prop),Q (.int (g i j) s.toks) {s with toks:=s.toks+1}->wpAny (model X.prog X.w) X.A (f (.int i t) (.int j u)) Q E s):
  OpR X f (zg fun i j=> .int (g i j)):=by
 intro l s p H x y v u Q I o n h;obtain⟨i,j,rfl,rfl,q⟩:=h;obtain⟨t,rfl⟩:=o;obtain⟨m,rfl⟩:=n;exact e i j t m s _ _ ⟨.int (g i j),H,I.tok _,⟨_,rfl⟩,q⟩
theorem Ip {g:Int->Int->Bool}
  (e:∀(i j:Int) (t u:Tok) (s:Sr) (Q:Sh->Sr->Prop) (E:Sh->Sr->Prop),Q (.bool (g i j)) s->wpAny (model X.prog X.w) X.A (f (.int i t) (.int j u)) Q E s):
  OpR X f (zg fun i j=> .bl (g i j)):=by
 intro l s p H x y v u Q I o n h;obtain⟨i,j,rfl,rfl,q⟩:=h;obtain⟨t,rfl⟩:=o;obtain⟨m,rfl⟩:=n;exact e i j t m s _ _ ⟨.bl (g i j),H,I,rfl,q⟩
def ac9 (i j:Int):Prop:=(-(2^64)<i/\i<2^64)\/(-(2^64)<j/\j<2^64)
theorem ac9.ok (h:ac9 i j):IntMulOk i j:=by
 rcases h with⟨f,e⟩|⟨f,e⟩
 .exact .of_left (ajc f e)
 .exact .of_right (ajc f e)
theorem N9:OpR X (Vj .Add) (zg fun i j=> .int (i+j)):=Pe fun _ _ _ _ _ _ _ q=>add_int q
theorem M7:OpR X (Vj .Sub) (zg fun i j=> .int (i - j)):=Pe fun _ _ _ _ _ _ _ q=>sub_int q
theorem N6:OpR X (Vj .Mult) (rI ac9 fun i j=> .int (i*j)):=Rg fun _ _ _ _ _ _ _ e q=>mul_int q e.ok
theorem Np:OpR X (Vj .Mod) (rI (fun _ j=>0<j) fun i j=> .int (i % j)):=Rg fun i j _ _ _ _ _ e q=>by have f:(0:Int)<j:=e;exact mod_int' (by omega) (by rw[Int.fmod_eq_emod_of_nonneg i (by omega)];exact q)
end
def yB:V->V->Bool
 | .UT,.UT=>Si| .UT,.int _=>Si| .int _,.UT=>Si| .UT,.bl _=>Si| .bl _,.UT=>Si| .UT,.str _=>Si| .str _,.UT=>Si
 | .int _,.int _=>Si| .bl _,.bl _=>Si| .str _,.str _=>Si| .byt _,.byt _=>Si
 | .int _,.str _=>Si| .str _,.int _=>Si| .bl _,.str _=>Si| .str _,.bl _=>Si
 |_,_=>Sq
def Rv:R2:=fun x y H Q=>yB x y=Si/\Q (.bl (decide (x=y))) H
theorem IZ:decide (V.int i=V.int j)=(i==j):=by rw[VH];rw[decide_eq_true_iff,beq_iff_eq];exact⟨fun h=>by cases h;rfl,fun h=>by rw[h]⟩
theorem Oi:decide (V.bl i=V.bl j)=(i==j):=by rw[VH];rw[decide_eq_true_iff,beq_iff_eq];exact⟨fun h=>by cases h;rfl,fun h=>by rw[h]⟩
theorem Kk:decide (V.str i=V.str j)=(i==j):=by rw[VH];rw[decide_eq_true_iff,beq_iff_eq];exact⟨fun h=>by cases h;rfl,fun h=>by rw[h]⟩
theorem Jg:decide (V.byt i=V.byt j)=(i.toList==j.toList):=by rw[VH];rw[decide_eq_true_iff,beq_iff_eq];exact⟨fun h=>by cases h;rfl,fun h=>by rw[Array.toList_inj.mp h]⟩
section
variable {X:Cx} {a b c:TF} {ta Z Y:TE} {pos:Pos}
theorem eF (I:Inv X pins σ H s) (q:Q (.bl k) H) (e:k=k'):EP X pins σ Q (.bool k') s:=by subst e;exact⟨.bl k,H,I,rfl,q⟩
theorem Qg:OpR X (Up .Eq) Rv:=by
 intro m s n H x y v u Q I l e h;obtain⟨g,q⟩:=h;cases x with
 |UT=>
  cases l;cases y with
  |UT=>cases e;exact af7 (eF I q (by simp))
  |bl j=>cases e;exact af8 (eF I q (by simp))
  |int j=>obtain⟨f,rfl⟩:=e;exact af9 (eF I q (by simp))
  |str j=>obtain⟨f,rfl⟩:=e;exact aga (eF I q (by simp))
  |_=>exact absurd (show Sq=Si from g) SH
 |bl i=>
  cases l;cases y with
  |UT=>cases e;exact agb (eF I q (by simp))
  |bl j=>cases e;exact eq_bool (eF I q Oi)
  |str j=>obtain⟨f,rfl⟩:=e;exact aeY (eF I q (by simp))
  |_=>exact absurd (show Sq=Si from g) SH
 |int i=>
  obtain⟨t,rfl⟩:=l;cases y with
  |UT=>cases e;exact agc (eF I q (by simp))
  |int j=>obtain⟨f,rfl⟩:=e;exact eq_int (eF I q IZ)
  |str j=>obtain⟨f,rfl⟩:=e;exact aeZ (eF I q (by simp))
  |_=>exact absurd (show Sq=Si from g) SH
 |str i=>
  obtain⟨t,rfl⟩:=l;cases y with
  |UT=>cases e;exact agd (eF I q (by simp))
  |bl j=>cases e;exact ae0 (eF I q (by simp))
  |int j=>obtain⟨f,rfl⟩:=e;exact ae1 (eF I q (by simp))
  |str j=>obtain⟨f,rfl⟩:=e;exact eq_str (eF I q Kk)
  |_=>exact absurd (show Sq=Si from g) SH
 |byt i=>
  obtain⟨t,rfl⟩:=l;cases y with
  |byt j=>obtain⟨f,rfl⟩:=e;exact PySem.W.eq_bytes (eF I q Jg)
  |_=>exact absurd (show Sq=Si from g) SH
 |_=>cases y<;>exact absurd (show Sq=Si from g) SH
theorem Fw:OpR X (Up .Lt) (zg fun i j=> .bl (decide (i<j))):=Ip fun _ _ _ _ _ _ _ q=>lt_int q
theorem PF:OpR X (Up .LtE) (zg fun i j=> .bl (decide (i<=j))):=Ip fun _ _ _ _ _ _ _ q=>le_int q
theorem P7:OpR X (Up .Gt) (zg fun i j=> .bl (decide (j<i))):=Ip fun _ _ _ _ _ _ _ q=>gt_int q
theorem LY:OpR X (Up .GtE) (zg fun i j=> .bl (decide (j<=i))):=Ip fun _ _ _ _ _ _ _ q=>ge_int q
theorem Hc:OpR X (Up .Is) (fun x y H Q=>y= .UT/\Q (.bl (decide (x= .UT))) H):=by
 intro f s i H x y v u Q I e g h;obtain⟨rfl,q⟩:=h;cases g;refine is_none_gen (eF I q ?_);cases x<;>first
  |(cases e;rfl)
  |(obtain⟨t,rfl⟩:=e;rfl)
theorem v9:OpR X (Up .IsNot) (fun x y H Q=>y= .UT/\Q (.bl (!decide (x= .UT))) H):=by
 intro f s i H x y v u Q I e g h;obtain⟨rfl,q⟩:=h;cases g;refine isnot_none_gen (eF I q ?_);cases x<;>first
  |(cases e;rfl)
  |(obtain⟨t,rfl⟩:=e;rfl)
theorem fu (b:TF) (h:op≠ .In:=by decide) (e:op≠ .NotIn:=by decide):behindInMarks op b=Sq:=by
 have g:(op==CmpOp.In)=Sq:=by cases op<;>first|rfl|exact absurd rfl h
 have f:(op==CmpOp.NotIn)=Sq:=by cases op<;>first|rfl|exact absurd rfl e
 cases b<;>simp[behindInMarks,g,f]
theorem iK {f:CmpOp} {r:R2} (m:OpR X (Up f) r) (ha:PE X a ta) (n:PE X b Z) (hm:behindInMarks f b=Sq):PE X (.Compare a [f] [b] pos) (LC r ta Z):=by intro e s g H Q I h;exact wpAny_Compare1 (MO ha n I h fun v u i x y p o l j q=>m e i g p x y v u Q o l j q) hm
def Bf (t:TE):TT:=fun e H Q=>t e H fun x f=>∃k,x= .bl k/\Q k f
theorem eW (t:OpR X (Up op) r) (ha:PE X a ta) (w:PE X b Z) (hm:behindInMarks op b=Sq):PT X (.Compare a [op] [b] pos) (Bf (LC r ta Z)):=by
 intro f s g H Q I h;refine acG (cz (ha f s g H _ I h) fun v j ⟨x,G,C,n,q⟩=>cz (w f j g G _ C q) fun u i ⟨y,F,B,m,p⟩=>
  cz (t f i g F x y v u _ B n m p) fun c J ⟨z,E,A,l,k,e,o⟩=> ?_) hm
 subst e;cases l;exact Uz ⟨E,A,o⟩
def Gv (r h:R2) (ta Z Y:TE):TE:=fun e H Q=>ta e H fun x l=>Z e l fun y j=>r x y j fun z f=>∃k,z= .bl k/\
 (if k=Si then Y e f fun g i=>h y g i Q else Q (.bl Sq) f)
theorem Gc (N:OpR X (Up op) r) (i:OpR X (Up op') r') (ha:PE X a ta) (P:PE X b Z) (O:PE X c Y)
  (hm:lastMarks [op,op'] [b,c]=Sq:=by with_unfolding_all rfl):PT X (.Compare a [op,op'] [b,c] pos) (Bf (Gv r r' ta Z Y)):=by
 intro f s g H Q I h;refine isTrue_chain (cz (ha f s g H _ I h) fun v A ⟨x,H1,I1,F,L⟩=>test_link (cz (P f A g H1 _ I1 L) fun u w ⟨y,H2,I2,j,K⟩=>
  cz (N f w g H2 x y v u _ I2 F j K) fun d t ⟨z,n,m,E,k,e,l⟩=> ?_)) hm
 subst e;cases E;refine Uz ?_;cases k with
 |false=>obtain⟨k',S,M⟩:=l;cases S;exact ite_ff ⟨n,m,M⟩
 |true=>refine ite_tt (test_last (cz (O f t g n _ m l) fun p q ⟨o,H4,U,C,J⟩=>cz (i f q g H4 y o u p _ U j C J) fun d' s5 ⟨z2,H5,T,B,k2,R,G⟩=> ?_));subst R;cases B;exact Uz ⟨H5,T,G⟩
theorem vR:(SD:Nat)<2^63:=by rw[Vd];decide
theorem lU (r:Vals [x] us):∃u,us=[u]/\RelV x u:=by
 cases r with
 |cons f e=>cases e;exact⟨_,rfl,f⟩
theorem CG (r:Vals [x,y] us):∃u w',us=[u,w']/\RelV x u/\RelV y w':=by
 cases r with
 |cons h g=>
  cases g with
  |cons f e=>cases e;exact⟨_,_,rfl,h,f⟩
theorem C9 (g:X.calm=Si):VR X (.builtin "max") (fun xs H Q=>∃i j,xs=[.int i,.int j]/\Q (.int (if j>i then j else i)) H):=by
 intro f s l H xs n Q I r h;obtain⟨i,j,rfl,q⟩:=h;obtain⟨u,m,rfl,⟨t,rfl⟩,⟨p,rfl⟩⟩:=CG r;refine max_two_ints (I.ok.hd g) fun v o k=>⟨_,H,I.kept k,?_,q⟩;by_cases e:j>i
 .rw[if_pos e,if_pos e];exact⟨_,rfl⟩
 .rw[if_neg e,if_neg e];exact⟨_,rfl⟩
def MR (K:Ld) (x:V) (H:Hp) (n:Nat):Prop:=
 match x with
 | .str y=>y.length<=SD/\n=y.length
 | .byt y=>y.size<=SD/\n=y.size
 | .ref p=>(∃xs,Xa K H p xs/\n=xs.length)\/∃xs,WZ K H p xs/\n=xs.length
 |_=>False
theorem eV:VR X (.builtin "len") (fun xs H Q=>∃x n,xs=[x]/\MR X.K x H n/\Q (.int n) H):=by
 intro m s A H xs B Q I r h;obtain⟨x,n,rfl,e,q⟩:=h;obtain⟨u,rfl,i⟩:=lU r;have E:=vR;have C:=Vd;cases x with
 |str y=>obtain⟨t,rfl⟩:=i;obtain⟨v,g⟩:=e;subst g;exact len_str (by omega) ⟨.int _,H,I.tok _,⟨_,rfl⟩,q⟩
 |byt y=>obtain⟨t,rfl⟩:=i;obtain⟨v,g⟩:=e;subst g;exact PySem.W.len_bytes (by omega) ⟨.int _,H,I.tok _,⟨_,rfl⟩,q⟩
 |ref p=>
  cases i;have g:=e;rcases g with⟨xs,l,g⟩|⟨xs,l,g⟩
  .subst g;obtain⟨w,j,pl,o⟩:=I.list l;have f:=j.length;exact Calls.call_len_list pl.isList (by simp only[SE];omega) ⟨.int xs.length,H,I.tok _,⟨_,by simp only[SE];rw[f]⟩,q⟩
  .subst g;obtain⟨w,j,pl,o⟩:=I.tuple l;have f:=j.length;exact len_tuple pl (by simp only[SE];omega) ⟨.int xs.length,H,I.tok _,⟨_,by simp only[SE];rw[f]⟩,q⟩
 |_=>exact(show False from e).elim
end
structure aaZ (h:Heap) (x dx C:So) (mA:Str->Option Sh):Prop where
 obj:h.get? x=lD (UE C dx)
 ns:h.Ns1 dx mA
 ne:dx≠x
theorem tU {h:Heap} (n:h.Ns1 dx mA):∃od,h.get? dx=lD od/\∀name,Xr name od=lD (mA name):=by
 obtain⟨o,f,p,i,l,j,_,hm⟩:=n;refine⟨o,i,fun name=> ?_⟩;have e:=hm name;unfold nsFind findBy at e;rw[<-abr] at e;unfold Xr;rw[l];dsimp only;split
 .rename_i y q;rw[q] at e;exact congrArg lD e
 .rename_i q
  rw[q] at e;have a:f.toList.any (·.refKey)=Sq:=by rw[List.any_eq_false];intro y g;obtain⟨z,t,b⟩:=j y (Array.mem_toList_iff.mp g);simp[V5.refKey,b]
  have m:¬f.toList.any (·.refKey)=Si:=by rw[a];exact SH
  rw[if_neg m];exact congrArg lD e
theorem aaZ.look (I:aaZ h x dx C mA):∃od,Xs h x (UE C dx) C (lD od)/\∀name,Xr name od=lD (mA name):=
 let⟨od,ho,hl⟩:=tU I.ns
 ⟨od,⟨I.obj,rfl,rfl,ho⟩,hl⟩
section
variable {prog:S0} {w:Tn} {A:Tc} {E:Sh->Sr->Prop} {s:Sr} {K:Ld} {x dx C f:So} {Z:Str->Option Sh} {name:Str} {v:Sh}
theorem Jv (X:K.In s.heap) (I:aaZ s.heap x dx C Z) (i:V2 K C name=Si) (g:Vb K C=Si)
  (ha:Ti K (.ref C) name=lD Sg) (b:Z name=lD v) (a:abt v=Si) (h:Q v {s with toks:=s.toks+1}):
  wpAny (model prog w) A (getAttr (.ref x) name expr) Q E s:=by
 obtain⟨j,J,e⟩:=I.look;exact PySem.W.get_value X J (XU i).1 (PySem.W.findObj_own g ha rfl (by rw[e,b])) a h
theorem GI (X:K.In s.heap) (I:aaZ s.heap x dx C Z) (a:V2 K C name=Si)
  (j:Ti K (.ref C) name=lD (lD (.ref f))) (g:Vk K (.ref f)=Si) (e:Z name=Sg) (h:Q (.ref f,[.ref x]) s):
  wpAny (model prog w) A (getMethod (.ref x) name pl) Q E s:=by
 obtain⟨b,J,i⟩:=I.look;exact PySem.W.method_fn X J (XU a).1 (XU a).2 j (beq_iff_eq.mp g) (by show(Xr name b).map (·.isSome)=lD Sq;rw[i,e];rfl) h
theorem Jf (X:K.In s.heap) (I:aaZ s.heap x dx C Z)
  (p:Ti K (.ref C) "__setattr__"=lD (lD (.builtin "object.__setattr__"))) (q:Yn K C=Si) (o:YW K C name=lD Sg) (r:Vb K C=Si)
  (n:aai Z ns) (hsz:ns.length<=SD)
  (h:∀h',aaZ h' x dx C (fun y=>if y=name then lD v else Z y)->Heap.SameBut dx s.heap h'->Q () {s with heap:=h',toks:=s.toks+2}):
  wpAny (model prog w) A (setAttr (.ref x) name v) Q E s:=by
 obtain⟨F,J,H⟩:=I.look;refine PySem.W.set_plain X J p (PySem.W.osa_open X J q o fun b=> ?_);obtain⟨L,t,i⟩:=PySem.W.any_some r;have m:=I.obj;refine Sf (Ss (Sf (Sf (ahj m (Sf (ae2 (PySem.W.looks_clsIn X t) ?_))))));rw[i];refine Ss (Sf (Ss (Sf ?_)));refine wpAny_nsSet1 I.ns fun h' a l=> ?_;obtain⟨G,u,B,e,g,j⟩:=a.count (age name v n);refine Sf (ae3 e (by rw[g];exact ae4 (Tg j (by rw[SJ];omega))) ?_);exact Ss (h _ ⟨(l.2 _ (Ne.symm I.ne)).trans I.obj,a,I.ne⟩ l)
theorem FP {R:YD->Sr->Prop} {vs:List Sh} {b:List (Str×Sh)} (X:K.In s.heap) (hm:YX K C=Si)
  (hi:Ti K (.ref C) "__init__"=lD (lD (.ref f))) (e:abX K (.ref f)=lD (.type "function"))
  (h:codeAny (model prog w) (A.under (.builtin "type.__call__" ⟨.ref C::vs,b⟩)) (.call (.ref f) ⟨.ref (s.heap.objs.size+1)::vs,b⟩) (PySem.W.InitBack (s.heap.objs.size+1) R)
   {s with heap:=(s.heap.push Uh).push (UE C s.heap.objs.size)}):
  codeAny (model prog w) A (.call (.ref C) ⟨vs,b⟩) R s:=by
 obtain⟨j,g,d,t,i⟩:=s;exact PySem.W.make_core (PySem.W.makes_of X hm) (PySem.W.looks_findIn X hi) (fun a=>PySem.W.bind_fn X a e) (.inl rfl) h
end
def iX (f:Str) (v:V):List (Str×V)->List (Str×V)
 |[]=>[(f,v)]
 |(g,x)::r=>if g=f then(g,v)::r else(g,x)::iX f v r
theorem oZ (f g:Str) (v:V):∀fs:List (Str×V),(iX f v fs).lookup g=if g=f then lD v else fs.lookup g
 |[]=>by
  show U7 g [(f,v)]=_;by_cases h:g=f
  .have a:=beq_iff_eq.mpr h;simp only[U7,a,if_pos h]
  .have a:=beq_eq_false_iff_ne.mpr h;simp only[U7,a,if_neg h]
 |(k,x)::r=>by
  have i:=oZ f g v r;rw[show iX f v ((k,x)::r)=(if k=f then(k,v)::r else(k,x)::iX f v r) from rfl];by_cases b:k=f
  .rw[if_pos b]
   by_cases h:g=k
   .have a:=beq_iff_eq.mpr h;simp only[U7,a,if_pos (h.trans b)]
   .have a:=beq_eq_false_iff_ne.mpr h;simp only[U7,a,if_neg (fun e:g=f=>h (e.trans b.symm))]
  .rw[if_neg b]
   by_cases h:g=k
   .have a:=beq_iff_eq.mpr h;simp only[U7,a,if_neg (fun e:g=f=>b (h.symm.trans e))]
   .have a:=beq_eq_false_iff_ne.mpr h;simp only[U7,a];exact i
theorem nW (f:Str) (v:V):∀fs:List (Str×V),f∈(iX f v fs).map (·.1)/\∀g,g∈fs.map (·.1)->g∈(iX f v fs).map (·.1)
 |[]=>⟨by simp[iX],fun g h=>by simp at h⟩
 |(k,x)::r=>by
  obtain⟨i,b⟩:=nW f v r;rw[show iX f v ((k,x)::r)=(if k=f then(k,v)::r else(k,x)::iX f v r) from rfl];by_cases a:k=f
  .rw[if_pos a];subst a;exact⟨by simp,fun g h=>by simpa using h⟩
  .rw[if_neg a]
   refine⟨?_,fun g h=> ?_⟩
   .rw[SN];exact Sy _ i
   .rw[SN] at h⊢
    rcases SS.mp h with e|e
    .exact SS.mpr (.inl e)
    .exact Sy _ (b g e)
theorem oU (f:Str) (v:V):∀fs:List (Str×V),(iX f v fs).length<=fs.length+1
 |[]=>by simp[iX]
 |(k,x)::r=>by
  have b:=oU f v r;rw[show iX f v ((k,x)::r)=(if k=f then(k,v)::r else(k,x)::iX f v r) from rfl];by_cases a:k=f
  .rw[if_pos a,SJ,SJ];omega
  .rw[if_neg a,SJ,SJ];omega
theorem WJ.some_of (r:WJ (lD v) o):∃u,o=lD u/\RelV v u:=by
 cases o with
 |none=>exact(show False from r).elim
 |some u=>exact⟨u,rfl,r⟩
theorem WJ.none_of (r:WJ Sg o):o=Sg:=by
 cases o with
 |none=>rfl
 |some u=>exact(show False from r).elim
theorem uH (r:RelV v u):abt u=Si:=by
 cases v with
 |UT=>cases(show u=Sh.none from r);rfl
 |bl b=>cases(show u=Sh.bool b from r);rfl
 |int i=>obtain⟨t,e⟩:=(show∃t,u=Sh.int i t from r);cases e;rfl
 |str x=>obtain⟨t,e⟩:=(show∃t,u=Sh.str x t from r);cases e;rfl
 |byt b=>obtain⟨t,e⟩:=(show∃t,u=Sh.bytes b t from r);cases e;rfl
 |flt b=>obtain⟨t,e⟩:=(show∃t,u=Sh.float b t from r);cases e;rfl
 |ref a=>cases(show u=Sh.ref a from r);rfl
 |ty n=>cases(show u=Sh.type n from r);rfl
section
variable {P:S0} {w:Tn} {H H':Hp} {h h':Heap} {a C dx:So} {fs fs':List (Str×V)}
theorem u0 (T9:XQ P w H h) (e:H a=lD (.ins C dx fs)):∃mA,aaZ h a dx C mA/\(∀f,WJ (fs.lookup f) (mA f))/\aai mA (fs.map (·.1))/\fs.length<=1000/\H dx=lD (.own a):=by obtain⟨d,z,ne,b,mA,n,r,q⟩:=(show ObjOk P w H h a (.ins C dx fs) from T9 a _ e);exact⟨mA,⟨b,n,ne⟩,r,q,z,d⟩
end
structure Cls (K:Ld) (C:So):Prop where
 pg:V2 K C Str.empty=Si
 hd:Vb K C=Si
 po:Yn K C=Si
 sa:Ti K (.ref C) "__setattr__"=lD (lD (.builtin "object.__setattr__"))
theorem Cls.get {K:Ld} (c:Cls K C) (f:Str):V2 K C f=Si:=c.pg
def WN (K:Ld) (C:So) (f:Str):Prop:=Ti K (.ref C) f=lD Sg
theorem WN.afF {K:Ld} (n:WN K C f):YW K C f=lD Sg:=by unfold YW;rw[show Ti K (.ref C) f=lD Sg from n];rfl
structure Con (K:Ld) (C:So) (f:Str) (v:V) (u:Sh):Prop where
 at_:Ti K (.ref C) f=lD (lD u)
 rel:RelV v u
 get:VN K u "__get__"=lD Sg
 cp:PySem.W.copiedNames.contains f=Sq
structure Meth (K:Ld) (C:So) (m:Str) (f:So):Prop where
 at_:Ti K (.ref C) m=lD (lD (.ref f))
 fn:Vk K (.ref f)=Si
 kp:Uq K (.ref f)=Si
section
variable {X:Cx} {Z:List (So×Obj)} {Y:St} {H:Hp} {s:Sr} {a C dx:So} {fs:List (Str×V)} {f:Str} {v:V} {A:Tc} {E:Sh->Sr->Prop}
theorem AL (I:Inv X Z Y H s) (e:H a=lD (.ins C dx fs)) (c:Cls X.K C) (n:WN X.K C f) (l:fs.lookup f=lD v)
  (h:∀u s',Inv X Z Y H s'->RelV v u->Q u s'):wpAny (model X.prog X.w) A (getAttr (.ref a) f b) Q E s:=by
 obtain⟨j,O,r,_,_,_⟩:=u0 I.T9 e;obtain⟨u,i,g⟩:=WJ.some_of (by rw[<-l];exact r f);exact Jv I.XH O (c.get f) c.hd n i (uH g) (h u _ (I.tok _) g)
theorem qS (I:Inv X Z Y H s) (e:H a=lD (.ins C dx fs)) (c:Cls X.K C) (k:Meth X.K C m g) (l:fs.lookup m=Sg)
  (h:Q (.ref g,[.ref a]) s):wpAny (model X.prog X.w) A (getMethod (.ref a) m pl) Q E s:=by
 obtain⟨b,O,r,_,_,_⟩:=u0 I.T9 e;have hn:=WJ.none_of (by rw[<-l];exact r m);exact GI I.XH O (c.get m) k.at_ k.fn hn h
theorem zB (I:Inv X Z Y H s) (e:H a=lD (.ins C dx fs)) (c:Cls X.K C) (n:WN X.K C f) (M:fs.length<1000) (t:RelV y u)
  (h:∀s',Inv X Z Y (bx H a (.ins C dx (iX f y fs))) s'->Q () s'):wpAny (model X.prog X.w) A (setAttr (.ref a) f u) Q E s:=by
 obtain⟨l,O,r,j,_,m⟩:=u0 I.T9 e;have B:(fs.map (·.1)).length<=SD:=by rw[Sj,Vd];omega
 refine Jf I.XH O c.sa c.po n.afF c.hd j B fun L i p=>h _ ?_;have G:∃o,L.get? dx=lD o:=let⟨o,_,_,e',_⟩:=i.ns;⟨o,e'⟩
 refine I.write (by rw[e];exact True.intro) (.inr m) (fun b q J z=>(p.2 b J).trans z) G ?_;refine⟨by rw[ay O.ne];exact m,?_,O.ne,i.obj,_,i.ns,fun g=> ?_,fun g F=> ?_⟩
 .have:=oU f y fs;omega
 .show WJ ((iX f y fs).lookup g) (if g=f then lD u else l g)
  rw[oZ];by_cases q:g=f
  .rw[if_pos q,if_pos q];exact t
  .rw[if_neg q,if_neg q];exact r g
 .by_cases q:g=f
  .rw[q];exact(nW f y fs).1
  .refine(nW f y fs).2 g (j g fun z=>F ?_);show(if g=f then lD u else l g)=Sg;rw[if_neg q];exact z
theorem Inv.made (I:Inv X Z Y H s):Inv X Z Y (bx (bx H s.heap.objs.size (.own (s.heap.objs.size+1))) (s.heap.objs.size+1) (.ins C s.heap.objs.size []))
  {s with heap:=(s.heap.push Uh).push (UE C s.heap.objs.size)}:=by
 have g:(s.heap.push Uh).get? s.heap.objs.size=lD Uh:=Heap.get?_push_size s.heap rfl;have l:((s.heap.push Uh).push (UE C s.heap.objs.size)).get? (s.heap.objs.size+1)=lD (UE C s.heap.objs.size):=by have:=Heap.get?_push_size (s.heap.push Uh) (o:=UE C s.heap.objs.size) rfl;rwa [Heap.size_push] at this
 have j:(s.heap.push Uh).Ns s.heap.objs.size (fun _=>Sg):=⟨Uh,#[],_,g,rfl,(fun e i=>absurd i (by simp)),fun _=>rfl⟩;have m:=I.laid (a:=s.heap.objs.size) (o:= .own (s.heap.objs.size+1)) (h':=s.heap.push Uh) (t':=s.toks) (fun b u q=>Heap.get?_push_of_some _ q) (Sw _) ⟨_,g⟩;refine m.laid (a:=s.heap.objs.size+1) (o:= .ins C s.heap.objs.size []) (t':=s.toks) (fun b u q=>Heap.get?_push_of_some _ q) (ae5 (Heap.size_push _ _)) ?_;have ne:s.heap.objs.size≠s.heap.objs.size+1:=S1 (Wg _);refine⟨by rw[ay ne,aG],Th _,ne,l,fun _=>Sg,(Heap.Ns1.of_empty j).at fun o q=>Heap.get?_push_of_some _ q,fun _=>True.intro,fun y h=>absurd rfl h⟩
theorem B1 {prog:S0} {w:Tn} {env:Env} {e:TF} {f:Str} {b:Pos} {s:Sr} {Q:Sh->Sr->Prop} (g:attributeBase e f env (eval e env)=eval e env)
  (h:wpAny (model prog w) A (eval e env) (fun o s₁=>wpAny (model prog w) A (getAttr o f Si) Q E s₁) E s):wpAny (model prog w) A (eval (.Attribute e f b) env) Q E s:=
 Attribute_any_ h (by rw[arm_eval_Attribute,g])
end
def Nd (K:Ld) (ta:TE) (f:Str):TE:=fun e H Q=>ta e H fun x b=>∃a C dx fs v,x= .ref a/\b a=lD (.ins C dx fs)/\Cls K C/\WN K C f/\fs.lookup f=lD v/\Q v b
def Oq (K:Ld) (ta g:TE) (f:Str):TS:=fun D b H=>g b H fun y h=>ta b h fun x e=>∃a C dx fs,x= .ref a/\e a=lD (.ins C dx fs)/\Cls K C/\WN K C f/\fs.length<1000/\
 D.nx b (bx e a (.ins C dx (iX f y fs)))
section
variable {X:Cx} {o e Z:TF} {f:Str} {pos Y ahT:Pos} {ta tv:TE}
theorem cK (m:PE X e ta) (p:attributeBase e f X.env (eval e X.env)=eval e X.env):PE X (.Attribute e f pos) (Nd X.K ta f):=by intro b s g H Q I h;refine B1 p (cz (m b s g H _ I h) fun u F ⟨x,A,y,i,a,C,dx,fs,v,r,t,c,n,l,q⟩=> ?_);subst r;obtain rfl:=i;exact AL y t c n l fun B E w j=>⟨v,A,w,j,q⟩
theorem ot (ha:PE X o ta) (r:PE X Z tv) (t:Uk Z (lD (.Attribute o f Y)) pos.line X.env=pure Sq):PS X (.Assign [.Attribute o f Y] Z pos) (Oq X.K ta tv f):=by intro b s g H D I h;refine ZE (cz (r b s g H _ I h) fun u i ⟨y,F,E,j,q⟩=>cz (ha b i g F _ E q) fun L J ⟨x,M,B,m,a,C,dx,fs,v,w,c,n,l,p⟩=> ?_) t;subst v;obtain rfl:=m;exact zB B w c n l j fun G A=>⟨g,_,A,p⟩
end
section
variable {X:Cx} {pins:List (So×Obj)} {σ:St} {H:Hp} {s:Sr} {A:Tc} {E:Sh->Sr->Prop} {Q:Sh->Sr->Prop} {c:Sh} {b:Bool}
inductive Zg (K:Ld) (H:Hp):V->Sh->Prop where
 |UT:Zg K H .UT (.type "NoneType")
 |bl (x:Bool):Zg K H (.bl x) (.type "bool")
 |int (i:Int):Zg K H (.int i) (.type "int")
 |str (x:Str):Zg K H (.str x) (.type "str")
 |flt (x:UInt64):Zg K H (.flt x) (.type "float")
 |lst {a:So} {xs:List V} (e:H a=lD (.lst xs)):Zg K H (.ref a) (.type "list")
 |frz {a:So} {o:Obj} {xs:List V} (e:H a=lD (.frz o (.lst xs))):Zg K H (.ref a) (.type "list")
 |tup {a:So} {xs:List V} (e:H a=lD (.tup xs)):Zg K H (.ref a) (.type "tuple")
 |dK {a:So} {S4:List (cJ×V)} (e:H a=lD (.dK S4)):Zg K H (.ref a) (.type "dict")
 |dT {a:So} {S4:List (List cJ×V)} (e:H a=lD (.dT S4)):Zg K H (.ref a) (.type "dict")
 |ins {a C dx:So} {fs:List (Str×V)} (e:H a=lD (.ins C dx fs)) (cl:Cls K C) (ha:Ti K (.ref C) "__class__"=lD (lD (.builtin "object.__class__")))
   (hn:VN K (.builtin "object.__class__") "__get__"=lD (lD (.builtin "getset_descriptor.__get__"))) (htk:PySem.W.takesIn K (.builtin "object.__class__")=lD Si)
   (hm:acH K C (.type "object")=lD Si):Zg K H (.ref a) (.ref C)
end
structure UP (k:Nat) (A:Tc):Prop where
 hd:A.handled=Sg
 dp:A.depth+3*k+5<recursionLimit
 un:A.units+16*k+200<cLine
theorem UP.mono (r:UP k A) (h:j<=k):UP j A:=⟨r.hd,by have:=r.dp;omega,by have:=r.un;omega⟩
theorem UP.deeper (r:UP (k+1) A) (env:Env):UP k (A.deeper env):=
 ⟨r.hd,by have:=r.dp;show A.depth+1+3*k+5<_;omega,by have:=r.un;show A.units+3+16*k+200<_;omega⟩
theorem zQ {A:Tc}:(A.under (.builtin "type.__call__" ⟨.ref C::us,kw⟩)).depth=A.depth+1:=by
 first|rfl|simp[Tc.under,aaJ.weight,aaJ.isCreation,aaJ.isGuard,aaJ.isCaller,aaJ.frames,aaJ.isFrame,guardIds]
theorem AQ {A:Tc}:(A.under (.builtin "type.__call__" ⟨.ref C::us,kw⟩)).units=A.units+1:=by
 first|rfl|simp[Tc.under,aaJ.cUnits,aaJ.frames,aaJ.isFrame]
theorem UP.make (r:UP (k+1) A) (C:So) (us:List Sh) (a:List (Str×Sh)):UP k (A.under (.builtin "type.__call__" ⟨.ref C::us,a⟩)):=
 ⟨r.hd,by have:=r.dp;rw[zQ];omega,by have:=r.un;rw[AQ];omega⟩
theorem UP.depth (r:UP k A):A.depth<recursionLimit:=by have:=r.dp;omega
theorem UP.units (r:UP k A):A.units+64<cLine:=by have:=r.un;omega
def nk:TA:=fun _ H Q=>Q [] H
def jo (ta:TE) (b:TA):TA:=fun a H Q=>ta a H fun x f=>b a f fun xs e=>Q (x::xs) e
section
variable {X:Cx} {e:TF} {es:List TF} {te:TE} {t:TA} {pos:Pos}
theorem aB:PA X [] nk:=fun _ _ _ _ H Q I h=>Calls.spliced_nil ⟨[],H,I,.nil,h⟩
theorem ah (ha:PE X e te) (n:PA X es t) (m:SY (e::es) X.env=(Sq,eval e X.env)::SY es X.env:=by rfl):PA X (e::es) (jo te t):=by intro pos a s b H Q I h;rw[m];refine Calls.spliced_cons (cz (ha a s b H _ I h) fun u f ⟨x,r,p,i,l⟩=> ?_);exact cz (n pos a f b r _ p l) fun v w ⟨xs,q,o,g,j⟩=>⟨x::xs,q,o,.cons i g,j⟩
def MS (t:TA):TE:=fun b H Q=>t b H fun xs a=>xs.length<=SD/\∀p,a p=Sg->Q (.ref p) (bx a p (.tup xs))
def Pv (t:TA):TE:=fun b H Q=>t b H fun xs a=>xs.length<=SD/\∀p,a p=Sg->Q (.ref p) (bx a p (.lst xs))
theorem eK {x1} (h:PA X es t):PE X (.Tuple es x1 pos) (MS t):=by intro a s i H Q I l;refine wpAny_Tuple_spliced (cz (h pos a s i H _ I l) fun j f ⟨xs,n,g,r,z,q⟩=>⟨by rw[<-r.length];exact z,?_⟩);have m:=g.T9.fresh (Sw _);refine⟨.ref f.heap.objs.size,bx n f.heap.objs.size (.tup xs),g.laid (fun b u e=>Heap.get?_push_of_some _ e) (Sw _) ?_,rfl,q _ m⟩;exact⟨z,j,r,⟨_,Heap.get?_push_size _ rfl,⟨rfl,_,rfl⟩,rfl⟩⟩
theorem mj (h:PA X es t):PE X (.List es pos) (Pv t):=by intro a s i H Q I l;refine wpAny_List_spliced (cz (h pos a s i H _ I l) fun j f ⟨xs,n,g,r,z,q⟩=>⟨by rw[<-r.length];exact z,?_⟩);have m:=g.T9.fresh (Sw _);refine⟨.ref f.heap.objs.size,bx n f.heap.objs.size (.lst xs),g.laid (fun b u e=>Heap.get?_push_of_some _ e) (Sw _) ?_,rfl,q _ m⟩;exact⟨z,j,0,r,Heap.get?_push_size _ rfl⟩
end
abbrev Sp:=List V->Hp->VK->XK->Prop
abbrev wg:=List Env->Hp->Sr->XK->Sh->Sr->Prop
structure Env0 (P:S0) (w:Tn) (K:Ld) (mg:Str->Option Sh) (base:Heap) (A:Tc) (outer:List Env) (s:Sr) (H:Hp):Prop where
 frames:A.frames=lD outer
 mod:Mod K mg base
 bs:∀b o,base.get? b=lD o->s.heap.get? b=lD o/\H b=Sg
 bsz:base.objs.size<=s.heap.objs.size
 Ya:s.heap.FunFrames base outer
 frf:∀b∈yp outer,H b=Sg
 T9:XQ P w H s.heap
 bare:AllBare s.gens
def CE (outer:List Env) (P:S0) (w:Tn) (H:Hp) (s:Sr) (Q:VK) (u:Sh) (a:Sr):Prop:=
 ∃v H',a.os=s.os/\AllBare a.gens/\Un (yp outer) [] H H' s.heap a.heap/\XQ P w H' a.heap/\RelV v u/\Q v H'
def CR (b:wg) (outer:List Env) (P:S0) (w:Tn) (H:Hp) (s:Sr) (Q:VK) (E:XK) (r:YD) (a:Sr):Prop:=
 match r with
 | .ok (.ret u)=>CE outer P w H s Q u a
 | .ok _=>False
 | .error e=>b outer H s E e a
structure FnOk (P:S0) (w:Tn) (K:Ld) (mg:Str->Option Sh) (base:Heap) (CX:wg) (k:Nat) (f:So) (fd:TL) (ps:List Str) (sp:Sp):Prop where
 len:∀vs H Q E,sp vs H Q E->vs.length=ps.length
 run:∀(A:Tc) (outer:List Env) (s:Sr) (H:Hp) (args:Args) (us:List Sh) (vs:List V) (Q:VK) (E:XK),UP k A->Env0 P w K mg base A outer s H->X5 s fd args (ps.zip us)->Vals vs us->sp vs H Q E->
  codeAny (model P w) A (.call (.ref f) args) (CR CX outer P w H s Q E) s
theorem FnOk.imp {P:S0} {w:Tn} {K:Ld} {mg:Str->Option Sh} {base:Heap} {g:wg} {k:Nat} {f:So} {fd:TL} {ps:List Str} {sp b:Sp} (F:FnOk P w K mg base g k f fd ps sp)
  (h:∀vs H Q E,b vs H Q E->sp vs H Q E):FnOk P w K mg base g k f fd ps b:=
 ⟨fun vs H Q E q=>F.len vs H Q E (h _ _ _ _ q),fun A a s H e i vs Q E m n o j l=>F.run A a s H e i vs Q E m n o j (h _ _ _ _ l)⟩
theorem Env0.make {K:Ld} (e:Env0 P w K mg base A outer s H) (C:So) (us:List Sh) (a:List (Str×Sh)):
  Env0 P w K mg base (A.under (.builtin "type.__call__" ⟨.ref C::us,a⟩)) outer s H:=⟨by first|exact e.frames|(simpa [Tc.under,aaJ.envs,aaJ.isFrame,pushEnvs] using e.frames),e.mod,e.bs,e.bsz,e.Ya,e.frf,e.T9,e.bare⟩
section
variable {X:Cx} {Z:List (So×Obj)} {Y:St} {H:Hp} {s U:Sr}
theorem Inv.ade (I:Inv X Z Y H s):Env0 X.prog X.w X.K X.mg X.base X.A X.stack s H:=
 ⟨I.ok.frames,I.ok.mod,I.bs,Tg I.ok.bsz I.sz,I.stack,I.Y8,I.T9,I.bare⟩
theorem Inv.after {Q:VK} {u:Sh} (I:Inv X Z Y H s) (h:CE X.stack X.prog X.w H s Q u U):EP X Z Y Q u U:=by obtain⟨v,j,f,a,un,T9,r,q⟩:=h;obtain⟨i,g,d,t,e⟩:=U;obtain rfl:e=s.os:=f;exact⟨v,j,I.call (h':=i) (g':=g) (d':=d) (t':=t) (ch:=[]) un T9 a (fun b z=>absurd z (by simp)),r,q⟩
end
def jX (sp:Sp) (dvs:List V) (E:XK) (t:TA):TE:=fun a H Q=>t a H fun vs b=>sp (vs++dvs) b Q E
def uj (C:So) (m:Str) (sp:Sp) (dvs:List V) (E:XK) (ta:TE) (t:TA):TE:=fun b H Q=>ta b H fun x e=>∃a dx fs,x= .ref a/\e a=lD (.ins C dx fs)/\fs.lookup m=Sg/\
 t b e fun vs f=>sp (x::(vs++dvs)) f Q E
def zc (C:So) (sp:Sp) (dvs:List V) (E:XK) (t:TA):TE:=fun b H Q=>t b H fun vs a=>∀x dx,a x=Sg->a dx=Sg->dx≠x->
 sp (.ref x::(vs++dvs)) (bx (bx a dx (.own x)) x (.ins C dx [])) (fun v e=>v= .UT/\Q (.ref x) e) E
def Binds (K:Ld) (fd:TL) (ps:List Str) (ds:List Sh):Prop:=
 ∀(s:Sr) (a:List Sh),K.In s.heap->(a++ds).length=ps.length->X5 s fd ⟨a,[]⟩ (ps.zip (a++ds))
theorem Binds.all {K:Ld} {fd:TL} {ps:List Str} (h:∀us:List Sh,us.length=ps.length->bindArgs fd ⟨us,[]⟩=pure (ps.zip us)):Binds K fd ps []:=fun s us _ a=>by rw[S8] at a⊢;exact .of_eq (h us a)
def gc (g:wg) (X:Cx) (E:XK):Prop:=∀(a:List (So×Obj)) (f:St) (H:Hp) (s:Sr) (e:Sh) (b:Sr),Inv X a f H s->g X.stack H s E e b->X.xe e b
section
variable {X:Cx} {Y:wg} {k:Nat} {f C:So} {fd:TL} {ps:List Str} {sp:Sp} {dvs:List V} {ds:List Sh} {E:XK} {x m:Str} {p pos Z:Pos} {e o:TF} {es:List TF} {ta:TE} {t:TA}
theorem zx {a:List (So×Obj)} {g:St} {H:Hp} {s:Sr} {Q:VK} {us:List Sh} {vs:List V} (F:FnOk X.prog X.w X.K X.mg X.base Y k f fd ps sp) (n:UP k X.A) (v:Binds X.K fd ps ds) (hd:Vals dvs ds) (l:gc Y X E)
  (I:Inv X a g H s) (r:Vals vs us) (h:sp (vs++dvs) H Q E):wpAny (model X.prog X.w) X.A (call (.ref f) us) (EP X a g Q) X.xe s:=by
 have i:Vals (vs++dvs) (us++ds):=r.append hd;have q:(us++ds).length=ps.length:=by rw[<-i.length];exact F.len _ _ _ _ h
 refine W7 (WU (F.run X.A X.stack s H ⟨us,[]⟩ (us++ds) (vs++dvs) Q E n I.ade (v s us I.XH q) i h) fun r j b=> ?_);cases r with
 |error e=>exact l a g H s e j I b
 |ok y=>
  cases y with
  |ret u=>exact I.after b
  |next=>exact False.elim b
  |brk=>exact False.elim b
  |cont=>exact False.elim b
theorem A7 (F:FnOk X.prog X.w X.K X.mg X.base Y k f fd ps sp) (j:UP k X.A) (n:Gl X x) (hm:X.mg x=lD (.ref f)) (l:Uq X.K (.ref f)=Si) (v:Binds X.K fd ps ds) (hd:Vals dvs ds) (i:gc Y X E)
  (ha:PA X (e::es) t) (y:(x==("__debug__":Str))=Sq:=by decide) (u:SY (e::es) X.env=(Sq,eval e X.env)::SY es X.env:=by rfl) (B:(backTo pos (SY es X.env)).any (·.1)=Sq:=by rfl):
  PE X (.Call (.Name x p) (e::es) [] pos) (jX sp dvs E t):=by
 intro a s g H Q I h;refine Uu (jy I n hm ?_ y);refine Wr I.ok.mod.kin l (cz (ha pos a s g H _ I h) fun G J ⟨vs,L,b,r,q⟩=>⟨b.XH,?_⟩) u B;exact zx F j v hd i b r q
theorem JG {pl:Sem Bool} (L:PE X o ta) (c:Cls X.K C) (hm:Meth X.K C m f) (F:FnOk X.prog X.w X.K X.mg X.base Y k f fd ps sp) (J:UP k X.A) (M:Binds X.K fd ps ds) (hd:Vals dvs ds) (B:gc Y X E) (ha:PA X (e::es) t)
  (dJ:SY (e::es) X.env=(Sq,eval e X.env)::SY es X.env:=by rfl) (P:(backTo pos (SY es X.env)).any (·.1)=Sq:=by rfl)
  (G:eval (.Call (.Attribute o m Z) (e::es) [] pos) X.env=(do
   let ov<-eval o X.env
   standAt Z.atName
   let(f,first)<-holding [ov] (getMethod ov m pl)
   callWith pos f first (backTo pos (SY (e::es) X.env)) (backToKw pos (keywordEach [] X.env))):=by rfl):
  PE X (.Call (.Attribute o m Z) (e::es) [] pos) (uj C m sp dvs E ta t):=by
 intro b s g H Q I h;refine Xj (pl:=pl) (cz (L b s g H _ I h) fun u n ⟨x,R,j,v,a,dx,fs,N,O,l,q⟩=> ?_) G;subst N;obtain rfl:u=Sh.ref a:=v;refine qS j O c hm l ?_;refine Wr (first:=[.ref a]) (h₀:=X.base) I.ok.mod.kin hm.kp (cz (ha pos b n g R _ j q) fun us S ⟨vs,T,i,r,y⟩=>⟨i.XH,?_⟩) dJ P;exact zx (us:= .ref a::us) (vs:= .ref a::vs) F J M hd B i (.cons rfl r) y
theorem Fe {pl:Sem Bool} (y:PE X o ta) (c:Cls X.K C) (hm:Meth X.K C m f) (F:FnOk X.prog X.w X.K X.mg X.base Y k f fd ps sp) (v:UP k X.A) (B:Binds X.K fd ps ds) (hd:Vals dvs ds) (n:gc Y X E)
  (r:eval (.Call (.Attribute o m Z) [] [] pos) X.env=(do
   let ov<-eval o X.env
   standAt Z.atName
   let(f,first)<-holding [ov] (getMethod ov m pl)
   callWith pos f first (backTo pos (SY [] X.env)) (backToKw pos (keywordEach [] X.env))):=by rfl):
  PE X (.Call (.Attribute o m Z) [] [] pos) (uj C m sp dvs E ta nk):=by
 intro b s i H Q I h;refine Xj (pl:=pl) (cz (y b s i H _ I h) fun u L ⟨x,M,g,j,a,dx,fs,G,J,l,q⟩=> ?_) r;subst G;obtain rfl:u=Sh.ref a:=j;refine qS g J c hm l ?_;exact PySem.W.callWith_K0 (first:=[.ref a]) g.XH hm.kp (zx (us:=[.ref a]) (vs:=[.ref a]) F v B hd n g (.cons rfl .nil) q)
structure Mk (K:Ld) (C f:So):Prop where
 makes:YX K C=Si
 init:Ti K (.ref C) "__init__"=lD (lD (.ref f))
 fn:Vk K (.ref f)=Si
 kp:Uq K (.ref C)=Si
theorem HI (M:Mk X.K C f) (F:FnOk X.prog X.w X.K X.mg X.base Y k f fd ps sp) (q:UP (k+1) X.A) (B:Binds X.K fd ps ds) (hd:Vals dvs ds)
  (n:gc Y X E) (I:Inv X pins σ H s) (r:Vals vs us)
  (h:∀x dx,H x=Sg->H dx=Sg->dx≠x->sp (.ref x::(vs++dvs)) (bx (bx H dx (.own x)) x (.ins C dx [])) (fun v H2=>v= .UT/\Q (.ref x) H2) E):
  wpAny (model X.prog X.w) X.A (call (.ref C) us) (EP X pins σ Q) X.xe s:=by
 have i:=h (s.heap.objs.size+1) s.heap.objs.size (I.T9.fresh (W0 _)) (I.T9.fresh (Sw _)) (S1 (Wg _));have b:=Inv.made (C:=C) I;have g:Vals (V.ref (s.heap.objs.size+1)::(vs++dvs)) (Sh.ref (s.heap.objs.size+1)::(us++ds)):= .cons rfl (r.append hd);have y:(Sh.ref (s.heap.objs.size+1)::us++ds).length=ps.length:=by have e:=g.length;rw[F.len _ _ _ _ i] at e;exact e.symm
 refine W7 (FP I.XH M.makes M.init (beq_iff_eq.mp M.fn) (WU (F.run _ X.stack _ _ ⟨Sh.ref (s.heap.objs.size+1)::us,[]⟩ (Sh.ref (s.heap.objs.size+1)::(us++ds)) _ _ E (q.make C us [])
  (b.ade.make C us []) (B _ (Sh.ref (s.heap.objs.size+1)::us) b.XH y) g i) fun r j a=> ?_))
 cases r with
 |error e=>exact n pins σ _ _ e j b a
 |ok G=>
  cases G with
  |ret u=>obtain⟨v,L,J,rv,ev,l⟩:=b.after a;subst ev;exact⟨rv,⟨V.ref (s.heap.objs.size+1),L,J,rfl,l⟩⟩
  |next=>exact False.elim a
  |brk=>exact False.elim a
  |cont=>exact False.elim a
theorem J5 (M:Mk X.K C f) (F:FnOk X.prog X.w X.K X.mg X.base Y k f fd ps sp) (j:UP (k+1) X.A) (l:Gl X x) (hm:X.mg x=lD (.ref C)) (u:Binds X.K fd ps ds) (hd:Vals dvs ds) (i:gc Y X E)
  (ha:PA X (e::es) t) (v:(x==("__debug__":Str))=Sq:=by decide) (n:SY (e::es) X.env=(Sq,eval e X.env)::SY es X.env:=by rfl) (y:(backTo pos (SY es X.env)).any (·.1)=Sq:=by rfl):
  PE X (.Call (.Name x p) (e::es) [] pos) (zc C sp dvs E t):=by
 intro a s g H Q I h;refine Uu (jy I l hm ?_ v);refine Wr I.ok.mod.kin M.kp (cz (ha pos a s g H _ I h) fun B G ⟨vs,J,b,r,q⟩=>⟨b.XH,?_⟩) n y;exact HI M F j u hd i b r q
end
section
variable {X:Cx} {CX:wg} {k:Nat} {f C:So} {fd:TL} {ps ks:List Str} {sp:Sp} {E:XK} {x m:Str} {p pos apos akC:Pos} {e o:TF} {es:List TF} {kws:List Zp} {te ta:TE} {t tk:TA} {nm:Option Str}
structure aiX (K:Ld) (fd:TL) (ps ks:List Str) (g:List Sh->List Sh->List Sh) (gV:List V->List V->List V):Prop where
 to:∀(s:Sr) (us ws:List Sh),K.In s.heap->(g us ws).length=ps.length->X5 s fd ⟨us,ks.zip ws⟩ (ps.zip (g us ws))
 rel:∀{vs:List V} {us:List Sh} {zs:List V} {ws:List Sh},Vals vs us->Vals zs ws->Vals (gV vs zs) (g us ws)
variable {g:List Sh->List Sh->List Sh} {gV:List V->List V->List V}
end
structure Vc (N P:List Str) (sc:Wf):Prop where
 kind:sc.kind= .function
 co:sc.isCoroutine=Sq
 gen:sc.isGenerator=Sq
 nd:N.Nodup
 pre:N.take P.length=P
 par:∀x∈P,sc.names.lookup x=lD .local\/sc.names.lookup x=lD .cell
 ad6:∀y∈sc.names,y.2≠ .free
theorem uL {a:Str->Option Tf}:∀{binds:List (Str×Sh)} {m:Str->Option Sh},(∀v,(x,v)∉binds)->bindL a binds m x=m x
 |[],_,_=>rfl
 |(n,v)::r,m,h=>by
  unfold bindL;rw[uL fun w b=>h w (Sy _ b)];split
  .have:x≠n:=by rintro rfl;exact h v Sv
   simp[this]
  .rfl
theorem uG {a:Str->Option Tf}:∀{binds:List (Str×Sh)} {m:Str->Option Sh},(∀v,(x,v)∉binds)->bindC a binds m x=m x
 |[],_,_=>rfl
 |(n,v)::r,m,h=>by
  unfold bindC;rw[uG fun w b=>h w (Sy _ b)];split
  .rfl
  .have:x≠n:=by rintro rfl;exact h v Sv
   simp[this]
theorem uw {kindOf:Str->Option Tf}:∀{P:List Str} {vs:List Sh} {i:Nat} {m:Str->Option Sh},P.Nodup->P[i]? =lD x->vs[i]? =lD v->kindOf x=lD .local->
  bindL kindOf (P.zip vs) m x=lD v
 |[],_,_,_,_,h,_,_=>by simp at h
 |_::_,[],_,_,_,_,h,_=>by simp at h
 |p::P,w::vs,0,m,nd,h1,h2,hk=>by simp at h1 h2;subst h1;subst h2;show bindL kindOf ((p,w)::P.zip vs) m p=_;unfold bindL;rw[uL fun v hv=>(Um.mp nd).1 (VI hv).1,if_pos hk];simp
 |p::P,w::vs,i+1,m,nd,h1,h2,hk=>by unfold bindL;exact uw (Um.mp nd).2 (by simpa using h1) (by simpa using h2) hk
theorem ub {kindOf:Str->Option Tf}:∀{P:List Str} {vs:List Sh} {i:Nat} {m:Str->Option Sh},P.Nodup->P[i]? =lD x->vs[i]? =lD v->kindOf x≠lD .local->
  bindC kindOf (P.zip vs) m x=lD v
 |[],_,_,_,_,h,_,_=>by simp at h
 |_::_,[],_,_,_,_,h,_=>by simp at h
 |p::P,w::vs,0,m,nd,h1,h2,hk=>by simp at h1 h2;subst h1;subst h2;show bindC kindOf ((p,w)::P.zip vs) m p=_;unfold bindC;rw[uG fun v hv=>(Um.mp nd).1 (VI hv).1,if_neg hk];simp
 |p::P,w::vs,i+1,m,nd,h1,h2,hk=>by unfold bindC;exact ub (Um.mp nd).2 (by simpa using h1) (by simpa using h2) hk
def start (N:List Str) (vs:List V):St:=vs.map lD++Sz (N.length - vs.length) Sg
def gb (i:wg) (P:S0) (w:Tn) (K:Ld) (mg:Str->Option Sh) (base:Heap) (N:List Str) (b:Str) (a:Wf) (f:So) (h:Sh) (A:Tc) (outer:List Env) (s:Sr) (H:Hp) (E:XK):Cx where
 prog:=P
 w:=w
 K:=K
 mg:=mg
 base:=base
 A:=A.deeper (envOfC b a s.heap.objs.size f h)
 N:=N
 s₀:=s
 H₀:=H
 env:=envOfC b a s.heap.objs.size f h
 outer:=outer
 stack:=envOfC b a s.heap.objs.size f h::outer
 ex:=[]
 calm:=Si
 fn:=fun _=>Si
 pn:=[]
 xe:=fun e j=>wpAny (model P w) (A.deeper (envOfC b a s.heap.objs.size f h)) (leaving (envOfC b a s.heap.objs.size f h) e) (fun _ g=>i outer H s E e g) (fun l g=>i outer H s E l g) j
theorem xQ {a:Wf} (h:a.names.lookup x=lD .cell):∃c,(UH n a.names []).lookup x=lD c:=by have q:=VO a.names n [] (.inl h);exact ZF.mp q
theorem Du {K:Ld}
  (S:Vc N ps scope) (hd:A.handled=Sg) (e0:Env0 P w K mg base A outer s H) (F:vs.length=ps.length) (r:Vals vs us)
  (x:InCallC s s.heap.objs.size (bindL (envOfC qual scope s.heap.objs.size f cd).kindOf (ps.zip us) fun _=>Sg) (UH (s.heap.objs.size+1) scope.names []) (bindC (envOfC qual scope s.heap.objs.size f cd).kindOf (ps.zip us) fun _=>Sg) s1):
  Inv (gb CX P w K mg base N qual scope f cd A outer s H E) [] (start N vs) H s1:=by
 have I:ps.length<=N.length:=by have:=congrArg WW S.pre;rw[TQ] at this;omega
 obtain⟨o,C,rfl,B⟩:=x.done;have j:∀b:So,b∉(gb CX P w K mg base N qual scope f cd A outer s H E).ex:=fun b z=>absurd (show b∈([]:List So) from z) (by simp);refine⟨⟨e0.mod,S.kind,rfl,rfl,Sw _,fun y z c o g=> ?_,fun y l=> ?_,fun y c _ h=> ?_,fun _=>hd,Tc.frames_deeper e0.frames,.inr ⟨rfl,rfl⟩,fun b z=>absurd z (j b),e0.bs,e0.bsz,fun b _ _=>j b,fun b z=>absurd z (j b),e0.Ya,e0.frf⟩,
  rfl,e0.bare,Un.kept B,⟨_,x.toInCall.ns,fun i y v o g G=> ?_⟩,fun y c h=>⟨_,x.cell y c h⟩,e0.T9.fresh (Sw _),fun y c h=> ?_,fun p n=>absurd (show p∈([]:List (So×Obj)) from n) (by simp),e0.T9.kept B,?_⟩
 .exact name_of_addr x.apart (Ux o) (Ux g)
 .have l:=l
  rcases l with l|l
  .exact xQ l
  .exact absurd rfl (S.ad6 _ (Ux l))
 .exact Xq (x.above y c (Ux h))
 .have hi:i<vs.length:=by
   unfold start at g;by_cases hi:i<vs.length
   .exact hi
   .rw[Tb (by simpa using hi)] at g;rw[U2] at g;split at g<;>cases g
  have ha:vs[i]? =lD v:=by
   unfold start at g;rw[SG (by simpa using hi),Sx] at g;cases e:vs[i]? with
   |none=>rw[e] at g;cases g
   |some a=>rw[e] at g;cases g;rfl
  obtain⟨u,t,rv⟩:=r.get ha;have n:ps[i]? =lD y:=by rw[<-S.pre,Z9 (by omega)];exact o
  have m:ps.Nodup:=by rw[<-S.pre];exact S.nd.sublist (List.take_sublist _ _)
  refine⟨u,rv,?_⟩;rcases S.par y (S7 n) with k|k
  .exact .inl ⟨k,uw m n t k⟩
  .obtain⟨c,e⟩:=xQ k;refine .inr ⟨.inl k,c,e,?_⟩;have q:=x.cell y c e;rw[ub m n t (by show scope.names.lookup y≠_;rw[k];decide)] at q;exact q
 .exact e0.T9.fresh (Xq (x.above y c (Ux h)))
 .unfold start;show _=N.length;rw[Su,Sj,Tj];omega
theorem FV {CX:wg} {P:S0} {w:Tn} {K:Ld} {mg:Str->Option Sh} {base:Heap} {k:Nat} {f:So} {name qual:Str} {params:Arguments} {body:List UL} {scope:Wf} {dV kV doc pm Ug ct oc:Sh} {an od:Option So}
  {osl:Array (Option Sh)} {N ps:List Str} {sp:Sp} (lk:K.lookup f=lD ⟨oc,od,.func (Ui name qual params body scope dV kV doc pm an Ug ct),osl⟩) (hcd:Ws K Ug qual=Si) (S:Vc N ps scope)
  (len:∀vs H Q E,sp vs H Q E->vs.length=ps.length)
  (Vw:∀(A:Tc) (outer:List Env) (s:Sr) (H:Hp) (vs:List V) (Q:VK) (E:XK),UP k (A.deeper (envOfC qual scope s.heap.objs.size f Ug))->sp vs H Q E->
   ∃t,YM (gb CX P w K mg base N qual scope f Ug A outer s H E) body t/\t {nx:=fun _ H'=>Q .UT H',rt:=Q} (start N vs) H):
  FnOk P w K mg base CX (k+1) f (Ui name qual params body scope dV kV doc pm an Ug ct) ps sp:=by
 refine⟨len,fun A outer s H args us vs Q E hr e0 hb r hsp=> ?_⟩;have hl:=len _ _ _ _ hsp;have KX:K.In s.heap:=e0.mod.kin.keeps fun b o e=>(e0.bs b o e).1;have lim:s.heap.NoLimit:=e0.mod.nolimit.keeps fun b o e=>(e0.bs b o e).1;have WG:∀y∈ps.zip us,scope.names.lookup y.1=lD .local\/(scope.names.lookup y.1=lD .cell/\((UH (s.heap.objs.size+1) scope.names []).lookup y.1).isSome=Si):=fun⟨n,v⟩ hy=>by
  rcases S.par n (VI hy).1 with q|q
  .exact .inl q
  .exact .inr ⟨q,VO _ _ _ (.inl q)⟩
 refine codeAny_call_function hr.depth (KX _ _ lk) rfl S.co S.gen rfl (PySem.W.codeRec_of KX hcd) (hb _ _ _ _ ?_);refine wpAny_newFunctionEnv_cells S.kind WG fun env he s1 x=> ?_;subst he;refine⟨lim.keeps x.toInCall.keep,codeAny_func ?_⟩;obtain⟨t,ht,hq⟩:=Vw A outer s H vs Q E (hr.deeper _) hsp;have I:Inv (gb CX P w K mg base N qual scope f Ug A outer s H E) [] (start N vs) H s1:=Du S hr.hd e0 hl r x;refine wpAny_mono (ht [] s1 (start N vs) H _ I hq) (fun fl s' hs=> ?_) fun e s' hs=>hs
 have fin:∀{σ':St} {H':Hp} {v:V} {u:Sh},Inv (gb CX P w K mg base N qual scope f Ug A outer s H E) [] σ' H' s'->RelV v u->Q v H'->CE outer P w H s Q u s':=
  fun{σ' H' v u} J rv q=>⟨v,H',J.os,J.bare,J.base,J.T9,rv,q⟩
 cases fl with
 |ret u=>obtain⟨v,σ',H',J,rv,q⟩:=hs;exact fin J rv q
 |next=>obtain⟨σ',H',J,q⟩:=hs;exact fin (v:=V.UT) (u:=Sh.none) J rfl q
 |brk=>obtain⟨_,_,_,q⟩:=hs;exact False.elim q
 |cont=>obtain⟨_,_,_,q⟩:=hs;exact False.elim q
section
variable {X:Cx} {x:Str} {p pos:Pos} {e:TF} {es:List TF} {t:TA} {id T:String} {r:List V->Hp->VK->Prop}
def Kd (r:List V->Hp->VK->Prop) (t:TA):TE:=fun a H Q=>t a H fun vs b=>r vs b Q
theorem dR (o:VR X (.builtin id) r) (m:Gl X x) (hm:X.mg x=Sg) (l:T1 x=lD (.builtin id)) (ha:PA X (e::es) t) (hn:x≠ "__name__":=by decide) (q:(x==("__debug__":Str))=Sq:=by decide)
  (n:SY (e::es) X.env=(Sq,eval e X.env)::SY es X.env:=by rfl) (u:(backTo pos (SY es X.env)).any (·.1)=Sq:=by rfl):PE X (.Call (.Name x p) (e::es) [] pos) (Kd r t):=by
 intro a s b H Q I h;refine Uu (kW I m hm l ?_ hn q);exact agf (cz (ha pos a s b H _ I h) fun f g ⟨vs,w,v,i,j⟩=>o a g b w vs f Q v i j) n u
theorem jb (o:VR X (.type T) r) (m:Gl X x) (hm:X.mg x=Sg) (l:T1 x=lD (.type T)) (ha:PA X (e::es) t) (hn:x≠ "__name__":=by decide) (q:(x==("__debug__":Str))=Sq:=by decide)
  (n:SY (e::es) X.env=(Sq,eval e X.env)::SY es X.env:=by rfl) (u:(backTo pos (SY es X.env)).any (·.1)=Sq:=by rfl):PE X (.Call (.Name x p) (e::es) [] pos) (Kd r t):=by
 intro a s b H Q I h;refine Uu (kW I m hm l ?_ hn q);exact Us (cz (ha pos a s b H _ I h) fun f g ⟨vs,w,v,i,j⟩=>o a g b w vs f Q v i j) n u
end
end L2
namespace HT
open PySem PyProof.Rows
section
open PySem.SeqAt
open PySem.AutoSeq1 (wpAny_loadPart')
open PySem.MeetsSeq PySem.MeetsSeq2 PySem.MeetsSeq3
end
section
variable {prog:S0} {w:Tn} {A:Tc} {E:Sh->Sr->Prop} {s:Sr}
theorem cat_tup {t b:So} {vs ws:List Sh} {Q:Sh->Sr->Prop} (v:IsTup s.heap t vs.toArray) (y:IsTup s.heap b ws.toArray) (q:vs≠[])
  (C:ws=[]->Q (.ref t) s) (B:ws≠[]->Q (.ref s.heap.objs.size) {s with heap:=s.heap.push {cls:= .type "tuple",data:= .seq (vs++ws).toArray}})
  (hsz:vs.length+ws.length<=SD):wpAny (model prog w) A (Vj .Add (.ref t) (.ref b)) Q E s:=by
 obtain⟨⟨cls,dd,data,o⟩,l,u,n,r⟩:=id v;obtain⟨⟨F,i,m,f⟩,a,h,p,g⟩:=id y;simp only at u r h g;subst u r h g;have e:vs.toArray++ws.toArray=(vs++ws).toArray:=by simp
 by_cases j:ws=[]
 .exact concat_meets ⟨_,l,rfl⟩ ⟨_,a,rfl⟩ ae6 ajd ZO ZG (Zq _ _)
   (tuple_addW1 t b vs.toArray ws.toArray n p dd i o f (by simpa using q) (by simp[j])) ⟨l,a,C j⟩
 .refine concat_meets ⟨_,l,rfl⟩ ⟨_,a,rfl⟩ ae6 ajd ZO ZG (Zq _ _)
   (tuple_addW2 t b vs.toArray ws.toArray n p dd i o f (by simpa using q) (by simpa using j) (by rw[SE,SE];exact hsz)) ⟨l,a,?_⟩
  rw[e];exact B j
def sIx (n d:Nat):Option Int->Nat
 |none=>d
 |some v=>if v<0 then(v+(n:Int)).toNat else min v.toNat n
theorem sIx_none (n d:Nat):sIx n d Sg=d:=rfl
theorem sIx_nat (n d k:Nat):sIx n d (lD (k:Int))=min k n:=by show(if(k:Int)<0 then((k:Int)+(n:Int)).toNat else min (k:Int).toNat n)=min k n;rw[if_neg (by omega),Ua]
theorem MA (n d:Nat) (hd:d<=n) (o:Option Int):sIx n d o<=n:=by
 cases o with
 |none=>exact hd
 |some v=>
  show(if v<0 then(v+(n:Int)).toNat else min v.toNat n)<=n;by_cases a:v<0
  .rw[if_pos a];omega
  .rw[if_neg a];exact Y9 _ _
theorem Cu (v:Int) (n d:Nat):(if v<0 then max (v+(n:Int)) 0 else min v (n:Int))=((sIx n d (lD v):Nat):Int):=by
 show(if v<0 then max (v+(n:Int)) 0 else min v (n:Int))=(((if v<0 then(v+(n:Int)).toNat else min v.toNat n):Nat):Int);by_cases a:v<0
 .simp only[if_pos a];omega
 .simp only[if_neg a];omega
theorem An (lo hi:Option Int) (n:Nat):Builtin.Slice.sliceAdjust lo hi 1 (n:Int)=(((sIx n 0 lo:Nat):Int),((sIx n n hi:Nat):Int)):=by
 have a:¬((1:Int)<0):=by omega
 unfold Builtin.Slice.sliceAdjust;simp only[a,if_false];refine Prod.ext ?_ ?_
 .cases lo with
  |none=>rfl
  |some v=>exact Cu v n 0
 .cases hi with
  |none=>rfl
  |some v=>exact Cu v n n
theorem Ag (i j:Nat):Builtin.Slice.slicePlaces (i:Int) (j:Int) 1=j - i:=by
 unfold Builtin.Slice.slicePlaces;have a:(1:Int)>0:=by omega
 simp only[a,if_true,Int.ediv_one];split<;>omega
theorem qW (p:YE v o) (h:Q o s):wpAny (model prog w) A (Builtin.Slice.slicePartIndex v) Q E s:=by
 cases p with
 |none=>exact slicePart_none h
 |int i t=>exact slicePart_int h
theorem jt {lo hi:Option Int} {Q:Int×Int×Nat->Sr->Prop} (f:s.heap.IsSliceOf sl vl vu .none) (pl:YE vl lo) (e:YE vu hi)
  (h:Q (((sIx n 0 lo:Nat):Int),1,sIx n n hi - sIx n 0 lo) s):wpAny (model prog w) A (Builtin.Slice.sliceApplied (.ref sl) (pure (n:Int))) Q E s:=by
 obtain⟨i,a,g,b⟩:=id f;unfold Builtin.Slice.sliceApplied Builtin.Slice.sliceFields;refine Sf (Sf (Tz a b rfl (Sf (Tz a b rfl (Sf (Tz a b rfl (Ss ?_)))))));refine Sf (slicePart_none ?_);rw[if_neg (by decide)];refine Sf (qW pl (Sf (qW e (Sf (Ss ?_)))));show wpAny _ _ (match Builtin.Slice.sliceAdjust lo hi 1 (n:Int) with|(lo,hi)=>pure (lo,(1:Int),Builtin.Slice.slicePlaces lo hi 1)) _ _ s;rw[An lo hi n];show wpAny _ _ (pure (((sIx n 0 lo:Nat):Int),(1:Int),Builtin.Slice.slicePlaces ((sIx n 0 lo:Nat):Int) ((sIx n n hi:Nat):Int) 1)) _ _ s;rw[Ag];exact Ss h
theorem Ek (xs:Array Sh) (i k:Nat):((S6 k).filterMap fun(m:Nat)=>xs[((i:Int)+(m:Int)*1).toNat]?).toArray=((xs.toList.drop i).take k).toArray:=by
 have e:(fun(m:Nat)=>xs[((i:Int)+(m:Int)*1).toNat]?)=fun m=>xs[i+m]? :=by
  funext m;have:((i:Int)+(m:Int)*1).toNat=i+m:=by omega
  rw[this]
 rw[e];have:=pick_run xs i k;rw[List.filterMap_map] at this;have a:((fun x=>xs[x]?)∘fun x=>i+x)=fun m=>xs[i+m]? :=rfl;rw[a] at this;rw[this]
theorem getItem_tuple_cut {lo hi:Option Int} (b:IsTup s.heap t items) (j:s.heap.IsSliceOf sl vl vu .none) (pl:YE vl lo) (l:YE vu hi)
  (n:¬(sIx items.size 0 lo=0/\sIx items.size items.size hi=items.size))
  (h:Q (.ref s.heap.objs.size) {s with heap:=s.heap.push {cls:= .type "tuple",data:= .seq ((items.toList.drop (sIx items.size 0 lo)).take (sIx items.size items.size hi - sIx items.size 0 lo)).toArray}})
  (hsz:items.size<=SD):wpAny (model prog w) A (getItem (.ref t) (.ref sl)) Q E s:=by
 have a:sizeOk (.seq ((items.toList.drop (sIx items.size 0 lo)).take (sIx items.size items.size hi - sIx items.size 0 lo)).toArray):=by show((items.toList.drop (sIx items.size 0 lo)).take (sIx items.size items.size hi - sIx items.size 0 lo)).toArray.size<=SD;rw[SE,TQ,Vs,TH];omega
 have u:sIx items.size items.size hi<=items.size:=MA _ _ (Sw _) hi;obtain⟨m,e,g,o⟩:=id j;have i:s.TypeIs (.ref sl) "slice":=⟨m,e,g⟩;unfold getItem
 try specialize Uo ?_
 first|refine Sf (Ss ?_)|skip
 refine Sf (aev b.typeIs (by decide) ?_);refine Sf (UA b.typeIs T3
  (UI T3 b.typeIs entry_tuple_getitem ?_ (args_tuple_getitem _ _)))
 show wpAny _ _ (Builtin.Tuple.tupleItemsOf (.ref t)>>=_) _ _ s;refine Sf (tupleItemsOf_ b ?_);refine Sf (Wh i ?_);rw[if_pos (by decide)];refine Sf (jt j pl l ?_);have f:¬((((sIx items.size 0 lo:Nat):Int)==0&&(1:Int)==1&&(sIx items.size items.size hi - sIx items.size 0 lo)==items.size)=Si):=by intro q;rw[S2,S2] at q;have r:=eq_of_beq q.1.1;have p:=eq_of_beq q.2;exact n ⟨by omega,by omega⟩
 show wpAny _ _ (if(((sIx items.size 0 lo:Nat):Int)==0&&(1:Int)==1&&(sIx items.size items.size hi - sIx items.size 0 lo)==items.size)=Si then _ else _) _ _ s;rw[if_neg f,Ek]
 first
  |exact Sf (T5 (Ss ⟨_,rfl,Ss h⟩) a)
  |exact Sf (T5 (Sf (Ss (Ss ⟨_,rfl,Ss h⟩))) a)
  |exact Sf (Sf (T5 (Ss (Ss ⟨_,rfl,Ss h⟩)) a))
  |exact Sf (Sf (T5 (Ss ⟨_,rfl,Ss h⟩) a))
end
end HT
namespace L2
open PySem PySem.Spec PyProof.Rows
abbrev TO:=St->Hp->(Option Int->Hp->Prop)->Prop
def PO (X:Cx) (e:Option TF) (t:TO):Prop:=
 ∀(a:List (So×Obj)) (s:Sr) (b:St) (H:Hp) (Q:Option Int->Hp->Prop),Inv X a b H s->t b H Q->
  wpAny (model X.prog X.w) X.A (evalPart e X.env) (fun u f=>∃o H',Inv X a b H' f/\YE u o/\Q o H') X.xe s
def Bo:TO:=fun _ H Q=>Q Sg H
def Lb (t:TE):TO:=fun a H Q=>t a H fun x b=>∃i,x= .int i/\Q (lD i) b
theorem mi:∀{us:List Sh},Vals (ns.map V.int) us->IntsAre us ns:=by
 induction ns with
 |nil=>intro us r;rw[Wz] at r;cases r;exact .nil
 |cons n ns f=>
  intro us r;rw[SN] at r;cases r with
  |cons b a=>obtain⟨t,e⟩:=b;subst e;exact .cons n t (f a)
section
variable {X:Cx} {e:TF} {U:TE} {Z Y:Option TF} {S R:TO} {pos P:Pos}
theorem C0:PO X Sg Bo:=by intro a s b H Q I h;rw[aje];exact Ss ⟨Sg,H,I,.none,h⟩
theorem BX (h:PE X e U):PO X (lD e) (Lb U):=by intro a s b H Q I j;rw[evalPart_some];refine cz (h a s b H _ I j) fun u n ⟨x,m,l,f,g⟩=> ?_;obtain⟨i,rfl,q⟩:=g;obtain⟨t,rfl⟩:=f;exact⟨lD i,m,l,.int i t,q⟩
def MF (X:Cx) (r:V->Option Int->Option Int->Hp->VK->Prop):Prop:=
 ∀(a:List (So×Obj)) (s:Sr) (b:St) (H:Hp) (x:V) (v g f:Sh) (Z Y:Option Int) (h:So) (Q:VK),Inv X a b H s->RelV x v->s.heap.IsSliceOf h g f .none->YE g Z->YE f Y->r x Z Y H Q->
  ∃T id,typeLookup (.type T) "__getitem__"=pure (lD (.builtin id))/\s.TypeIs v T/\wpAny (model X.prog X.w) X.A (getItem v (.ref h)) (EP X a b Q) X.xe s
def RE (r:V->Option Int->Option Int->Hp->VK->Prop) (U:TE) (S R:TO):TE:=fun a H Q=>U a H fun x g=>S a g fun l f=>R a f fun u b=>r x l u b Q
theorem xP {r:V->Option Int->Option Int->Hp->VK->Prop} (G:MF X r) (L:PE X e U) (J:PO X Z S) (E:PO X Y R):PE X (.Subscript e (.Slice Z Y Sg P) pos) (RE r U S R):=by intro a s g H Q I h;refine Subscript_ (cz (L a s g H _ I h) fun v o ⟨x,H1,I1,p,B⟩=> ?_);refine wpAny_Slice (cz (J a o g H1 _ I1 B) fun j n ⟨l,H2,I2,pl,y⟩=>cz (E a n g H2 _ I2 y) fun i f ⟨u,m,O,C,t⟩=> ?_);rw[aje];refine Ss ?_;have N:Inv X a g m {f with heap:=f.heap.push {cls:= .type "slice",data:= .fields #[j,i,.none]}}:=O.kept (t':=f.toks) fun b ob q=>Heap.get?_push_of_some _ q;obtain⟨T,id,M,F,K⟩:=G a {f with heap:=f.heap.push {cls:= .type "slice",data:= .fields #[j,i,.none]}} g m x v j i l u f.heap.objs.size Q N p (Heap.IsSliceOf.new ..) pl C t;show wpAny (model X.prog X.w) X.A (subscriptTail e (.Slice Z Y Sg P) v (.ref f.heap.objs.size)) (EP X a g Q) X.xe {f with heap:=f.heap.push {cls:= .type "slice",data:= .fields #[j,i,.none]}};exact tail_any (ops:=[.ref f.heap.objs.size,v]) F M K (by with_unfolding_all rfl)
def D0 (xs:List V) (Z Y:Option Int):List V:=(xs.drop (HT.sIx xs.length 0 Z)).take (HT.sIx xs.length xs.length Y - HT.sIx xs.length 0 Z)
theorem o0 (xs:List V) (Z Y:Option Int):(D0 xs Z Y).length<=xs.length:=by unfold D0;rw[TQ,Vs];omega
def OY (K:Ld):V->Option Int->Option Int->Hp->VK->Prop:=fun x Z Y H Q=>∃a xs,x= .ref a/\WZ K H a xs/\
 ¬(HT.sIx xs.length 0 Z=0/\HT.sIx xs.length xs.length Y=xs.length)/\∀p,H p=Sg->Q (.ref p) (bx H p (.tup (D0 xs Z Y)))
theorem L7:MF X (OY X.K):=by
 intro g s u H x v y w Z Y A Q I l p pl m h;obtain⟨a,xs,rfl,n,o,q⟩:=h;cases l;obtain⟨t,r,j,i⟩:=I.tuple n;have f:t.toArray.size=xs.length:=by rw[SE];exact r.length.symm
 refine⟨"tuple",_,T3.lookup,j.typeIs,?_⟩;refine HT.getItem_tuple_cut j p pl m (by rw[f];exact o) ?_ (by rw[f];exact i);rw[f];refine⟨.ref s.heap.objs.size,_,I.laid (fun b B q=>Heap.get?_push_of_some _ q) (Sw _) ?_,rfl,q _ (I.T9.fresh (Sw _))⟩;exact⟨Tg (o0 xs Z Y) i,_,(r.drop (HT.sIx xs.length 0 Z)).take (HT.sIx xs.length xs.length Y - HT.sIx xs.length 0 Z),Y3.new _ _⟩
def Lj (K:Ld):R2:=fun x y H Q=>∃a b xs ys,x= .ref a/\y= .ref b/\WZ K H a xs/\WZ K H b ys/\xs≠[]/\xs.length+ys.length<=SD/\
 (ys=[]->Q (.ref a) H)/\(ys≠[]->∀p,H p=Sg->Q (.ref p) (bx H p (.tup (xs++ys))))
theorem Vals.ZS (r:Vals xs us):us=[]↔xs=[]:=by
 cases r with
 |nil=>simp
 |cons _ _=>simp
theorem J3:OpR X (Vj .Add) (Lj X.K):=by intro i s A H x y v u Q I m l h;obtain⟨a,b,xs,B,rfl,rfl,ha,t,r,j,o,n⟩:=h;cases m;cases l;obtain⟨F,g,p,_⟩:=I.tuple ha;obtain⟨E,f,P,_⟩:=I.tuple t;refine HT.cat_tup p P (fun z=>r (g.ZS.mp z)) (fun z=>⟨.ref a,H,I,rfl,o (f.ZS.mp z)⟩) (fun z=> ?_) (by rw[<-g.length,<-f.length];exact j);refine⟨.ref s.heap.objs.size,_,I.laid (fun b C q=>Heap.get?_push_of_some _ q) (Sw _) ?_,rfl,n (fun w=>z (f.ZS.mpr w)) _ (I.T9.fresh (Sw _))⟩;exact⟨by rw[Su];exact j,_,g.append f,Y3.new _ _⟩
end
def LU (n:Nat) (i:Int):Option Nat:=if 0<=i then(if i<n then lD i.toNat else Sg) else if -(n:Int)<=i then lD (i+n).toNat else Sg
def l9 (xs:List α) (i:Int):Option α:=(LU xs.length i).bind fun j=>xs[j]?
theorem Iz (h:LU n i=lD j):seqIndex? i n=lD j/\j<n/\ -(n:Int)<=i/\i<n:=by
 unfold LU at h;by_cases b:0<=i
 .rw[if_pos b] at h
  by_cases a:i<n
  .rw[if_pos a] at h;have e:=SM h;exact⟨by rw[seqIndex_of b a,e],by omega,by omega,a⟩
  .rw[if_neg a] at h;cases h
 .rw[if_neg b] at h
  by_cases a: -(n:Int)<=i
  .rw[if_pos a] at h;have e:=SM h;exact⟨by rw[seqIndex_neg (by omega) a,e],by omega,a,by omega⟩
  .rw[if_neg a] at h;cases h
theorem vY (h:l9 xs i=lD v):∃j,seqIndex? i xs.length=lD j/\xs[j]? =lD v/\j<xs.length/\ -(xs.length:Int)<=i/\i<xs.length:=by
 unfold l9 at h;cases e:LU xs.length i with
 |none=>rw[e] at h;cases h
 |some j=>rw[e] at h;obtain⟨g,f,b,a⟩:=Iz e;exact⟨j,g,h,f,b,a⟩
theorem C1 {j:Nat} (h:xs[j]? =lD v):l9 xs (j:Int)=lD v:=by
 have a:=(Sl.mp h).1;have e:LU xs.length (j:Int)=lD j:=by unfold LU;rw[if_pos (by omega),if_pos (by omega)];simp
 unfold l9;rw[e];exact h
def Jn (b:TF):Prop:=∀o i,subscripted b Sq o i=operate [o,i] (getItem o i)
def IxR (X:Cx) (r:R2):Prop:=
 ∀(e a:TF) (b:List (So×Obj)) (s:Sr) (f:St) (H:Hp) (x y:V) (v u:Sh) (Q:VK),Inv X b f H s->RelV x v->RelV y u->r x y H Q->
  subscripted a Sq v u=operate [v,u] (getItem v u)->wpAny (model X.prog X.w) X.A (subscriptTail e a v u) (EP X b f Q) X.xe s
def QJ (X:Cx) (f:String) (r:V->List V->Hp->VK->Prop):Prop:=
 ∀(a:List (So×Obj)) (s:Sr) (b:St) (H:Hp) (x:V) (xs:List V) (v:Sh) (e:List Sh) (Q:VK),Inv X a b H s->RelV x v->Vals xs e->r x xs H Q->
  wpAny (model X.prog X.w) X.A (call (.builtin f) (v::e)) (EP X a b Q) X.xe s
section
variable {X:Cx} {a b:TF} {ta tb:TE} {pos:Pos}
theorem IxR.or (h:IxR X r) (h':IxR X r'):IxR X (fun x y H Q=>r x y H Q\/r' x y H Q):=by
 intro e f g s i H x y v u Q I l j q m;rcases q with q|q
 .exact h e f g s i H x y v u Q I l j q m
 .exact h' e f g s i H x y v u Q I l j q m
theorem cX {r:R2} (m:IxR X r) (ha:PE X a ta) (n:PE X b tb) (l:Jn b):PE X (.Subscript a b pos) (LC r ta tb):=by intro e s f H Q I h;exact Subscript_ (MO ha n I h fun v u g x y p o j i q=>m a b e g f p x y v u Q o j i q (l _ _))
def PK (K:Ld):R2:=fun x y H Q=>∃p xs i v,x= .ref p/\y= .int i/\Xa K H p xs/\l9 xs i=lD v/\Q v H
def Qj (K:Ld):R2:=fun x y H Q=>∃p xs i v,x= .ref p/\y= .int i/\WZ K H p xs/\l9 xs i=lD v/\Q v H
def Pp:R2:=fun x y H Q=>∃z i c,x= .str z/\y= .int i/\z.length<=SD/\l9 z.cps.toList i=lD c/\Q (.str ⟨#[c]⟩) H
theorem KG:IxR X (PK X.K):=by
 intro l m e s E H x y v u Q I G F h A;obtain⟨p,xs,i,z,rfl,rfl,J,M,q⟩:=h;cases G;obtain⟨t,rfl⟩:=F;obtain⟨R,r,pl,S⟩:=I.list J;obtain⟨j,g,P,T,O,N⟩:=vY M;obtain⟨w,C,n⟩:=r.get P;have L:=r.length;have hn:=vR;have f:EP X e E Q w s:=⟨z,H,I,n,q⟩;by_cases B:0<=i
 .have o:i.toNat=j:=by
   rw[seqIndex_of B N] at g;exact SM g
  exact item_listR pl.isList B (by omega) (by rw[o];simpa using C) f A
 .have o:(i+(R.toArray.size:Int)).toNat=j:=by
   rw[seqIndex_neg (by omega) O] at g;rw[SE,<-L];exact SM g
  exact subscriptTail_builtinR pl.isList.typeIs aew.lookup
   (wpAny_getItem_list_neg pl.isList (by omega) (by rw[SE]<;>omega) (by omega) (by rw[o];simpa using C) ⟨rfl,f⟩) A
theorem MY:IxR X (Qj X.K):=by
 intro f g e s n H x y v u Q I A o h B;obtain⟨p,xs,i,z,rfl,rfl,C,F,q⟩:=h;cases A;obtain⟨t,rfl⟩:=o;obtain⟨R,r,pl,M⟩:=I.tuple C;obtain⟨j,J,G,P,O,N⟩:=vY F;obtain⟨w,L,l⟩:=r.get G;have E:=r.length;have hn:=vR;have m:EP X e n Q w s:=⟨z,H,I,l,q⟩;exact subscriptTail_builtinR pl.typeIs slot_tuple_getitem.lookup
  (getItem_tuple pl (by omega) (by omega) (by rw[SE,<-E];exact J) (by simpa using L) ⟨rfl,m⟩) B
theorem MD:IxR X Pp:=by
 intro e f g s F H x y v u Q I n m h o;obtain⟨z,i,c,rfl,rfl,J,r,q⟩:=h;obtain⟨t,rfl⟩:=n;obtain⟨G,rfl⟩:=m;obtain⟨j,l,B,K,A,w⟩:=vY r;have p:z.cps.toList.length=z.length:=by simp[Str.length]
 rw[p] at l A w;have hn:=vR;exact tail_any (aaK s z t) slot_str_getitem.lookup (getItem_str (by have E:decide (i< -(2^63:Int))=Sq:=decide_eq_false (by omega);have C:decide (i≥2^63)=Sq:=decide_eq_false (by omega);rw[E,C,aaa]) (by rw[l];simpa using B) ⟨.str ⟨#[c]⟩,H,I.tok _,⟨_,rfl⟩,q⟩) o
def QC (K:Ld):R2:=fun x y H Q=>PK K x y H Q\/Qj K x y H Q\/Pp x y H Q
theorem b6:IxR X (QC X.K):=KG.or (MY.or MD)
theorem wL (lo hi:Option Int) (n:Nat):(sliceBounds lo hi Sg n).1=((HT.sIx n 0 lo:Nat):Int)/\(sliceBounds lo hi Sg n).2.1=((HT.sIx n n hi:Nat):Int)/\(sliceBounds lo hi Sg n).2.2=1:=by
 refine⟨?_,?_,rfl⟩
 .cases lo with
  |none=>simp[sliceBounds,HT.sIx]
  |some i=>
   simp only[sliceBounds,HT.sIx,abK,show(1:Int)>0 by decide,if_true];by_cases h:i<0
   .simp only[h,if_true]<;>omega
   .simp only[h,if_false]<;>omega
 .cases hi with
  |none=>simp[sliceBounds,HT.sIx]
  |some i=>
   simp only[sliceBounds,HT.sIx,abK,show(1:Int)>0 by decide,if_true];by_cases h:i<0
   .simp only[h,if_true]<;>omega
   .simp only[h,if_false]<;>omega
theorem tT (e:List Sh) (lo hi:Option Int):slicePick e.toArray lo hi Sg=((e.drop (HT.sIx e.length 0 lo)).take (HT.sIx e.length e.length hi - HT.sIx e.length 0 lo)).toArray:=by obtain⟨h,g,f⟩:=wL lo hi e.toArray.size;unfold slicePick;rw[h,g,f];simp only[sliceRange_one,pick_run,SE]<;>rfl
def Pt (K:Ld):V->Option Int->Option Int->Hp->VK->Prop:=fun x lo hi H Q=>∃a xs,x= .ref a/\Xa K H a xs/\∀p,H p=Sg->Q (.ref p) (bx H p (.lst (D0 xs lo hi)))
theorem Kn:MF X (Pt X.K):=by intro f s o H x v t p lo hi u Q I i n pl j h;obtain⟨a,xs,rfl,m,q⟩:=h;cases i;obtain⟨y,r,g,l⟩:=I.list m;have e:=r.length;refine⟨"list",_,aew.lookup,g.isList.typeIs,?_⟩;refine wpAny_getItem_list_slice g.isList n pl j .none (by simp) ?_ (by rw[SE]<;>omega);rw[tT,<-e];refine⟨.ref s.heap.objs.size,_,I.laid (fun b w q=>Heap.get?_push_of_some _ q) (Sw _) ?_,rfl,q _ (I.T9.fresh (Sw _))⟩;exact⟨Tg (o0 xs lo hi) l,_,0,(r.drop (HT.sIx xs.length 0 lo)).take (HT.sIx xs.length xs.length hi - HT.sIx xs.length 0 lo),Heap.get?_push_size _ rfl⟩
theorem VR.or (h:VR X f r) (h':VR X f r'):VR X f (fun xs H Q=>r xs H Q\/r' xs H Q):=by
 intro e s g H xs i Q I j q;rcases q with q|q
 .exact h e s g H xs i Q I j q
 .exact h' e s g H xs i Q I j q
theorem v8:VR X (.type "list") (fun xs H Q=>∃p ys,xs=[.ref p]/\(Xa X.K H p ys\/WZ X.K H p ys)/\∀l,H l=Sg->Q (.ref l) (bx H l (.lst ys))):=by
 intro m s G H xs L Q I r h;obtain⟨p,ys,rfl,y,q⟩:=h;obtain⟨u,rfl,J⟩:=lU r;cases J
 have B:∀(g:List Sh),Vals ys g->ys.length<=SD->∀(f:Heap) (j:Nat),(∀b o',s.heap.get? b=lD o'->f.get? b=lD o')->
   f.get? s.heap.objs.size=lD {cls:= .type "list",dict:=Sg,data:= .seq g.toArray j,slots:= #[]}->EP X m G Q (.ref s.heap.objs.size) {s with heap:=f}:=fun g i v f j t e=>
  ⟨.ref s.heap.objs.size,_,I.laid t (Sw _) (show ObjOk X.prog X.w _ f _ (.lst ys) from⟨v,g,j,i,e⟩),rfl,q _ (I.T9.fresh (Sw _))⟩
 rcases y with y|y
 .obtain⟨g,i,pl,v⟩:=I.list y;have A:=i.length;obtain⟨o,C,F,n,E⟩:=pl.isList;exact ajf p (.inl rfl) C F E (fun f j t e=>B g i v f j t e) (by simp only[SE]<;>omega)
 .obtain⟨g,i,pl,v⟩:=I.tuple y;have A:=i.length;obtain⟨o,C,F,n,E⟩:=pl;exact ajf p (.inr rfl) C F E (fun f j t e=>B g i v f j t e) (by simp only[SE]<;>omega)
theorem gr:VR X (.type "tuple") (fun xs H Q=>∃p ys,xs=[.ref p]/\((Xa X.K H p ys/\∀l,H l=Sg->Q (.ref l) (bx H l (.tup ys)))\/(WZ X.K H p ys/\Q (.ref p) H))):=by
 intro i s C H xs E Q I r h;obtain⟨p,ys,rfl,h⟩:=h;obtain⟨u,rfl,v⟩:=lU r;cases v;rcases h with⟨g,q⟩|⟨g,q⟩
 .obtain⟨n,f,pl,j⟩:=I.list g
  have m:=f.length;refine call_tuple_list pl.isList (fun A y=> ?_) (by simp only[SE]<;>omega);have t:=I.kept (t':=s.toks) y
  have B:=
   t.laid (t':=s.toks) (fun b o e=>Heap.get?_push_of_some _ e) (Sw _) (show ObjOk X.prog X.w _ _ _ (.tup ys) from⟨j,n,f,Y3.new _ _⟩)
  exact⟨.ref A.objs.size,_,B,rfl,q _ (t.T9.fresh (Sw _))⟩
 .obtain⟨n,f,pl,j⟩:=I.tuple g;exact call_tuple_same pl ⟨.ref p,H,I,rfl,q⟩
def Ro (K:Ld) (T:String) (x:V) (H:Hp):Prop:=match x with
 | .str _=>T= "str"
 | .int _=>T= "int"
 | .ref p=>(T= "list"/\∃xs,Xa K H p xs)\/(T= "tuple"/\∃o,K.lookup p=lD o/\o.cls= .type "tuple"/\o.dict=Sg)\/
   (T= "dict"/\((∃S4,H p=lD (.dK S4))\/∃S4,H p=lD (.dT S4)))\/(T= "set"/\∃S n,H p=lD (.set S n))
 |_=>False
theorem Eg (I:Inv X pins σ H s) (r:RelV x v) (ty:Ro X.K T x H):
  s.TypeIs v T/\∀a,v= .ref a->∃ob,s.heap.get? a=lD ob/\ob.dict=Sg:=by
 cases x with
 |str z=>obtain⟨t,rfl⟩:=r;cases(show T= "str" from ty);exact⟨aaK s z t,fun _ e=>nomatch e⟩
 |int i=>obtain⟨t,rfl⟩:=r;cases(show T= "int" from ty);exact⟨Za s i t,fun _ e=>nomatch e⟩
 |ref p=>
  cases r;rcases ty with⟨rfl,xs,l⟩|⟨rfl,o,f,m,h⟩|⟨rfl,f⟩|⟨rfl,S,n,f⟩
  .obtain⟨q,_,pl,_⟩:=I.list l;refine⟨pl.isList.typeIs,fun a e=> ?_⟩;cases e;obtain⟨o,n,e,c,h,_⟩:=pl;exact⟨o,e,h⟩
  .refine⟨⟨o,I.XH p o f,m⟩,fun a e=> ?_⟩;cases e;exact⟨o,I.XH _ o f,h⟩
  .have z:∃o,s.heap.get? p=lD o/\o.ExactDict:=by
    rcases f with⟨S4,f⟩|⟨S4,f⟩
    .obtain⟨_,_,_,_,o,_,_,e,g,_⟩:=I.T9 p _ f;exact⟨o,e,g⟩
    .obtain⟨_,_,_,_,o,_,_,e,g,_⟩:=I.T9 p _ f;exact⟨o,e,g⟩
   obtain⟨o,e,g⟩:=z;refine⟨⟨o,e,g.1⟩,fun a j=> ?_⟩;cases j;exact⟨o,e,g.2.1⟩
  .obtain⟨o,_,_,_,e,g,_⟩:=I.T9 p _ f;refine⟨⟨o,e,g.1⟩,fun a j=> ?_⟩;cases j;exact⟨o,e,g.2.1⟩
 |_=>exact False.elim ty
def OW (K:Ld) (T:String) (r:V->List V->Hp->VK->Prop) (to:TE):TE:=fun f H Q=>to f H fun x e=>Ro K T x e/\r x [] e Q
def PL (K:Ld) (T:String) (r:V->List V->Hp->VK->Prop) (to:TE) (t:TA):TE:=fun e H Q=>to e H fun x f=>Ro K T x f/\t e f fun xs g=>r x xs g Q
variable {o e:TF} {es:List TF} {to:TE} {t:TA} {name:Str} {Z Y:Pos} {T U:String} {r:V->List V->Hp->VK->Prop}
theorem HG (pa:PlainAttrs T) (g:Slot T name U) (i:typeOf (.builtin U)=pure (.type "method_descriptor")) (hm:QJ X U r) (u:PE X o to)
  (A:attributeBase o name X.env (eval o X.env)=eval o X.env:=by rfl) (j:(Z.endLine==Y.line)=Si:=by rfl):PE X (.Call (.Attribute o name Z) [] [] Y) (OW X.K T r to):=by
 intro f s l H Q I h;refine wpAny_Call_method0_late A j (cz (u f s l H _ I h) fun v p ⟨x,B,n,m,ty,q⟩=> ?_);obtain⟨y,w⟩:=Eg n m ty;exact⟨T,U,pa,g,i,y,w,Calls.callWith_builtin rfl (PySem.evalArgs_none (hm f p l B x [] v [] Q n m .nil q))⟩
theorem mX (pa:PlainAttrs T) (g:Slot T name U) (j:typeOf (.builtin U)=pure (.type "method_descriptor")) (hm:QJ X U r) (G:PE X o to) (ha:PA X (e::es) t)
  (M:attributeBase o name X.env (eval o X.env)=eval o X.env:=by rfl)
  (l:((backTo Y (SY (e::es) X.env)).all (fun x=> !x.1)&&(backToKw Y (keywordEach [] X.env)).all (fun x=>x.1.isSome)
   &&decide ((e::es).length+([]:List Zp).length+(if([]:List Zp).isEmpty then 0 else 1)<30))=Si:=by rfl)
  (m:(Z.endLine==Y.line)=Si:=by rfl) (F:SY (e::es) X.env=(Sq,eval e X.env)::SY es X.env:=by rfl) (n:(backTo Y (SY es X.env)).any (·.1)=Sq:=by rfl):
  PE X (.Call (.Attribute o name Z) (e::es) [] Y) (PL X.K T r to t):=by
 intro f s i H Q I h;refine wpAny_Call_method_late M l m rfl (cz (G f s i H _ I h) fun v A ⟨x,P,u,p,ty,E⟩=> ?_);obtain⟨L,J⟩:=Eg u p ty;refine⟨T,U,pa,g,j,L,J,?_⟩;have q:=ha Y f A i P _ u E;rw[F] at q⊢;refine Calls.callWith_builtin (by show(Sq||(backTo Y (SY es X.env)).any (·.1))=Sq;rw[n]<;>rfl) (Calls.evalArgs_plain ?_);exact cz q fun w y ⟨vs,O,N,B,C⟩=>hm f y i O x vs v w Q N p B C
end
def RH (X:Cx) (f:String) (r:V->List V->Hp->VK->Prop):Prop:=
 ∀(a:List (So×Obj)) (s:Sr) (b:St) (H:Hp) (x:V) (xs:List V) (v:Sh) (e:List Sh) (Q:VK),Inv X a b H s->RelV x v->Vals xs e->r x xs H Q->
  wpAny (model X.prog X.w) X.A (call (.builtin f) (v::e)) (EP X a b Q) X.xe s
theorem Vals.one:∀{x:V} {us:List Sh},Vals [x] us->∃u,us=[u]/\RelV x u
 |_,_,.cons r .nil=>⟨_,rfl,r⟩
theorem Vals.rep (h:Vals xs us):∀k:Nat,Vals (Sz k xs).flatten (Sz k us).flatten
 |0=> .nil
 |k+1=>by rw[TK,TK,UU,UU];exact Vals.append h (Vals.rep h k)
theorem nZ (b:List Sh):∀(k:Nat) (a:List Sh),
  Xo (fun x1 x2=>x1++x2) a.toArray (Sz k b.toArray)=(a++(Sz k b).flatten).toArray
 |0,a=>by simp
 |k+1,a=>by
  have e:a.toArray++b.toArray=(a++b).toArray:=by simp
  have f:(a++b)++(Sz k b).flatten=a++(Sz (k+1) b).flatten:=by rw[TK,UU,Tw]
  rw[<-f,<-nZ b k (a++b),<-e,TK,Xt]
section
variable {X:Cx} {Z:List (So×Obj)} {Y:St} {H:Hp} {s:Sr} {l b:So} {xs ys zs:List V}
theorem Inv.afY {g a:List Sh} (I:Inv X Z Y H s) (o:H l=lD (.lst xs))
  (e:s.heap.get? l=lD {cls:= .type "list",data:= .seq g.toArray n}) (j:f g.toArray=a.toArray) (h:Vals ys a) (hz:ys.length<=SD):
  Inv X Z Y (bx H l (.lst ys)) {s with heap:=s.heap.update l (Obj.mapSeq f),toks:=t'}:=by
 have q:=aky e f;rw[j] at q;refine I.write (by rw[o];exact trivial) (.inl rfl) (fun p u m i=>(Heap.get?_update_other s.heap (Obj.mapSeq f) (Ne.symm m)).trans i) ⟨_,q⟩ ?_;exact⟨hz,a,_,h,q⟩
theorem Inv.afS (I:Inv X Z Y H s) (a:Vals ys Tt) (hz:ys.length<=SD):
  Inv X Z Y (bx H s.heap.objs.size (.lst ys)) {s with heap:=s.heap.push {cls:= .type "list",data:= .seq Tt.toArray},toks:=t'}:=
 I.laid (fun _ _ q=>Heap.get?_push_of_some _ q) (Sw _) ⟨hz,Tt,0,a,Heap.get?_push_size _ rfl⟩
theorem Inv.fresh (I:Inv X Z Y H s):H s.heap.objs.size=Sg:=I.T9.fresh (Sw _)
theorem Inv.adf (I:Inv X Z Y H s) (f:H l=lD (.lst xs)):xs.length<=SD/\∃(a:List Sh) (n:Nat),Vals xs a/\xs.length=a.length/\s.heap.get? l=lD {cls:= .type "list",data:= .seq a.toArray n}:=by obtain⟨z,a,n,r,e⟩:=I.T9 l _ f;exact⟨z,a,n,r,r.length,e⟩
theorem xm (h:n<=SD):Builtin.List.listTooLong n=Sq:=by unfold Builtin.List.listTooLong;exact decide_eq_false (by omega)
end
section
variable {X:Cx}
def wA:V->List V->Hp->VK->Prop:=fun x vs H Q=>∃l xs y,x= .ref l/\vs=[y]/\H l=lD (.lst xs)/\xs.length<SD/\Q .UT (bx H l (.lst (xs++[y])))
theorem g9:RH X "list.append" wA:=by intro a s j H x vs v m Q I f rv h;obtain⟨l,xs,y,rfl,rfl,b,o,q⟩:=h;cases f;obtain⟨u,rfl,g⟩:=rv.one;obtain⟨z,i,n,r,p,e⟩:=I.adf b;refine Wt F.slot_list_append ⟨_,e,rfl⟩ F.entry_list_append (F.args_list_append_2 _ _) (PySem.list_append l i.toArray n u (by rw[SE];omega)) ⟨e,?_⟩;refine⟨.UT,_,I.afY b e (by simp) (r.append (.cons g .nil)) ?_,rfl,q⟩;rw[Su,Wb];omega
def C3:V->List V->Hp->VK->Prop:=fun x vs H Q=>∃l b xs zs,x= .ref l/\vs=[.ref b]/\H l=lD (.lst xs)/\H b=lD (.lst zs)/\xs.length+zs.length<=SD/\Q .UT (bx H l (.lst (xs++zs)))
theorem uR:RH X "list.extend" C3:=by
 intro j s C H x vs v J Q I o rv h;obtain⟨l,b,xs,E,rfl,rfl,m,A,K,q⟩:=h;cases o;obtain⟨u,rfl,p⟩:=rv.one;cases p;obtain⟨z,a,n,r,L,e⟩:=I.adf m;obtain⟨G,i,w,t,y,B⟩:=I.adf A;have f:a.toArray.size+i.toArray.size<=SD:=by rw[SE,SE];omega
 have g:¬(!a.toArray.isEmpty&&Builtin.List.listTooLong (a.toArray.size+i.toArray.size))=Si:=by rw[xm f,Bool.and_false];exact SH
 refine Wt F.slot_list_extend ⟨_,e,rfl⟩ F.entry_list_extend (F.args_list_extend_2 _ _)
  (AutoSeq1.list_extend_list_list_0 l a.toArray n b i.toArray w g (by rw[SE];omega) (by omega)) ⟨e,B,?_⟩
 refine⟨.UT,_,I.afY m e (by simp) (r.append t) ?_,rfl,q⟩;rw[Su];omega
theorem A0 (xs:List α) (k:Nat):(Sz k xs).flatten.length=k*xs.length:=by
 induction k with
 |zero=>simp
 |succ k a=>rw[TK,UU,Su,a,ae7,aaL]
end
section
variable {prog:S0} {w:Tn} {A:Tc} {E:Sh->Sr->Prop} {s:Sr}
set_option maxRecDepth 100000 in
end
end L2
namespace Att
open PySem PySem.W PySem.Calls PyProof.Rows
theorem pG:∀(e:List Int) (vs:List Sh),WellAll P h vs (e.map WData.int)->IntsAre vs e:=by
 intro e
 induction e with
 |nil=>intro vs w;rw[Wz] at w;cases w;exact .nil
 |cons n e f=>
  intro vs w;rw[SN] at w;cases w with
  |cons a b=>cases a;exact .cons _ _ (f _ b)
theorem Dj {l:OpenLaw} (hn:l.most=lD n)
  (e:l.row.toRowW.claim.pre args=Si) (i:WellAll P h vals args):
  ∃a vs ns,vals=[Sh.ref a]/\args=[WData.list (ns.map WData.int)]/\h.get? a=lD {cls:= .type "list",data:= .seq vs.toArray}/\IntsAre vs ns/\ns.length<=n:=by
 have j:=(pre_splitW e).1;have o:l.pre.holds [] {args:=args}=Si:=(pre_splitW e).2;obtain⟨d,r,rfl,A,y⟩:=hasAllW_cons j;obtain rfl:=hasAllW_nil y;obtain⟨xs,rfl,w⟩:=hasW_list A;obtain⟨ns,rfl⟩:=items_int w;have b:ns.length<=n:=by
  unfold OpenLaw.pre at o;have g:(WTm.not (.lt (.lit (.int (n:Int))) (.len (.arg 0)))).holds [] {args:=[.list (ns.map .int)]}=Si:=by have g:=(holds_andW o).1;rw[hn] at g;exact g
  have f:=condW_of g (w_not (w_lt w_lit (w_len_list (w_arg rfl))));rw[Sj] at f;refine Nat.le_of_not_lt fun q=> ?_;have u:(n:Int)<((ns.length:Nat):Int):=by omega
  first
   |(rw[decide_eq_true u] at f;exact absurd f (by decide))
   |(simp at f;omega)
 cases i with
 |cons t p=>
  cases p;cases t with
  |list v m=>exact⟨_,_,ns,rfl,rfl,v,pG ns _ m,b⟩
theorem Dw (l:OpenLaw) (args:List WData):l.row.toRowW.claim.post args (.bool Si) args=Si:=
 postW_of
  (show WShape.has [] (.bool Si) .bool=Si by first|rfl|decide|simp[WShape.has,WShape.arms,WShape.armsAll])
  (show(WTm.eq .res (.lit (.bool Si))).value [] {args:=args,res:=lD (.bool Si),after:=args}=lD (.bool (Si==Si)) from w_eq_bool (w_res rfl) w_lit) rfl
theorem attach_call {l:OpenLaw} {n:Nat} {q:S0} {e:List Str} {J:(Str->Option Sh)->Heap->Prop} {I:Tn->Heap->Prop} {d:DefRec}
  (hn:l.most=lD n) (y:d.params.defaults=[])
  (call:∀(w:Tn) (s₀ b:Sr) (mg t:Str->Option Sh) (fa:So) (o:Obj) (p m h:Sh) (a:So) (vs:List Sh) (j:List Int),
   Ground q e [] J w s₀ mg t b.heap->I w b.heap->
   b.heap.get? fa=lD o->o.data= .func (docDef d.name d.params d.body d.scope p m h)->b.heap.CodeRec m d.name->mg d.name=lD (.ref fa)->
   b.heap.get? a=lD {cls:= .type "list",data:= .seq vs.toArray}->IntsAre vs j->j.length<=n->b.gens= #[]->
   codeAny (model l.prog w) callerA (.call (.ref fa) ⟨[.ref a],[]⟩) (fun r s'=>r= .ok (.ret (.bool Si))/\OldK b.heap s'.heap/\s'.os=b.os/\AllBare s'.gens) b):
  WalkO q e J I l.row.toRowW d [] (fun f vs=>ae8 f vs):=by
 intro w s₀ b mg t G Y fa o p m h dV kV M P A F v O H E U C T K u N;obtain rfl:dV= .none:=Dflts.none F y;obtain rfl:kV= .none:=Dflts.noKw F;obtain⟨a,vs,j,rfl,rfl,B,g,i⟩:=Dj hn C u;refine enter_call (WU (call w s₀ b mg t fa o p m h a vs j G Y M (fd_plain P) A v B g i O) fun r s' L=> ?_);obtain⟨rfl,S,R,Q⟩:=L;exact⟨.inl ⟨.bool Si,.bool Si,[],rfl,fun _=>rfl,.bool Si,Dw l _,fun _=>⟨Xu,fun _ hm=>(nomatch hm)⟩⟩,S,R,Q⟩
end Att
namespace L2
open PySem PySem.Spec PyProof.Rows
theorem jq:∀{vs:List Sh} {a:List Int},IntsAre vs a->Vals (a.map V.int) vs
 |_,_,.nil=> .nil
 |_,_,.cons n t h=> .cons ⟨t,rfl⟩ (jq h)
def PH (H:Hp):Prop:=∀b,H b=Sg\/∃o xs,H b=lD (.frz o (.lst xs))
theorem EF {P:S0} {w:Tn} {K:Ld} {mg I:Str->Option Sh} {CX:wg} {k:Nat} {fa a:So} {fd:TL} {x:Str} {sp:Sp} {f:Sr} {vs:List Sh} {p:List Int}
  (Z:K.In f.heap) (t:f.heap.Ns SK mg) (g:f.heap.Ns builtinsNs I) (L:∀x:Str,x≠ "__name__"->I x=T1 x) (R:f.heap.NoLimit) (hg:f.gens= #[])
  (ha:f.heap.get? a=lD {cls:= .type "list",data:= .seq vs.toArray}) (hi:IntsAre vs p) (T:p.length<=SD) (hr:UP k callerA)
  (F:∀base:Heap,K.In base->base.Ns SK mg->FnOk P w K mg base CX k fa fd [x] sp) (S:∀(s:Sr) (u:Sh),X5 s fd ⟨[u],[]⟩ [(x,u)])
  (J:∀H:Hp,PH H->Xa K H a (p.map V.int)->sp [.ref a] H (fun v _=>v= .bl Si) fun _ _ _=>False)
  (M:∀H e s',CX [] H f (fun _ _ _=>False) e s'->False):
  codeAny (model P w) callerA (.call (.ref fa) ⟨[.ref a],[]⟩) (fun r s'=>r= .ok (.ret (.bool Si))/\OldK f.heap s'.heap/\s'.os=f.os/\AllBare s'.gens) f:=by
 have rv:=jq hi;have Q:=hi.length
 have j:∀H:Hp,PH H->Xa K H a (p.map V.int)->XQ P w H f.heap->(∀b,H b≠Sg->b=a)->(H a≠Sg->K.lookup a=Sg)->
   codeAny (model P w) callerA (.call (.ref fa) ⟨[.ref a],[]⟩) (fun r s'=>r= .ok (.ret (.bool Si))/\OldK f.heap s'.heap/\s'.os=f.os/\AllBare s'.gens) f:=by
  intro H U hS T9 X hK;have E:∀{b:So} {o:Obj},f.heap.get? b=lD o->H b=Sg->(uZ f.heap H).get? b=lD o:=fun e n=>EX e n;have G:∀{b:So} {o:Obj} {A:Array V5} {B:Nat},f.heap.get? b=lD o->o.data= .dict A B->H b=Sg:=fun{b o A B} e d=>by
   cases q:H b with
   |none=>rfl
   |some u=>have N:b=a:=X b (by rw[q];simp);subst N;rw[ha] at e;cases e;have d':Data.seq vs.toArray _=Data.dict A B:=d;cases d'
  have i:∀{b:So} {m:Str->Option Sh},f.heap.Ns b m->(uZ f.heap H).Ns b m:=fun{b m} ⟨o,A,B,e,d,r⟩=>⟨o,A,B,E e (G e d),d,r⟩;have y:K.In (uZ f.heap H):=fun b o e=>E (Z b o e) (by
   cases q:H b with
   |none=>rfl
   |some u=>have N:b=a:=X b (by rw[q];simp);subst N;rw[hK (by rw[q];simp)] at e;cases e)
  have hM:Mod K mg (uZ f.heap H):=⟨y,i t,⟨I,i g,L⟩,let⟨mc,h1,h2⟩:=R;⟨mc,i h1,h2⟩⟩;have e0:Env0 P w K mg (uZ f.heap H) callerA [] f H:=⟨rfl,hM,fun b o e=>JV e,ae5 (Dx _ _),trivial,fun b g=>absurd (show b∈([]:List So) from g) (by simp),T9,.of_eq hg⟩;refine WU ((F _ y (i t)).run callerA [] f H ⟨[.ref a],[]⟩ [.ref a] [.ref a] _ _ hr e0 (S f (.ref a)) (.cons rfl .nil) (J H U hS)) fun r s' h=> ?_;cases r with
  |error e=>exact(M H e s' h).elim
  |ok fl=>
   cases fl with
   |next=>exact False.elim h
   |brk=>exact False.elim h
   |cont=>exact False.elim h
   |ret u=>
    obtain⟨v,H',os,C,un,O,r',q⟩:=h;have q':v= .bl Si:=q;subst q';obtain rfl:u=Sh.bool Si:=r';refine⟨rfl,OldK.of_keep fun b o e=> ?_,os,C⟩;cases q:H b with
    |none=>exact un.keep b o e q (by intro z;exact absurd (show b∈([]:List So) from z) (by simp)) (by simp)
    |some u=>
     rcases U b with z|⟨ob,xs,z⟩
     .rw[q] at z;cases z
     .have z2:=un.Yu b ob _ z;obtain⟨Y,_⟩:=T9 b _ z;obtain⟨e2,_⟩:=O b _ z2;rw[e] at Y;cases Y;exact e2
 cases hk:K.lookup a with
 |some o=>have e:=Z a o hk;rw[ha] at e;cases e;refine j (fun _=>Sg) (fun _=> .inl rfl) (.inr ⟨_,vs.toArray,_,hk,rfl,rfl,rfl,by rw[SE,Q];exact T,by simpa using rv⟩) (fun b u z=>by have l:(Sg:Option HO)=lD u:=z;cases l) (fun b z=>absurd rfl z) fun z=>absurd rfl z
 |none=>
  refine j (fun b=>if b=a then lD (.frz {cls:= .type "list",data:= .seq vs.toArray} (.lst (p.map V.int))) else Sg) (fun b=> ?_) (.inl (.inr ⟨{cls:= .type "list",data:= .seq vs.toArray},if_pos rfl⟩)) (fun b u z=> ?_) (fun b z=> ?_) fun _=>hk
  .by_cases g:b=a
   .exact .inr ⟨_,_,if_pos g⟩
   .exact .inl (if_neg g)
  .by_cases g:b=a
   .have l:=(if_pos g).symm.trans z;cases l;subst g;exact⟨ha,by rw[Sj];exact T,vs,_,rv,ha⟩
   .have l:=(if_neg g).symm.trans z;cases l
  .by_cases g:b=a
   .exact g
   .exact absurd (if_neg g) z
def aW (s:UL) (j:Nat):UL:=match s with
 | .ClassDef _ _ _ body _ _ _ _ _ _ _=>body.getD j (.Pass ⟨0,0,0,0⟩)
 |_=> .Pass ⟨0,0,0,0⟩
def fG (s:UL):Arguments:=match s with
 | .FunctionDef _ a _ _ _ _ _ _ _ _=>a
 |_=>{posonlyargs:=[],args:=[],vararg:=Sg,kwonlyargs:=[],kw_defaults:=[],kwarg:=Sg,defaults:=[]}
def cg (s:UL):List UL:=match s with
 | .FunctionDef _ _ b _ _ _ _ _ _ _=>b
 |_=>[]
def az (s:UL):Wf:=match s with
 | .FunctionDef _ _ _ _ _ _ sc _ _ _=>sc
 |_=>{kind:= .function,names:=[],isGenerator:=Sq,isCoroutine:=Sq}
abbrev dG:wg:=fun _ _ _ _ _ _=>False
abbrev E0:XK:=fun _ _ _=>False
theorem Bc:gc dG X E0:=fun _ _ _ _ _ _ _ h=>h.elim
structure VT (K:Ld) (x qual:Str) (st:UL) (f:So) (fd:TL):Prop where
 ex:∃(oc:Sh) (od:Option So) (kV doc pm:Sh) (an:Option So) (Ug ct:Sh) (osl:Array (Option Sh)),
  fd=Ui x qual (fG st) (cg st) (az st) .none kV doc pm an Ug ct/\K.lookup f=lD ⟨oc,od,.func fd,osl⟩/\Ws K Ug qual=Si
 kp:Uq K (.ref f)=Si
section
variable {P:S0} {w:Tn} {K:Ld} {mg:Str->Option Sh} {base:Heap}
theorem VT.ok {x a:Str} {st:UL} {f:So} {fd:TL} {N ps:List Str} {k:Nat} {sp:Sp} (F:VT K x a st f fd) (S:Vc N ps (az st)) (len:∀vs H Q E,sp vs H Q E->vs.length=ps.length)
  (n:∀(b:Sh) (A:Tc) (outer:List Env) (s:Sr) (H:Hp) (vs:List V) (Q:VK) (E:XK),UP k (A.deeper (envOfC a (az st) s.heap.objs.size f b))->sp vs H Q E->
   ∃t,YM (gb dG P w K mg base N a (az st) f b A outer s H E).nox (cg st) t/\t {nx:=fun _ H'=>Q .UT H',rt:=Q} (start N vs) H):FnOk P w K mg base dG (k+1) f fd ps sp:=by
 obtain⟨r,p,kV,m,o,u,b,ct,i,rfl,j,g⟩:=F.ex;refine FV j g S len fun A outer s H vs Q E l e=> ?_;obtain⟨t,h,q⟩:=n b A outer s H vs Q E l e;exact⟨t,h.nox,q⟩
theorem VT.binds {x a:Str} {st:UL} {f:So} {fd:TL} {ps:List Str} (F:VT K x a st f fd)
  (h:∀(kV b e:Sh) (g:Option So) (i ct:Sh) (us:List Sh),us.length=ps.length->bindArgs (Ui x a (fG st) (cg st) (az st) .none kV b e g i ct) ⟨us,[]⟩=pure (ps.zip us)):Binds K fd ps []:=by
 obtain⟨n,m,kV,b,e,g,i,ct,j,rfl,o,l⟩:=F.ex;exact .all (h kV b e g i ct)
theorem FW {st:UL} {kV a e b ct:Sh} (l:K.lookup f=lD ⟨oc,od,.func (Ui x qual (fG st) (cg st) (az st) .none kV a e an b ct),osl⟩)
  (c:Ws K b qual=Si) (k:Uq K (.ref f)=Si):VT K x qual st f (Ui x qual (fG st) (cg st) (az st) .none kV a e an b ct):=⟨⟨oc,od,kV,a,e,an,b,ct,osl,rfl,l,c⟩,k⟩
end
theorem CV (a:UP k A):A.units+1<cLine:=abY (Nat.add_le_add_left (by decide:1<=64) _) a.units
section
variable {X:Cx}
theorem pv (i:Nat) (e:X.N[i]? =lD x:=by rfl) (b:QT X.env.scope x:=by first|exact Or.inl rfl|exact Or.inr (Or.inl rfl)|exact Or.inr (Or.inr rfl)) (hd:(x==("__debug__":Str))=Sq:=by decide)
  (a:(x==("__classdict__":Str))=Sq:=by decide):PE X (.Name x pos) (yr i):=NZ e b hd a
end
def Uw (H H':Hp):Prop:=∀b o,H b=lD o->H' b=lD o
theorem Uw.refl (H:Hp):Uw H H:=fun _ _ h=>h
theorem Uw.trans (a:Uw H H1) (b:Uw H1 H2):Uw H H2:=fun c o h=>b c o (a c o h)
theorem Uw.free (e:Uw H H') (h:H' l=Sg):H l=Sg:=by
 cases q:H l with
 |none=>rfl
 |some o=>rw[e l o q] at h;cases h
end L2
set_option maxHeartbeats 4000000
namespace L2
open PySem PySem.Spec PyProof.Rows
section
variable {X:Cx} {Z:List (So×Obj)} {σ:St} {H:Hp} {s:Sr} {h':Heap}
theorem Inv.aaX {ch:List So} (I:Inv X Z σ H s) (i:∀b∈ch,mZ X Z H b)
  (k:∀b u,b∉ch->s.heap.get? b=lD u->h'.get? b=lD u) (l:s.heap.objs.size<=p)
  (new:ObjOk X.prog X.w (bx H p o) h' p o):Inv X Z σ (bx H p o) {s with heap:=h',toks:=t'}:=by
 have hn:=I.T9.fresh l;have f:∀b u,H b=lD u->b∉ch:=fun b u e z=>by rw[(i b z).1] at e;cases e
 have h:∀b u,s.heap.get? b=lD u->b≠p:=fun b u e=>S1 (SX (Heap.lt_size e) l);refine I.step (fun b g=> ?_) (fun b u _ _ a e _=>k b u a e) (fun b u _ _ a e _=>⟨u.slots,k b u a e⟩)
  (fun b u _ e n=>by rw[ay (h b u e)];exact n) (fun b u a e=>⟨u,k b u a e⟩) (fun b xs e=>by rw[ay (bZ e hn)];exact e)
  (fun b u xs e=>by rw[ay (bZ e hn)];exact e) (fun b ps e=>⟨#[],by rw[ay (bZ e hn),e];simp⟩) (fun m hm=> ?_) (fun b u e=> ?_) I.bare
 .obtain⟨_,C,_,B,A,y⟩:=i b g;exact⟨B,C,A,y⟩
 .obtain⟨j,E,F,t,r⟩:=hm;exact⟨j,E,F,k _ j (fun z=>(i _ z).2.1 rfl) t,r⟩
 .by_cases g:b=p
  .subst g;rw[aG] at e;cases e;exact new
  .rw[ay g] at e
   refine(I.T9 b u e).Xb (fun c v a q=>k c v ?_ q) (fun c q=>by rw[ay (bZ q hn)];exact q) fun c xs q=>by rw[ay (bZ q hn)];exact q
   rcases a with z|z
   .rw[z];exact f b u e
   .exact f c _ z
end
mutual
inductive DV (K:Ld) (H:Hp):V->Sk->Prop
 |UT:DV K H .UT .none
 |bl (b:Bool):DV K H (.bl b) (.bool b)
 |int (i:Int):DV K H (.int i) (.int i)
 |str (x:Str):DV K H (.str x) (.str x)
 |tup {a:So} {xs:List V} {ds:List Sk}:WZ K H a xs->Ur K H xs ds->DV K H (.ref a) (.tuple ds)
 |lst {a:So} {xs:List V} {ds:List Sk}:Xa K H a xs->Ur K H xs ds->DV K H (.ref a) (.list ds)
inductive Ur (K:Ld) (H:Hp):List V->List Sk->Prop
 |nil:Ur K H [] []
 |cons {v:V} {vs:List V} {d:Sk} {ds:List Sk}:DV K H v d->Ur K H vs ds->Ur K H (v::vs) (d::ds)
end
section
variable {X:Cx} {Z:List (So×Obj)} {σ:St} {H:Hp} {s:Sr}
mutual
theorem DV.reads (I:Inv X Z σ H s):∀{v:V} {d:Sk} {u:Sh},DV X.K H v d->RelV v u->∃as,acU s.heap u d as
 |_,_,_,.UT,r=>by cases r;exact⟨_,.none⟩
 |_,_,_,.bl b,r=>by cases r;exact⟨_,.bool b⟩
 |_,_,_,.int i,r=>by obtain⟨t,rfl⟩:=r;exact⟨_,.int i t⟩
 |_,_,_,.str x,r=>by obtain⟨t,rfl⟩:=r;exact⟨_,.str x t⟩
 |_,_,_,.tup h hs,r=>by cases r;obtain⟨a,rv,⟨o,e,c,n,d⟩,_⟩:=I.tuple h;obtain⟨as,q⟩:=Ur.reads I hs rv;exact⟨_,.tuple e c d (by simpa using q)⟩
 |_,_,_,.lst h hs,r=>by cases r;obtain⟨a,rv,⟨o,n,e,c,_,d⟩,_⟩:=I.list h;obtain⟨as,q⟩:=Ur.reads I hs rv;exact⟨_,.list e c d (by simpa using q)⟩
theorem Ur.reads (I:Inv X Z σ H s):∀{vs:List V} {ds:List Sk} {us:List Sh},Ur X.K H vs ds->Vals vs us->∃as,aaM s.heap us ds as
 |_,_,_,.nil,r=>by cases r;exact⟨_,.nil⟩
 |_,_,_,.cons h hs,r=>by
  cases r with
  |cons b a=>obtain⟨as,q⟩:=DV.reads I h b;obtain⟨bs,e⟩:=Ur.reads I hs a;exact⟨_,.cons q e⟩
end
end
def IU (K:Ld) (neg:Bool):R2:=fun x y H Q=>∃dx dy,DV K H x dx/\DV K H y dy/\dx.canLay0=Si/\dy.canLay0=Si/\dx.depth<=64/\Q (.bl (if neg then !Sk.eqv dx dy else Sk.eqv dx dy)) H
section
variable {X:Cx}
theorem jC (o:X.A.units+64<cLine):OpR X (Up .Eq) (IU X.K Sq):=by intro a s n H x y v u Q I e b h;obtain⟨dx,r,m,l,j,i,p,q⟩:=h;obtain⟨t,g⟩:=m.reads I e;obtain⟨bs,f⟩:=l.reads I b;exact ahk g f j i (by omega) ⟨.bl _,H,I,rfl,q⟩
theorem N4 (o:X.A.units+64<cLine):OpR X (Up .NotEq) (IU X.K Si):=by intro a s n H x y v u Q I e b h;obtain⟨dx,r,m,l,j,i,p,q⟩:=h;obtain⟨t,g⟩:=m.reads I e;obtain⟨bs,f⟩:=l.reads I b;exact ahl g f j i (by omega) ⟨.bl _,H,I,rfl,q⟩
theorem HL:OpR X (Vj .FloorDiv) (rI (fun _ j=>0<j/\j.natAbs.log2<9000) fun i j=> .int (i/j)):=Rg fun i j _ _ _ _ _ a q=>by have b:(0:Int)<j:=a.1;exact floordiv_int (by omega) (by rw[Int.fdiv_eq_ediv_of_nonneg i (by omega)];exact q) (.inl (PyProof.noPylong_of_log2 a.2))
end
def iz (env:Env):List (Str×Tf)->List (Str×So)->List (Str×So)
 |[],acc=>acc
 |(n,k)::r,acc=>if(k==Tf.free)=Si then(match env.cells.lookup n with|some c=>iz env r ((n,c)::acc)|none=>iz env r acc) else iz env r acc
theorem lX {f:Str×Tf->List (Str×So)->Sem (ForInStep (List (Str×So)))}
  (i:∀n k a,(k==Tf.free)=Sq->f (n,k) a=pure (.yield a)) (g:∀n c a,env.cells.lookup n=lD c->f (n,.free) a=pure (.yield ((n,c)::a))):
  ∀(names:List (Str×Tf)) (a:List (Str×So)),(∀y∈names,y.2= .free->∃c,env.cells.lookup y.1=lD c)->forIn names a f=pure (iz env names a)
 |[],a,_=>rfl
 |(n,k)::r,a,h=>by
  have j:=fun y m=>h y (Sy _ m);rw[Xv];cases hk:(k==Tf.free) with
  |false=>rw[i n k a hk,pure_bind];show forIn r a f=_;rw[lX i g r a j];simp only[iz,hk,U8,if_false]
  |true=>
   have e:k= .free:=by simpa using hk
   subst e;obtain⟨c,l⟩:=h _ Sv rfl;rw[g n c a l,pure_bind];show forIn r ((n,c)::a) f=_;rw[lX i g r _ j];have b:=l;simp only[iz,hk,if_true,b]
theorem qQ (h:∀y∈scope.names,y.2= .free->∃c,env.cells.lookup y.1=lD c):closureFor scope env=pure (iz env scope.names []):=by simp only[closureFor];rw[lX (fun n k a b=>by simp only[b,U8,if_false]) (fun n c a e=>by simp only[beq_self_eq_true,if_true,cellOf,e,pure_bind]) scope.names [] h,pure_bind]
theorem ku:∀(names:List (Str×Tf)) (a:List (Str×So)),(∀x c,a.lookup x=lD c->env.cells.lookup x=lD c)->∀x c,(iz env names a).lookup x=lD c->env.cells.lookup x=lD c
 |[],_,h,x,c,e=>h x c e
 |(n,k)::r,a,h,x,c,e=>by
  unfold iz at e;split at e
  .split at e
   .rename_i g b
    refine ku r _ (fun y d q=> ?_) x c e;rw[SR] at q;split at q
    .rename_i f;cases q;rw[eq_of_beq f];exact b
    .exact h y d q
   .exact ku r a h x c e
  .exact ku r a h x c e
theorem lf:∀(names:List (Str×Tf)) (a:List (Str×So)) (x:Str),(a.lookup x).isSome=Si->((iz env names a).lookup x).isSome=Si
 |[],_,_,h=>h
 |(n,k)::r,a,x,h=>by
  unfold iz;split
  .split
   .refine lf r _ x ?_
    rw[SR];split
    .rfl
    .exact h
   .exact lf r a x h
  .exact lf r a x h
theorem mB:∀(names:List (Str×Tf)) (a:List (Str×So)) (x:Str) (c:So),(x,Tf.free)∈names->env.cells.lookup x=lD c->((iz env names a).lookup x).isSome=Si
 |[],_,_,_,h,_=>by cases h
 |(n,k)::r,a,x,c,h,hc=>by
  rcases SS.mp h with z|h
  .cases z;simp only[iz,beq_self_eq_true,if_true,hc];exact lf r _ _ (by simp[SR])
  .unfold iz
   split
   .split
    .exact mB r _ x c h hc
    .exact mB r a x c h hc
   .exact mB r a x c h hc
theorem yQ (h:(x,Tf.free)∈names) (a:env.cells.lookup x=lD c):(iz env names []).lookup x=lD c:=by
 have q:=mB names [] x c h a;cases e:(iz env names []).lookup x with
 |none=>rw[e] at q;cases q
 |some d=>have z:=ku names [] (fun y d q=>by cases q) x d e;rw[a] at z;exact z.symm
theorem yX {env:Env} {a:Wf} {x:Str} {k:Tf} (h:(relabel a env).names.lookup x=lD k):∃k0,(x,k0)∈a.names/\(k=k0\/(k0= .free/\k= .cell)):=by
 obtain⟨⟨n,k0⟩,hm,e⟩:=Ta.mp (Ux h);simp only at e;split at e
 .rename_i b
  cases e;have f:(k0==Tf.free)=Si:=by rw[S2,S2] at b;exact b.1.1
  exact⟨k0,hm,.inr ⟨by simpa using f,rfl⟩⟩
 .cases e;exact⟨_,hm,.inl rfl⟩
theorem jA {env:Env}:∀{names:List (Str×Tf)} {x:Str},names.lookup x=lD .free->
  (names.map fun(n,k)=>if(k==Tf.free&&env.scope.kind== .function&&env.kindOf n==lD .cell) then(n,Tf.cell) else(n,k)).lookup x=lD .cell\/
  (names.map fun(n,k)=>if(k==Tf.free&&env.scope.kind== .function&&env.kindOf n==lD .cell) then(n,Tf.cell) else(n,k)).lookup x=lD .free
 |[],_,h=>by cases h
 |(n,k)::r,x,h=>by
  rw[SR] at h;rw[SN];dsimp only;by_cases a:(k==Tf.free&&env.scope.kind== .function&&env.kindOf n==lD .cell)=Si
  .rw[if_pos a,SR]
   cases hx:x==n with
   |true=>exact .inl rfl
   |false=>rw[hx] at h;exact jA h
  .rw[if_neg a,SR]
   cases hx:x==n with
   |true=>rw[hx] at h;exact .inr h
   |false=>rw[hx] at h;exact jA h
def fX (own:List Str) (a:List (Str×Nat)):List Str:=own++a.map (·.1)
def iR (own:List Str) (b:List (Str×Nat)) (a:St):St:=own.map (fun _=>Sg)++b.map fun p=>(a[p.2]?).join
def abe (X:Cx) (a:Wf):List (Str×Nat)->Prop
 |[]=>True
 |p::r=>(X.N[p.2]? =lD p.1/\a.names.lookup p.1=lD .free/\(X.env.scope.names.lookup p.1=lD .cell\/X.env.scope.names.lookup p.1=lD .free))/\abe X a r
theorem abe.mem:∀{a:List (Str×Nat)},abe X scope a->∀p∈a,X.N[p.2]? =lD p.1/\scope.names.lookup p.1=lD .free/\(X.env.scope.names.lookup p.1=lD .cell\/X.env.scope.names.lookup p.1=lD .free)
 |[],_,p,hp=>by cases hp
 |q::r,h,p,hp=>by
  rcases SS.mp hp with z|hp
  .rw[z];exact h.1
  .exact h.2.mem p hp
def vE (X:Cx) (a:Wf) (C:So):List (Str×So):=UH (C+1) a.names (iz X.env a.names [])
theorem sk:∀(names:List (Str×Tf)) (n:Nat) (b:List (Str×So)) (x:Str) (c:So),(UH n names b).lookup x=lD c->(n<=c/\(x,Tf.cell)∈names)\/b.lookup x=lD c
 |[],_,_,_,_,h=> .inr h
 |(y,k)::r,n,b,x,c,h=>by
  unfold UH at h;by_cases f:(k==Tf.cell)=Si
  .rw[if_pos f] at h
   have e:k= .cell:=by simpa using f
   rcases sk r _ _ x c h with⟨a,g⟩|a
   .exact .inl ⟨W2 a,Sy _ g⟩
   .rw[SR] at a
    split at a
    .rename_i i;cases a;exact .inl ⟨Sw _,by rw[eq_of_beq i,e];exact Sv⟩
    .exact .inr a
  .rw[if_neg f] at h
   rcases sk r _ _ x c h with⟨a,g⟩|a
   .exact .inl ⟨a,Sy _ g⟩
   .exact .inr a
theorem Ex:∀(names:List (Str×Tf)) (n:Nat) (a:List (Str×So)) (x:Str),(x,Tf.cell)∉names->(UH n names a).lookup x=a.lookup x
 |[],_,_,_,_=>rfl
 |(y,k)::r,n,a,x,h=>by
  have f:=fun z=>h (Sy _ z);unfold UH;by_cases b:(k==Tf.cell)=Si
  .have e:k= .cell:=by simpa using b
   rw[if_pos b,Ex r _ _ x f,SR];have g:(x==y)=Sq:=by refine beq_eq_false_iff_ne.mpr fun z=>h ?_;rw[z,e];exact Sv
   rw[g]
  .rw[if_neg b];exact Ex r _ _ x f
theorem sV:∀(names:List (Str×Tf)) (h:Heap) (b:List (Str×So)) (x:Str) (c:So),(UH h.objs.size names b).lookup x=lD c->(h.objs.size<=c/\(pushCells h names).IsCell c Sg)\/b.lookup x=lD c
 |[],_,_,_,_,e=> .inr e
 |(y,k)::r,h,b,x,c,e=>by
  unfold UH at e;unfold pushCells;by_cases f:(k==Tf.cell)=Si
  .rw[if_pos f] at e⊢
   rw[<-Heap.size_push h {cls:= .type "cell",data:= .cell Sg}] at e;rcases sV r _ _ x c e with⟨a,g⟩|a
   .rw[Heap.size_push] at a;exact .inl ⟨W2 a,g⟩
   .rw[SR] at a
    split at a
    .cases a;exact .inl ⟨Sw _,_,aaj _ _ _ _ (Heap.get?_push_size _ rfl),rfl⟩
    .exact .inr a
  .rw[if_neg f] at e⊢;exact sV r _ _ x c e
theorem z0:∀(names:List (Str×Tf)) (n:Nat) (e:List (Str×So)),(∀x c,e.lookup x=lD c->c<n)->(∀x y c,e.lookup x=lD c->e.lookup y=lD c->x=y)->∀x y c,(UH n names e).lookup x=lD c->(UH n names e).lookup y=lD c->x=y
 |[],_,_,_,h2,x,y,c,e1,e2=>h2 x y c e1 e2
 |(z,k)::r,n,e,h1,h2,x,y,c,e1,e2=>by
  unfold UH at e1 e2;by_cases h:(k==Tf.cell)=Si
  .rw[if_pos h] at e1 e2
   refine z0 r (n+1) ((z,n)::e) (fun a d q=> ?_) (fun a b d g f=> ?_) x y c e1 e2
   .rw[SR] at q
    split at q
    .cases q;exact Wg _
    .exact W3 (h1 a d q)
   .rw[SR] at g f
    split at g
    .rename_i ha
     split at f
     .rename_i i;rw[eq_of_beq ha,eq_of_beq i]
     .cases g;exact absurd (h1 b _ f) (Ul _)
    .split at f
     .cases f;exact absurd (h1 a _ g) (Ul _)
     .exact h2 a b d g f
  .rw[if_neg h] at e1 e2;exact z0 r n e h1 h2 x y c e1 e2
theorem AH:∀{names:List (Str×Tf)} {x:Str} {k a:Tf},(names.map (·.1)).Nodup->names.lookup x=lD k->(x,a)∈names->k=a
 |[],_,_,_,_,h,_=>by cases h
 |(y,j)::r,x,k,a,hn,h,hm=>by
  rw[SN,Um] at hn;rw[SR] at h;rcases SS.mp hm with e|hm'
  .cases e;rw[beq_self_eq_true] at h;exact(SM h).symm
  .cases hx:x==y with
   |true=>rw[eq_of_beq hx] at hm';exact absurd (Ta.mpr ⟨_,hm',rfl⟩) hn.1
   |false=>rw[hx] at h;exact AH hn.2 h hm'
def dW (X:Cx) (s:Sr) (H:Hp) (a:Wf) (C:So) (N:List Str) (fp:List So):Cx:=
 {X with N:=N,s₀:=s,H₀:=H,env:=compEnvC a (vE X a C) C X.env,outer:=X.stack,stack:=X.stack,ex:=fp,fn:=fun x=>((iz X.env a.names []).lookup x).isNone,pn:=[],xe:=fun _ _=>False}
section
variable {X:Cx} {Z:List (So×Obj)} {Y:St} {H:Hp} {s:Sr}
theorem uC {a:Wf} (I:Inv X Z Y H s) (e:(iz X.env a.names []).lookup x=lD c):X.env.cells.lookup x=lD c/\c<s.heap.objs.size:=by have h:=ku _ _ (fun _ _ q=>by cases q) x c e;obtain⟨v,o,z,_⟩:=I.cell x c h;exact⟨h,Heap.lt_size z⟩
theorem C5 (I:Inv X Z Y H s) (M:scope.kind= .function) (n:(scope.names.map (·.1)).Nodup)
  (v:∀y∈scope.names,y.2= .free->∃c,X.env.cells.lookup y.1=lD c) (g:s.heap.objs.size<=C) (j:∀b∈fp,mZ X Z H b) (f:∀b∈fp,b<s.heap.objs.size):(dW X s H scope C N fp).Ok where
 mod:=I.ok.mod
 kind:=M
 glob:=I.ok.glob
 blt:=I.ok.blt
 above:=g
 inj:=z0 _ _ _ (fun x c e=>W3 (SX (uC I e).2 g)) fun x y c B A=>I.ok.inj x y c (uC I B).1 (uC I A).1
 has:=fun x G=>by
  have m:∃k,(relabel scope X.env).names.lookup x=lD k/\(k= .cell\/k= .free):=by
   rcases G with z|z
   .exact⟨_,z,.inl rfl⟩
   .exact⟨_,z,.inr rfl⟩
  obtain⟨k,K,t⟩:=m;obtain⟨E,hm,u⟩:=yX K;have e:E= .free\/E= .cell:=by
   rcases u with z|⟨z,_⟩
   .subst z
    rcases t with z|z
    .exact .inr z
    .exact .inl z
   .exact .inl z
  have q:((vE X scope C).lookup x).isSome=Si:=by
   rcases e with e|e
   .subst e;obtain⟨c,L⟩:=v _ hm rfl;exact VO _ _ _ (.inr (by rw[yQ hm L];rfl))
   .subst e
    refine VO _ _ _ (.inl ?_);cases z:scope.names.lookup x with
    |none=>exact absurd hm (fun hm=>by
      have:∀{l:List (Str×Tf)},l.lookup x=Sg->(x,Tf.cell)∉l:=fun{l}=>by
       induction l with
       |nil=>exact fun _=>by simp
       |cons p r F=>
        intro h q;rw[SR] at h;rcases SS.mp q with q|q
        .rw[<-q,beq_self_eq_true] at h;cases h
        .split at h
         .cases h
         .exact F h q
      exact this z hm)
    |some O=>rw[AH n z hm]
  exact ZF.mp q
 cab:=fun x c B A=>by
  have i:((iz X.env scope.names []).lookup x).isNone=Si:=B;have w:=A;rcases sk _ _ _ x c w with⟨z,_⟩|z
  .exact Tg g (W2 z)
  .rw[z] at i;cases i
 hd:=I.ok.hd
 frames:=I.ok.frames
 stk:= .inl rfl
 exf:=fun b a=>⟨S1 (SX (f b a) g),fun x c e=>by
  rcases sk _ _ _ x c e with⟨z,_⟩|z
  .exact TY (SX (SX (f b a) g) (W2 z))
  .exact(j b a).2.2.2.2.1 x c (uC I z).1⟩
 bs:=I.bs
 bsz:=Tg I.ok.bsz I.sz
 aas:=fun b o e a=>by
  rcases(j b a).2.2.2.1 with z|z
  .exact I.ok.aas b o e z
  .exact absurd (SX (Heap.lt_size e) (Tg I.ok.bsz z)) (Ul _)
 aay:=fun b a J=>by
  rcases SS.mp (I.YH b J) with z|z
  .exact(j b a).2.1 z
  .exact(j b a).2.2.1 z
 Ya:=I.stack
 frf:=I.Y8
theorem Ft (I:Inv X Z Y H s) (WG:scope.kind= .function) (hnd:(scope.names.map (·.1)).Nodup)
  (hfr:∀y∈scope.names,y.2= .free->∃c,X.env.cells.lookup y.1=lD c) (hfv:abe X scope fv) (hD:s.heap.objs.size<=D) (hDC:D<C) (hC:s.heap.objs.size<=C) (hf:∀b∈fp,mZ X Z H b) (hfl:∀b∈fp,b<s.heap.objs.size)
  (hns:h1.Ns C m) (hoc:∀x c,(vE X scope C).lookup x=lD c->C<c->∃v,h1.IsCell c v) (hk:∀b o,s.heap.get? b=lD o->h1.get? b=lD o) (hd:∃n,h1.get? D=lD {cls:= .type "list",data:= .seq #[] n}):
  Inv (dW X s H scope C (fX own fv) fp) [] (iR own fv Y) (bx H D (.lst [])) {s with heap:=h1,toks:=t1}:=by
 have hn:=I.T9.fresh hD;obtain⟨n,hd⟩:=hd;have hCD:=TY hDC;have hcs:∀x c,(vE X scope C).lookup x=lD c->C<c\/(X.env.cells.lookup x=lD c/\c<s.heap.objs.size):=fun x c e=>by
  rcases sk _ _ _ x c e with⟨z,_⟩|z
  .exact .inl z
  .exact .inr (uC I z)
 refine⟨C5 I WG hnd hfr hC hf hfl,rfl,I.bare,Un.laid hk hD hn,⟨m,hns,fun i x v e1 e2 e3=> ?_⟩,fun x c e=> ?_,?_,fun x c e=> ?_,fun p hp=>absurd (show p∈([]:List (So×Obj)) from hp) (by simp),?_,?_⟩
 .
  have e1':(own++fv.map (·.1))[i]? =lD x:=e1;have e2':(own.map (fun _=>(Sg:Option V))++fv.map fun p=>(Y[p.2]?).join)[i]? =lD (lD v):=e2;have hi:own.length<=i:=by
   by_cases hi:i<own.length
   .rw[SG (by simpa using hi),Sx] at e2'
    cases q:own[i]? with
    |none=>rw[q] at e2';cases e2'
    |some _=>rw[q] at e2';cases e2'
   .omega
  rw[Tb hi,Sx] at e1';rw[Tb (by simpa using hi),Sx,Sj] at e2';cases q:fv[i - own.length]? with
  |none=>rw[q] at e1';cases e1'
  |some p=>
   rw[q] at e1' e2';have ex:=SM e1';subst ex;have ev:(Y[p.2]?).join=lD v:=SM e2';obtain⟨g1,g2,g3⟩:=hfv.mem p (S7 q);have ev2:Y[p.2]? =lD (lD v):=by
    cases z:Y[p.2]? with
    |none=>rw[z] at ev;cases ev
    |some y=>rw[z] at ev;exact congrArg lD ev
   obtain⟨m0,_,hl⟩:=I.loc;obtain⟨u,r,l⟩:=hl p.2 p.1 v g1 ev2 (.inr g3);refine⟨u,r,?_⟩;have l2:∃c,X.env.cells.lookup p.1=lD c/\s.heap.IsCell c (lD u):=by
    rcases l with⟨k,_⟩|⟨_,c,e,z⟩
    .have k':X.env.scope.names.lookup p.1=lD .local:=k
     rcases g3 with z|z
     .rw[z] at k';cases k'
     .rw[z] at k';cases k'
    .exact⟨c,e,z⟩
   obtain⟨c,e,o,ho,hdc⟩:=l2;refine .inr ⟨?_,c,?_,o,hk c o ho,hdc⟩
   .exact jA g2
   .show(vE X scope C).lookup p.1=lD c;unfold vE;rw[Ex _ _ _ _ fun z=>by cases AH hnd g2 z];exact yQ (Ux g2) e
 .rcases hcs x c e with z|⟨z,_⟩
  .exact hoc x c e z
  .obtain⟨v,o,ho,hdc⟩:=I.cell x c z;exact⟨v,o,hk c o ho,hdc⟩
 .show bx H D (.lst []) C=Sg;rw[ay hCD];exact I.T9.fresh hC
 .show bx H D (.lst []) c=Sg
  rcases hcs x c e with z|⟨z1,z2⟩
  .rw[ay (TY (V3 hDC z))];exact I.T9.fresh (Tg hC (Xq z))
  .rw[ay (S1 (SX z2 hD))];exact I.V1 x c z1
 .exact I.T9.laid hk hD ⟨by show 0<=SD;exact Th _,[],n,.nil,hd⟩
 .show(own.map (fun _=>(Sg:Option V))++fv.map fun p=>(Y[p.2]?).join).length=(own++fv.map (·.1)).length;simp
end
def Ef (X:Cx) (e:List TF) (t:TT):Prop:=
 ∀(a:List (So×Obj)) (s:Sr) (b:St) (H:Hp) (Q:Bool->Hp->Prop),Inv X a b H s->t b H Q->
  wpAny (model X.prog X.w) X.A (forIn e Si fun c r=>if r=Si then do let ok<-isTrue c X.env (eval c X.env);pure (ForInStep.yield ok) else pure (ForInStep.yield r)) (TP X a b Q) X.xe s
def Fp:TT:=fun _ H Q=>Q Si H
theorem eR:Ef X [] Fp:=fun _ _ _ H _ I h=>wpAny_tests_nil ⟨H,I,h⟩
theorem jd (h:PT X c tc):Ef X [c] tc:=fun a s b H Q I e=>wpAny_tests_one (h a s b H Q I e)
def HJ (J:It) (D:So) (e:St) (g:TG) (l:TT) (j:TE) (o:Hp) (Fin:Hp->Prop):Prop:=
 ∃W:Nat->Nat->St->Hp->Prop,(∃m,W 0 m e (bx o D (.lst [])))/\∀i m σ H,W i m σ H->
  (J.stop i H/\Fin H)\/(J.go i H/\∃N:St->Hp->Prop,(∀σ' H',N σ' H'->∃m',m'<m/\W (i+1) m' σ' H')/\
   ∀x H',J.yld i H x H'->g x σ H' fun a n=>l a n fun b h=>if b=Si then j a h fun y f=>∃ys,f D=lD (.lst ys)/\ys.length<SD/\N a (bx f D (.lst (ys++[y]))) else N a h)
section
variable {prog:S0} {w:Tn} {A:Tc} {s:Sr}
theorem Dm {i p f:TF} {g:List TF} {b:Wf} {l:Pos} {it j:Sh} {env:Env} {R:YD->Sr->Prop} {XE:Sh->Sr->Prop} (C:∀x s1,XE x s1->notedBy (model prog w) A env (fun e s2=>R (.error e) s2) x s1) (I:Nat->Sr->Prop)
  (turn:∀n s,I n s->wpAny (model prog w) A (pyNext it) (fun r s1=>match r with
   |none=>R (.ok .next) s1
   |some v=>wpAny (model prog w) A (letOwnedTupleGo p it v) (fun _ s2=>wpAny (model prog w) A (assign p env v) (fun _ s3=>
     wpAny (model prog w) A (forIn g Si fun c r=>if r=Si then do let ok<-isTrue c env (eval c env);pure (ForInStep.yield ok) else pure (ForInStep.yield r)) (fun ok s4=>
      if ok=Si then wpAny (model prog w) A (eval i env) (fun x s5=>
       wpAny (model prog w) A (call (.builtin "list.append") [j,x]) (fun _ s6=>∃m,m<n/\I m s6) (fun _ _=>False) s5) XE s4
      else∃m,m<n/\I m s4) (fun _ _=>False) s3) (fun _ _=>False) s2) (fun _ _=>False) s1) (fun _ _=>False) s)
  (n:Nat) (h:I n s):codeAny (model prog w) A (.compLoop (.ListComp i [⟨p,f,g,0⟩] b l) 0 it j env) R s:=by
 refine codeAny_loop rfl I (fun n s F=> ?_) n h;show wpAny _ A (Sem.onRaise (compTurn (.ListComp i [⟨p,f,g,0⟩] b l) 0 it j env) (fun x=>do noteFrame x env;theTreesLotGoes x)) _ _ s;refine wpAny_noted ?_;rw[compTurn_list]
 have o:∀{α:Type} {t:Sem α} {Q B:α->Sr->Prop} {E:Sh->Sr->Prop} {s:Sr},wpAny (model prog w) A t Q (fun _ _=>False) s->(∀a s',Q a s'->B a s')->wpAny (model prog w) A t B E s:=
  fun q u=>wpAny_mono q u fun _ _ z=>False.elim z
 refine Sf (U4 (Sf (o (turn n s F) fun r s1 q=> ?_)));cases r with
 |none=>exact Ss q
 |some v=>
  refine Sf (o q fun _ s2 u=>Sf (o u fun _ s3 J=>Sf (o J fun ok s4 y=> ?_)));cases ok with
  |false=>exact Ss ⟨rfl,y⟩
  |true=>exact Sf (Sf (wpAny_mono y (fun x s5 H=>Sf (o H fun _ s6 G=>Ss (Ss ⟨rfl,G⟩))) C))
end
section
variable {X:Cx} {Z:List (So×Obj)} {Y:St} {H:Hp} {s:Sr}
theorem vo
  (h:Q (newEnv scope s.heap.objs.size globals (UH (s.heap.objs.size+1) scope.names closure) qual Sg .none (lD env) builtinsNs) {s with heap:=pushCells (s.heap.push {cls:= .type "dict",data:= .dict #[]}) scope.names}):
  wpAny M A (newFunctionEnv scope globals closure [] qual Sg .none (lD env)) Q E s:=by
 simp only[newFunctionEnv,abf,if_true];refine Sf (wpAny_alloc ?_);refine Sf (wpAny_layCells _ (fun e a b=>by cases hkc:a==Tf.cell<;>simp[hkc]) _ _ _ _ ?_);rw[show({s with heap:=s.heap.push {cls:= .type "dict",data:= .dict #[]}}:Sr).heap.objs.size=s.heap.objs.size+1 from Heap.size_push ..];rw[ZH];exact Sf (Ss (Ss h))
theorem rq {P tg q:TF} {F:List TF} {scope:Wf} {pos:Pos} {own:List Str} {h:List (Str×Nat)} {g:TG} {tc:TT} {te:TE} {E:Sh->Sr->Prop} {it:So} {fp:List So} {tn:Nat->Heap->Prop} {J:It} {Fin:So->Hp->Prop}
  {RR:Sh->So->YD->Sr->Prop} (I:Inv X Z Y H s) (hc:X.calm=Si) (WG:scope.kind= .function) (hnd:(scope.names.map (·.1)).Nodup) (hfr:∀y∈scope.names,y.2= .free->∃c,X.env.cells.lookup y.1=lD c) (hfv:abe X scope h)
  (T:Turn X.prog X.w X.K tg J fp it tn) (st:tn 0 s.heap) (L:∀b∈fp,mZ X Z H b)
  (hg:∀C,PG (dW X s H scope C (fX own h) fp) tg g) (ht:∀C,Ef (dW X s H scope C (fX own h) fp) F tc) {W:So->Sh->Sr->Prop} (he:∀C,PE ((dW X s H scope C (fX own h) fp).XA (W C)) P te) (hEE:∀D C x s1,s.heap.objs.size<=C->W C x s1->notedBy (model X.prog X.w) X.A (compEnvC scope (vE X scope C) C X.env) (fun e s2=>RR (.ref D) C (.error e) s2) x s1)
  (hR:∀D,H D=Sg->HJ J D (iR own h Y) g tc te H (Fin D))
  (hRR:∀D C H' s',Inv X Z Y H' s'->Fin D H'->(∃m,s'.heap.Ns C m)->s.heap.objs.size<=C->H' C=Sg->RR (.ref D) C (.ok .next) s'):
  wpAny (model X.prog X.w) X.A (newList []) (fun acc s3=>wpAny (model X.prog X.w) X.A (newFunctionEnv scope X.env.globals (iz X.env scope.names []) [] X.env.qual Sg .none (lD X.env)) (fun af1 s4=>
   codeAny (model X.prog X.w) X.A (.compStart (.ListComp P [⟨tg,q,F,0⟩] scope pos) 0 (.ref it) acc {af1 with scope:=relabel scope X.env}) (RR acc af1.locals) s4) E s3) E s:=by
 refine T5 ?_;generalize hH2:s.heap.push {cls:= .type "list",dict:=Sg,data:= .seq ([]:List Sh).toArray}=h2;have hz:h2.objs.size=s.heap.objs.size+1:=by rw[<-hH2,Heap.size_push]
 refine vo (s:={s with heap:=h2}) ?_;have M:s.heap.objs.size<h2.objs.size:=by rw[hz];exact Wg _
 have hC:s.heap.objs.size<=h2.objs.size:=Xq M;generalize hH1:pushCells (h2.push {cls:= .type "dict",data:= .dict #[]}) scope.names=h1;have kp2:∀b o,h2.get? b=lD o->h1.get? b=lD o:=fun b o e=>by rw[<-hH1];exact aaj _ _ b o (Heap.get?_push_of_some _ e)
 have kp:∀b o,s.heap.get? b=lD o->h1.get? b=lD o:=fun b o e=>kp2 b o (by rw[<-hH2];exact Heap.get?_push_of_some _ e);have hns:h1.Ns h2.objs.size (fun _=>Sg):=by rw[<-hH1];exact(Heap.Ns.new h2 (.type "dict")).keeps (aaj _ _)
 have hoc:∀x c,(vE X scope h2.objs.size).lookup x=lD c->h2.objs.size<c->∃v,h1.IsCell c v:=fun x c e WT=>by
  have e':(UH (h2.push {cls:= .type "dict",data:= .dict #[]}).objs.size scope.names (iz X.env scope.names [])).lookup x=lD c:=by rw[Heap.size_push];exact e
  rcases sV _ _ _ x c e' with⟨_,z⟩|z
  .exact⟨Sg,by rw[<-hH1];exact z⟩
  .exact absurd (V3 (uC I z).2 (V3 M WT)) (Ul _)
 have hd:∃n,h1.get? s.heap.objs.size=lD {cls:= .type "list",data:= .seq #[] n}:=⟨0,kp2 _ _ (by rw[<-hH2];exact Heap.get?_push_size _ rfl)⟩;have G:∀b∈fp,b<s.heap.objs.size:=fun b f=>by obtain⟨o,e,_⟩:=T.obj 0 _ st b f;exact Heap.lt_size e
 have hn:H s.heap.objs.size=Sg:=I.T9.fresh (Sw _);obtain⟨W,⟨m0,w0⟩,turn⟩:=hR s.heap.objs.size hn;have O:∀{pl:List (So×Obj)} {H':Hp},(∀b∈fp,H' b=Sg)->(∀p∈pl,p.1∉fp)->∀b∈fp,mZ (dW X s H scope h2.objs.size (fX own h) fp) pl H' b:=fun{pl H'} hn' YT b f=>by have ok:=C5 (C:=h2.objs.size) (N:=fX own h) I WG hnd hfr hC L G;exact⟨hn' b f,(ok.exf b f).1,ok.aay b f,.inl f,(ok.exf b f).2,fun p hp=>by have hp':p∈([]:List (So×Obj))++pl:=hp;intro z;exact YT p (by simpa using hp') (by rw[z];exact f)⟩
 have l:∀s4:Sr,s4={s with heap:=h1}->
   codeAny (model X.prog X.w) X.A (.compLoop (.ListComp P [⟨tg,q,F,0⟩] scope pos) 0 (.ref it) (.ref s.heap.objs.size) (compEnvC scope (vE X scope h2.objs.size) h2.objs.size X.env)) (RR (.ref s.heap.objs.size) h2.objs.size) s4:=by
  rintro s4 rfl
  have I0:Inv (dW X s H scope h2.objs.size (fX own h) fp) [] (iR own h Y) (bx H s.heap.objs.size (.lst [])) {s with heap:=h1}:=
   Ft I WG hnd hfr hfv (Sw _) M hC L G hns hoc kp hd
  have st0:tn 0 h1:=T.keep 0 _ _ st fun b _ o e=>kp b o e;have fr0:∀b∈fp,(bx H s.heap.objs.size (.lst [])) b=Sg:=fun b f=>by rw[ay (S1 (G b f))];exact(L b f).1
  refine Dm (fun x s1 z=>hEE _ _ x s1 hC z) (fun n s'=>∃i σ' H',Inv (dW X s H scope h2.objs.size (fX own h) fp) [] σ' H' s'/\tn i s'.heap/\(∀b∈fp,H' b=Sg)/\W i n σ' H') ?_ m0 ⟨0,_,_,I0,st0,fr0,w0⟩;rintro n s5 ⟨i,j,H5,I5,st5,fr5,w5⟩;rcases turn i n j H5 w5 with⟨stop,fin⟩|⟨go,N,hN,step⟩
  .refine cz (T.done (dW X s H scope h2.objs.size (fX own h) fp) rfl rfl rfl hc i [] s5 j H5 (fun _ _=>False) I5 (O fr5 (by simp)) st5 stop) fun r s6 ⟨hr,S⟩=> ?_;subst hr;obtain⟨mm,hm,_⟩:=S.loc;refine hRR _ _ H5 s6 ?_ fin ⟨mm,hm⟩ hC S.free;exact I.acd (ch:=fp) S.os S.base S.T9 S.bare fun b f=>⟨(L b f).2.2.2.1,(L b f).2.1,(L b f).2.2.2.2.1,(L b f).2.2.2.2.2⟩
  .refine cz (T.item (dW X s H scope h2.objs.size (fX own h) fp) rfl rfl rfl hc i [] s5 j H5 (fun _ _=>False) I5 (O fr5 (by simp)) st5 go) fun r s6 ⟨u,hr,h6⟩=> ?_
   subst hr;refine cz h6 fun _ s7 ⟨x,H7,I7,r7,y7,B,fr7⟩=> ?_;have I7':=I7.pinned (fp:=fp) (O fr7 (by simp)) (T.obj _ _ B);have t:∀{a:St} {Q:Hp} {R:Sr},Inv (dW X s H scope h2.objs.size (fX own h) fp) ([]++r8 fp s7.heap) a Q R->N a Q->∃m,m<n/\∃i σ' H',Inv (dW X s H scope h2.objs.size (fX own h) fp) [] σ' H' R/\tn i R.heap/\(∀b∈fp,H' b=Sg)/\W i m σ' H':=fun{a Q R} I8 n8=>by obtain⟨m',hm,w8⟩:=hN a Q n8;refine⟨m',hm,i+1,a,Q,I8.Yr,T.keep _ _ _ B fun b f o e=>(I8.pin (b,o) (To _ (To _ (jV f e)))).1,fun b f=> ?_,w8⟩;obtain⟨o,e,d⟩:=T.obj _ _ B b f;exact(I8.pin (b,o) (To _ (To _ (jV f e)))).2.1
   refine cz (hg _ _ s7 j H7 x u _ I7' r7 (step x H7 y7)) fun _ R ⟨a,Q,I8,q8⟩=> ?_;refine cz (ht _ _ R a Q _ I8 q8) fun ok s9 ⟨H9,I9,q9⟩=> ?_;cases ok with
   |false=>rw[if_neg SH] at q9⊢;exact t I9 q9
   |true=>rw[if_pos rfl] at q9⊢;refine cz (he _ _ s9 a H9 _ (I9.XA _) q9) fun y s10 ⟨U,H10,ahW,r10,ys,hy,hl,q10⟩=> ?_;have I10:=ahW.Wx;refine cz (g9 _ s10 a H10 (.ref s.heap.objs.size) [U] (.ref s.heap.objs.size) [y] (fun _ H11=>N a H11) I10 rfl (.cons r10 .nil) ⟨_,ys,U,rfl,rfl,hy,hl,q10⟩) fun _ s11 ⟨v11,H11,I11,_,q11⟩=> ?_;exact t I11 q11
 exact codeAny_compStart_list (l _ rfl) (T.self _ 0 _ _ _ (T.keep 0 _ _ st fun b _ o e=>kp b o e) (l _ rfl))
def zd (own:List Str) (h:List (Str×Nat)) (b:TI) (g:TG) (f:TT) (e:TE):TE:=fun Y H Q=>b Y H fun J a=>∀D,a D=Sg->HJ J D (iR own h Y) g f e a fun i=>Q (.ref D) i
theorem p8 {a:Wf} (ok:X.Ok) (h:∀y∈a.names,y.2= .free->(X.env.scope.names.lookup y.1=lD .cell\/X.env.scope.names.lookup y.1=lD .free)):∀y∈a.names,y.2= .free->∃c,X.env.cells.lookup y.1=lD c:=
 fun y b e=>ok.has y.1 (h y b e)
theorem Li {a b:Wf} (h:(a.names.all fun y=> !(y.2==Tf.free)||(b.names.lookup y.1==lD Tf.cell)||(b.names.lookup y.1==lD Tf.free))=Si):
  ∀y∈a.names,y.2= .free->(b.names.lookup y.1=lD .cell\/b.names.lookup y.1=lD .free):=fun y f e=>by
 have q:=Vt.mp h y f;rw[e] at q
 simpa using q
theorem fL {elt tg iter:TF} {ifs:List TF} {scope:Wf} {pos:Pos} (own:List Str) (fv:List (Str×Nat)) {wi:TI} {g:TG} {tc:TT} {te:TE} (hc:X.calm=Si) (hi:PI X tg iter wi)
  (hg:∀s H C fp,PG (dW X s H scope C (fX own fv) fp) tg g) (ht:∀s H C fp,Ef (dW X s H scope C (fX own fv) fp) ifs tc) (he:∀s H C fp,PE (dW X s H scope C (fX own fv) fp) elt te) (hfv:abe X scope fv)
  (aen:(scope.names.all fun y=> !(y.2==Tf.free)||(X.env.scope.names.lookup y.1==lD Tf.cell)||(X.env.scope.names.lookup y.1==lD Tf.free))=Si)
  (WG:scope.kind= .function:=by rfl) (hnd:(scope.names.map (·.1)).Nodup:=by left)
  (aaT:∀y∈scope.names,y.2= .local->scope.names.lookup y.1=lD .local:=by left) (hs:∀x,foldedSetIterable iter X.env x=pure x:=by intro _;rfl):
  PE X (.ListComp elt [⟨tg,iter,ifs,0⟩] scope pos) (zd own fv wi g tc te):=by
 intro Z s Y H Q I h;have hfr:=Li aen;rw[eval_ListComp];refine abu (use:=Sg) rfl hs (qQ (p8 I.ok hfr)) WG aaT (cz (hi Z s Y H _ I h) fun xv s1 h1=>cz h1 fun itv s2 h2=> ?_);obtain⟨it,fp,tn,J,H2,e,I2,T,st2,f2,R⟩:=h2;subst e;refine rq I2 hc WG hnd (p8 I.ok hfr) hfv T st2 f2 (fun C=>hg _ _ C _) (fun C=>ht _ _ C _) (W:=fun _ _ _=>False) (fun C=>he _ _ C _) (fun _ _ _ _ _ z=>z.elim) (Fin:=fun D H'=>Q (.ref D) H') R ?_;intro D C H' s' I' fin hm hC hn;obtain⟨m,hm⟩:=hm;refine⟨m,hm,fun h' hs'=>⟨.ref D,H',?_,rfl,fin⟩⟩;obtain⟨f0,f1,_,f3,f4,f5⟩:=I2.aax hC hn;exact I'.turned (t':=s'.toks) (fun b o hb q=>(hs'.2 b hb).trans q) f0 f1 f3 f4 f5
theorem ny {elt tg iter:TF} {ifs:List TF} {scope:Wf} {pos afW py:Pos} {i:Nat} {x:Str} (own:List Str) (fv:List (Str×Nat)) {wi:TI} {g:TG} {tc:TT} {te:TE} (hN:X.N.Nodup) (hi':X.N[i]? =lD x) (hx:X.env.scope.names.lookup x=lD .local)
  (hc:X.calm=Si) (hi:PI X tg iter wi)
  (hg:∀s H C fp,PG (dW X s H scope C (fX own fv) fp) tg g) (ht:∀s H C fp,Ef (dW X s H scope C (fX own fv) fp) ifs tc) (he:∀s H C fp,PE (dW X s H scope C (fX own fv) fp) elt te) (hfv:abe X scope fv)
  (aen:(scope.names.all fun y=> !(y.2==Tf.free)||(X.env.scope.names.lookup y.1==lD Tf.cell)||(X.env.scope.names.lookup y.1==lD Tf.free))=Si)
  (hsw:Uk (.ListComp elt [⟨tg,iter,ifs,0⟩] scope pos) (lD (.Name x py)) afW.line X.env=pure Si:=by rfl)
  (WG:scope.kind= .function:=by rfl) (hnd:(scope.names.map (·.1)).Nodup:=by left)
  (aaT:∀y∈scope.names,y.2= .local->scope.names.lookup y.1=lD .local:=by left) (hs:∀x,foldedSetIterable iter X.env x=pure x:=by intro _;rfl):
  PS X (.Assign [.Name x py] (.ListComp elt [⟨tg,iter,ifs,0⟩] scope pos) afW) (HC (zd own fv wi g tc te) (xL i)):=by
 intro Z s Y H D I h;have hfr:=Li aen;rw[exec_Assign_Name_used _ _ _ _ hsw];refine Sf (U4 (Sf ?_));show wpAny _ _ (do let _<-comprehension (.ListComp elt [⟨tg,iter,ifs,0⟩] scope pos) scope X.env _ (newList []) Sq (eval iter X.env) (lD (assign (.Name x py) X.env))) _ _ s;refine Sf (cz (abu (use:=lD (assign (.Name x py) X.env)) (Q:=fun _ s'=>SP X Z D .next s') rfl hs (qQ (p8 I.ok hfr)) WG aaT
  (cz (hi Z s Y H _ I h) fun xv s1 h1=>cz h1 fun itv s2 h2=> ?_)) fun _ s' q=>Ss (Ss q))
 obtain⟨it,fp,tn,J,H2,e,I2,T,st2,f2,R⟩:=h2;subst e;refine rq I2 hc WG hnd (p8 I.ok hfr) hfv T st2 f2 (fun C=>hg _ _ C _) (fun C=>ht _ _ C _) (W:=fun _ _ _=>False) (fun C=>he _ _ C _) (fun _ _ _ _ _ z=>z.elim) (Fin:=fun L H'=>D.nx (Y.set i (lD (.ref L))) H') R ?_;intro L C H' s' I' fin hm hC hn;obtain⟨m,hm⟩:=hm;obtain⟨f0,f1,f2',f3,f4,f5⟩:=I2.aax hC hn;show wpAny _ _ (assign (.Name x py) X.env (.ref L)) _ _ s';refine aeu (uE I' hN hi' (.inl hx) (v:= .ref L) rfl (fun s'' I'' ⟨a,sb,ha⟩=> ?_) (.inr hx));have hCa:C≠a:=by
  rcases ha with z|z
  .rw[z];exact f1
  .exact fun q=>f4 x a z q.symm
 refine⟨m,hm.sameBut sb hCa,fun h' hs'=>⟨_,H',?_,fin⟩⟩;exact I''.turned (t':=s''.toks) (fun b o hb q=>(hs'.2 b hb).trans q) f0 f1 f3 f4 f5
end
def xX (P:S0) (w:Tn) (K:Ld) (mg:Str->Option Sh) (base:Heap) (k:Nat) (x:Str) (ps:List Str) (sp:Sp):Prop:=
 ∃(f:So) (a:TL),FnOk P w K mg base dG k f a ps sp/\Binds K a ps []/\Uq K (.ref f)=Si/\mg x=lD (.ref f)
theorem iZ (C:xX X.prog X.w X.K X.mg X.base k x ps sp) (h:UP j X.A) (ha:PA X (e::es) t) (a:k<=j:=by decide) (i:Gl X x:=by rfl)
  (n:(x==("__debug__":Str))=Sq:=by decide) (l:SY (e::es) X.env=(Sq,eval e X.env)::SY es X.env:=by rfl) (o:(backTo pos (SY es X.env)).any (·.1)=Sq:=by rfl):
  PE X (.Call (.Name x p) (e::es) [] pos) (jX sp [] E0 t):=by
 obtain⟨f,q,F,b,g,m⟩:=C;exact A7 F (h.mono a) i m g b .nil Bc ha n l o
section
variable {Z:St} {H:Hp} {Q:VK} {D:Ends}
theorem Ov (h:t {D with nx:=u D} Z H):JJ t u D Z H:=h
theorem Qf (h:ta Z H fun x H1=>tb Z H1 fun y H2=>r x y H2 Q):LC r ta tb Z H Q:=h
theorem Qi (c:yB x y=Si) (h:Q (.bl (decide (x=y))) H):Rv x y H Q:=⟨c,h⟩
theorem Mb (h:te Z H D.rt):JR te D Z H:=h
theorem Ic (h:te Z H fun _ H1=>D.nx Z H1):zb te D Z H:=h
theorem Me {Q:List V->Hp->Prop} (h:Q [] H):nk Z H Q:=h
theorem Jt {Q:List V->Hp->Prop} (h:ta Z H fun x H1=>tr Z H1 fun xs H2=>Q (x::xs) H2):jo ta tr Z H Q:=h
theorem IM (h:t Z H fun vs H1=>sp (vs++[]) H1 Q E):jX sp [] E t Z H Q:=h
end
theorem Nb {α:Type} {xs:List α} {i:Int} {v:α} (a:0<=i) (h:xs[i.toNat]? =lD v):l9 xs i=lD v:=by have q:=C1 h;rwa [abL a] at q
theorem Uw.tup {K:Ld} (e:Uw H H') (h:WZ K H a xs):WZ K H' a xs:=by
 rcases h with(h|⟨o,h⟩)|h
 .exact .inl (.inl (e _ _ h))
 .exact .inl (.inr ⟨o,e _ _ h⟩)
 .exact .inr h
theorem b4 (h:H p=Sg) (o:HO):Uw H (bx H p o):=fun b u q=>by rw[ay (bZ q h)];exact q
theorem LF:T1 "max"=lD (.builtin "max"):=by left
theorem wk:T1 "isinstance"=lD (.builtin "isinstance"):=by left
theorem lS:T1 "len"=lD (.builtin "len"):=by left
theorem xJ:T1 "sorted"=lD (.builtin "sorted"):=by left
theorem LV:T1 "all"=lD (.builtin "all"):=by left
theorem AC:T1 "list"=lD (.type "list"):=by left
theorem p9:T1 "tuple"=lD (.type "tuple"):=by left
section
variable {X:Cx}
theorem xW:VR X (.builtin "sorted") (fun xs H Q=>∃(p:So) (g:List Int),xs=[.ref p]/\Xa X.K H p (g.map V.int)/\g.length<64/\∀(l:So) (a:List Int),H l=Sg->a.Perm g->a.Pairwise (·<=·)->Q (.ref l) (bx H l (.lst (a.map V.int)))):=by
 intro j s E H xs F Q I r h;obtain⟨p,g,rfl,v,A,q⟩:=h;obtain⟨u,rfl,n⟩:=lU r;cases n;obtain⟨C,rv,pl,J⟩:=I.list v;have w:=rv.length;rw[Sj] at w;refine sorted_ints pl.isList (mi rv) (by omega) fun f a hi m t=> ?_;obtain⟨e,y⟩:=sortedAll_at s.heap C f;have i:a.length=g.length:=m.length_eq;have B:f.toList.length=a.length:=hi.length;refine⟨.ref (s.heap.objs.size+1),_,I.laid (t':=s.toks) (o:= .lst (a.map V.int)) (fun b G z=>sortedAll_old z) (W0 _) ?_,rfl,q _ a (I.T9.fresh (W0 _)) m t⟩;refine⟨?_,f.toList,e,jq hi,y⟩;rw[Sj,i];have:(64:Nat)<=SD:=by decide
 omega
end
end L2
namespace L3
open PySem L2
abbrev D:=Sk
inductive PV where
 |fz (d:D)
 |ow (ds:List D)
 |pl (i:Nat)
abbrev aY:=List (Option PV)
structure Xc where
 cls:Str
 fs:List (Str×D)
inductive Res (α:Type) where
 |ok (a:α)
 |er (x:Xc)
 |bad
namespace Res
def bind (r:Res α) (f:α->Res β):Res β:=match r with
 | .ok a=>f a
 | .er x=> .er x
 | .bad=> .bad
def TB:Option α->Res α
 |some a=> .ok a
 |none=> .bad
theorem bind_ok (a:α) (f:α->Res β):(Res.ok a).bind f=f a:=rfl
end Res
abbrev cc:=So->Prop
def cQ (O:cc) (p:So):cc:=fun b=>O b\/b=p
def FU (O:cc) (p:So):cc:=fun b=>O b/\b≠p
def noO:cc:=fun _=>False
def Ev (O:cc) (H:Hp) (a:cc) (H':Hp):Prop:=∀b o,H b=lD o->¬O b->H' b=lD o/\¬a b
theorem Ev.refl:Ev O H O H:=fun _ _ h n=>⟨h,n⟩
theorem Ev.trans (a:Ev O H O1 H1) (b:Ev O1 H1 O2 H2):Ev O H O2 H2:=fun p o h n=>let⟨h1,n1⟩:=a p o h n;b p o h1 n1
theorem Ev.grow (s:Uw H H'):Ev O H O H':=fun b o h n=>⟨s b o h,n⟩
theorem Ev.add (s:Uw H H') (a:H p=Sg):Ev O H (cQ O p) H':=fun b o h n=>⟨s b o h,fun z=>z.elim n fun e=>by subst e;rw[h] at a;cases a⟩
theorem Ev.sub (h:∀b,O' b->O b):Ev O H O' H:=fun b o e n=>⟨e,fun z=>n (h b z)⟩
theorem Ev.mut (a:O p) (u:HO):Ev O H O (bx H p u):=fun b o h n=>⟨by rw[ay (fun e=>n (by rw[e];exact a))];exact h,n⟩
def Ww (K:Ld) (H:Hp) (a:So) (xs:List V):Prop:=Rd H a (.lst xs)\/∃(b:List Sh) (n:Nat),K.lookup a=lD {cls:= .type "list",data:= .seq b.toArray n}/\xs.length<=SD/\Vals xs b
theorem Ww.sq (h:Ww K H a xs):Xa K H a xs:=by
 rcases h with h|⟨Tt,n,h1,h2,h3⟩
 .exact .inl h
 .exact .inr ⟨_,Tt.toArray,n,h1,rfl,rfl,rfl,by rw[SE,<-h3.length];exact h2,by simpa using h3⟩
theorem Ww.of (h:H a=lD (.lst xs)):Ww K H a xs:= .inl (.inl h)
theorem Ww.same (e:Uw H H') (h:Ww K H a xs):Ww K H' a xs:=by
 rcases h with(h|⟨o,h⟩)|h
 .exact .inl (.inl (e _ _ h))
 .exact .inl (.inr ⟨o,e _ _ h⟩)
 .exact .inr h
theorem lC (H:Hp):Uw (fun _=>Sg) H:=fun _ _ h=>by cases h
def Y2 (O:cc) (K:Ld) (H:Hp) (a:So) (xs:List V):Prop:=Ww K H a xs/\(O a->Ww K (fun _=>Sg) a xs)
def XJ (O:cc) (K:Ld) (H:Hp) (a:So) (xs:List V):Prop:=WZ K H a xs/\(O a->WZ K (fun _=>Sg) a xs)
section
variable {O Z:cc} {K:Ld} {H H':Hp} {a:So} {xs:List V}
theorem Y2.ev (h:Y2 O K H a xs) (e:Ev O H Z H'):Y2 Z K H' a xs:=by
 obtain⟨h,k⟩:=h;by_cases z:O a
 .exact⟨Ww.same (lC H') (k z),fun _=>k z⟩
 .rcases h with(h|⟨o,h⟩)|h
  .obtain⟨f,b⟩:=e a _ h z;exact⟨.inl (.inl f),fun y=>absurd y b⟩
  .obtain⟨f,b⟩:=e a _ h z;exact⟨.inl (.inr ⟨o,f⟩),fun y=>absurd y b⟩
  .exact⟨.inr h,fun _=> .inr h⟩
theorem XJ.ev (h:XJ O K H a xs) (e:Ev O H Z H'):XJ Z K H' a xs:=by
 obtain⟨h,k⟩:=h;by_cases z:O a
 .exact⟨(lC H').tup (k z),fun _=>k z⟩
 .rcases h with(h|⟨o,h⟩)|h
  .obtain⟨f,b⟩:=e a _ h z;exact⟨.inl (.inl f),fun y=>absurd y b⟩
  .obtain⟨f,b⟩:=e a _ h z;exact⟨.inl (.inr ⟨o,f⟩),fun y=>absurd y b⟩
  .exact⟨.inr h,fun _=> .inr h⟩
end
mutual
inductive DV (O:cc) (K:Ld) (H:Hp):V->D->Prop
 |UT:DV O K H .UT .none
 |bl (b:Bool):DV O K H (.bl b) (.bool b)
 |int (i:Int):DV O K H (.int i) (.int i)
 |str (x:Str):DV O K H (.str x) (.str x)
 |tup {a:So} {xs:List V} {ds:List D}:XJ O K H a xs->Ur O K H xs ds->DV O K H (.ref a) (.tuple ds)
 |lst {a:So} {xs:List V} {ds:List D}:Y2 O K H a xs->Ur O K H xs ds->DV O K H (.ref a) (.list ds)
inductive Ur (O:cc) (K:Ld) (H:Hp):List V->List D->Prop
 |nil:Ur O K H [] []
 |cons {v:V} {vs:List V} {d:D} {ds:List D}:DV O K H v d->Ur O K H vs ds->Ur O K H (v::vs) (d::ds)
end
section
variable {O Z:cc} {K:Ld} {H H':Hp}
mutual
theorem DV.ev (e:Ev O H Z H'):∀{v:V} {d:D},DV O K H v d->DV Z K H' v d
 |_,_,.UT=> .UT
 |_,_,.bl b=> .bl b
 |_,_,.int i=> .int i
 |_,_,.str x=> .str x
 |_,_,.tup h hs=> .tup (h.ev e) (Ur.ev e hs)
 |_,_,.lst h hs=> .lst (h.ev e) (Ur.ev e hs)
theorem Ur.ev (e:Ev O H Z H'):∀{vs:List V} {ds:List D},Ur O K H vs ds->Ur Z K H' vs ds
 |_,_,.nil=> .nil
 |_,_,.cons h hs=> .cons (DV.ev e h) (Ur.ev e hs)
end
theorem Ur.length:∀{vs:List V} {ds:List D},Ur O K H vs ds->vs.length=ds.length
 |_,_,.nil=>rfl
 |_,_,.cons _ t=>by rw[SJ,SJ,t.length]
theorem Ur.get:∀{vs:List V} {ds:List D} {i:Nat} {d:D},Ur O K H vs ds->ds[i]? =lD d->∃v,vs[i]? =lD v/\DV O K H v d
 |_,_,_,_,.nil,e=>by simp at e
 |_,_,0,_,.cons h _,e=>by simp at e;subst e;exact⟨_,rfl,h⟩
 |_,_,i+1,d,.cons _ t,e=>by obtain⟨v,b,a⟩:=Ur.get t (by simpa using e);exact⟨v,by simpa using b,a⟩
theorem Ur.ad2:∀{vs:List V} {ds:List D} {i:Nat} {v:V},Ur O K H vs ds->vs[i]? =lD v->∃d,ds[i]? =lD d/\DV O K H v d
 |_,_,_,_,.nil,e=>by simp at e
 |_,_,0,_,.cons h _,e=>by simp at e;subst e;exact⟨_,rfl,h⟩
 |_,_,i+1,v,.cons _ t,e=>by obtain⟨d,b,a⟩:=Ur.ad2 t (by simpa using e);exact⟨d,by simpa using b,a⟩
theorem Ur.append:∀{vs ws:List V} {ds es:List D},Ur O K H vs ds->Ur O K H ws es->Ur O K H (vs++ws) (ds++es)
 |_,_,_,_,.nil,h=>h
 |_,_,_,_,.cons h t,g=> .cons h (Ur.append t g)
theorem Ur.take:∀{vs:List V} {ds:List D} (n:Nat),Ur O K H vs ds->Ur O K H (vs.take n) (ds.take n)
 |_,_,0,_=> .nil
 |_,_,_+1,.nil=> .nil
 |_,_,n+1,.cons h t=> .cons h (Ur.take n t)
theorem Ur.drop:∀{vs:List V} {ds:List D} (n:Nat),Ur O K H vs ds->Ur O K H (vs.drop n) (ds.drop n)
 |_,_,0,h=>h
 |_,_,_+1,.nil=> .nil
 |_,_,n+1,.cons _ t=>Ur.drop n t
theorem Ur.flat (h:Ur O K H vs ds):∀n:Nat,Ur O K H (Sz n vs).flatten (Sz n ds).flatten
 |0=> .nil
 |n+1=>by rw[TK,TK,UU,UU];exact h.append (Ur.flat h n)
mutual
theorem DV.plain:∀{v:V} {d:D},DV O K H v d->L2.DV K H v d
 |_,_,.UT=> .UT
 |_,_,.bl b=> .bl b
 |_,_,.int i=> .int i
 |_,_,.str x=> .str x
 |_,_,.tup h hs=> .tup h.1 (Ur.plain hs)
 |_,_,.lst h hs=> .lst h.1.sq (Ur.plain hs)
theorem Ur.plain:∀{vs:List V} {ds:List D},Ur O K H vs ds->L2.Ur K H vs ds
 |_,_,.nil=> .nil
 |_,_,.cons h hs=> .cons (DV.plain h) (Ur.plain hs)
end
end
def DX (O:cc) (K:Ld) (H:Hp) (v:V):D->Prop
 | .list ds=>∃a xs,v= .ref a/\Ww K H a xs/\Ur O K H xs ds
 |d=>DV O K H v d
theorem DV.x (h:DV O K H v d):DX O K H v d:=by
 cases h with
 |lst h a=>exact⟨_,_,rfl,h.1,a⟩
 |UT=>exact .UT
 |bl b=>exact .bl b
 |int i=>exact .int i
 |str x=>exact .str x
 |tup h a=>exact .tup h a
theorem DX.plain (h:DX O K H v d):L2.DV K H v d:=by
 cases d with
 |list ds=>obtain⟨a,xs,rfl,f,e⟩:=h;exact .lst f.sq e.plain
 |none=>exact DV.plain h
 |bool b=>exact DV.plain h
 |int i=>exact DV.plain h
 |str x=>exact DV.plain h
 |tuple ds=>exact DV.plain h
 |dict S4=>exact DV.plain h
def ZU (K:Ld) (b:Hp) (O:cc) (H:Hp) (v:V):PV->Prop
 | .fz d=>DV O K H v d
 | .ow ds=>∃a vs,v= .ref a/\O a/\b a=Sg/\H a=lD (.lst vs)/\Ur O K H vs ds
 | .pl _=>False
structure Rl (K:Ld) (B:cc) (H0:Hp) (O:cc) (σ:St) (H:Hp) (ρ:aY):Prop where
 same:Uw H0 H
 bo:∀a,B a->O a
 bd:∀a,B a->H0 a≠Sg
 od:∀a,H a=Sg->¬O a
 len:σ.length=ρ.length
 slot:∀(i:Nat) (x:PV),ρ[i]? =lD (lD x)->∃v,σ[i]? =lD (lD v)/\ZU K H0 O H v x
 one:∀(i j:Nat) (ds es:List D) (v:V),ρ[i]? =lD (lD (.ow ds))->ρ[j]? =lD (lD (.ow es))->σ[i]? =lD (lD v)->σ[j]? =lD (lD v)->i=j
def Xn (K:Ld) (f:Hp) (O:cc) (b:St) (H:Hp) (ρ:aY) (v:V):PV->Prop
 | .fz d=>DV O K H v d
 | .ow ds=>∃a vs,v= .ref a/\O a/\f a=Sg/\H a=lD (.lst vs)/\Ur O K H vs ds/\∀(i:Nat) (e:List D),ρ[i]? =lD (lD (.ow e))->b[i]?≠lD (lD (.ref a))
 | .pl i=>b[i]? =lD (lD v)
def lg:PV->Prop
 | .ow _=>False
 |_=>True
def bS:PV->PV
 | .ow ds=> .fz (.list ds)
 |p=>p
section
variable {K:Ld} {B O X:cc} {Z H H':Hp} {Y:St} {ρ ρ':aY} {v:V}
theorem ZU.grow (s:Uw H H') (h:ZU K Z O H v x):ZU K Z O H' v x:=by
 cases x with
 |fz d=>exact DV.ev (Ev.grow s) h
 |ow ds=>obtain⟨a,vs,e,j,g,f,b⟩:=h;exact⟨a,vs,e,j,g,s _ _ f,b.ev (Ev.grow s)⟩
 |pl i=>exact h
theorem Rl.grow (R:Rl K B Z O Y H ρ) (s:Uw H H'):Rl K B Z O Y H' ρ:=
 ⟨R.same.trans s,R.bo,R.bd,fun a h=>R.od a (s.free h),R.len,fun i x h=>let⟨v,h1,h2⟩:=R.slot i x h;⟨v,h1,h2.grow s⟩,R.one⟩
theorem Rl.adA (R:Rl K B Z O Y H ρ) (h:H p=Sg):Z p=Sg:=R.same.free h
theorem Rl.add (R:Rl K B Z O Y H ρ) (s:Uw H H') (f:H p=Sg) (g:H' p≠Sg):Rl K B Z (cQ O p) Y H' ρ:=by
 refine⟨R.same.trans s,fun a h=> .inl (R.bo a h),R.bd,fun a h z=>z.elim (R.od a (s.free h)) fun e=>g (by rw[<-e];exact h),R.len,fun i x h=> ?_,R.one⟩;obtain⟨v,j,b⟩:=R.slot i x h;refine⟨v,j,?_⟩;cases x with
 |fz d=>exact DV.ev (Ev.add s f) b
 |ow ds=>obtain⟨a,vs,e,o,n,m,l⟩:=b;exact⟨a,vs,e,.inl o,n,s _ _ m,l.ev (Ev.add s f)⟩
 |pl i=>exact b
theorem Rl.ac6 (R:Rl K B Z O Y H ρ) (h:Z a=Sg):¬B a:=fun z=>R.bd a z h
theorem Rl.sub (R:Rl K B Z O Y H ρ) {a:So} (m:Z a=Sg) (h:∀(i:Nat) (es:List D),ρ[i]? =lD (lD (.ow es))->Y[i]?≠lD (lD (.ref a))):Rl K B Z (FU O a) Y H ρ:=by
 refine⟨R.same,fun b f=>⟨R.bo b f,fun e=>R.ac6 m (e▸f)⟩,R.bd,fun b f z=>R.od b f z.1,R.len,fun i x j=> ?_,R.one⟩;obtain⟨v,l,g⟩:=R.slot i x j;refine⟨v,l,?_⟩;cases x with
 |fz d=>exact DV.ev (Ev.sub fun b z=>z.1) g
 |ow ds=>obtain⟨b,vs,e,q,p,o,n⟩:=g;subst e;exact⟨b,vs,rfl,⟨q,fun e=>h i ds j (by rw[l,e])⟩,p,o,n.ev (Ev.sub fun b z=>z.1)⟩
 |pl i=>exact g
theorem vh (h:H a=lD (.lst vs)) (n:¬O a) (hd:Ur O K H vs ds):DV O K H (.ref a) (.list ds):= .lst ⟨Ww.of h,fun z=>absurd z n⟩ hd
theorem gf {pv:PV} (R:Rl K B Z O Y H ρ) (h:Xn K Z O Y H ρ v pv):∃X,Ev O H X H/\Rl K B Z X Y H ρ/\Xn K Z X Y H ρ v (bS pv):=by
 cases pv with
 |fz d=>exact⟨O,.refl,R,h⟩
 |pl i=>exact⟨O,.refl,R,h⟩
 |ow ds=>obtain⟨a,vs,rfl,l,j,g,f,e⟩:=h;exact⟨FU O a,Ev.sub fun b z=>z.1,R.sub j e,vh g (fun z=>z.2 rfl) (f.ev (Ev.sub fun b z=>z.1))⟩
theorem k6 (pv:PV):lg (bS pv):=by cases pv<;>trivial
theorem Xn.keep {pv:PV} (a:lg pv) (e:Ev O H X H') (h:Xn K Z O Y H ρ v pv):Xn K Z X Y H' ρ' v pv:=by
 cases pv with
 |fz d=>exact DV.ev e h
 |pl i=>exact h
 |ow ds=>exact a.elim
def RJ:Option (Option PV)->Option D
 |some (lD (.fz d))=>lD d
 |some (lD (.ow ds))=>lD (.list ds)
 |_=>Sg
def rX (ρ:aY):PV->Option D
 | .fz d=>lD d
 | .ow ds=>lD (.list ds)
 | .pl i=>RJ ρ[i]?
theorem j7 {pv:PV} (R:Rl K B Z O Y H ρ) (h:Xn K Z O Y H ρ v pv) (e:rX ρ pv=lD d):DX O K H v d:=by
 cases pv with
 |fz t=>cases e;exact DV.x h
 |ow ds=>cases e;obtain⟨a,vs,rfl,E,C,p,n,A⟩:=h;exact⟨a,vs,rfl,Ww.of p,n⟩
 |pl i=>
  have b:RJ ρ[i]? =lD d:=e;have r:=h;cases q:ρ[i]? with
  |none=>rw[q] at b;cases b
  |some o=>
   cases o with
   |none=>rw[q] at b;cases b
   |some x=>
    obtain⟨u,g,f⟩:=R.slot i x q;rw[r] at g;cases g;rw[q] at b;cases x with
    |fz t=>cases b;exact DV.x f
    |ow ds=>cases b;obtain⟨a,vs,rfl,y,w,m,l⟩:=f;exact⟨a,vs,rfl,Ww.of m,l⟩
    |pl j=>exact f.elim
def toS (ρ:aY) (i:Nat):Option (Option PV)->Option (D×aY)
 |some (lD (.fz d))=>lD (d,ρ)
 |some (lD (.ow ds))=>lD (.list ds,ρ.set i (lD (.fz (.list ds))))
 |_=>Sg
def yZ (ρ:aY):PV->Option (D×aY)
 | .fz d=>lD (d,ρ)
 | .ow ds=>lD (.list ds,ρ)
 | .pl i=>toS ρ i ρ[i]?
theorem cy {l:List α} (h:(l.set i x)[j]? =lD y):(j=i/\y=x)\/(j≠i/\l[j]? =lD y):=by
 rw[T4] at h;by_cases e:i=j
 .rw[if_pos e] at h
  split at h
  .cases h;exact .inl ⟨e.symm,rfl⟩
  .cases h
 .rw[if_neg e] at h;exact .inr ⟨fun z=>e z.symm,h⟩
theorem t9 {pv:PV} (R:Rl K B Z O Y H ρ) (h:Xn K Z O Y H ρ v pv) (e:yZ ρ pv=lD (d,ρ')):∃X,Ev O H X H/\Rl K B Z X Y H ρ'/\DV X K H v d:=by
 cases pv with
 |fz d'=>cases e;exact⟨O,.refl,R,h⟩
 |ow ds=>cases e;obtain⟨a,vs,rfl,h1,h2,h3,U,T⟩:=h;exact⟨FU O a,Ev.sub fun b z=>z.1,R.sub h2 T,vh h3 (fun z=>z.2 rfl) (U.ev (Ev.sub fun b z=>z.1))⟩
 |pl i=>
  have f:toS ρ i ρ[i]? =lD (d,ρ'):=e;have y:=h;cases q:ρ[i]? with
  |none=>rw[q] at f;cases f
  |some o=>
   cases o with
   |none=>rw[q] at f;cases f
   |some x=>
    obtain⟨u,E,A⟩:=R.slot i x q;rw[y] at E;cases E;rw[q] at f;cases x with
    |fz d'=>cases f;exact⟨O,.refl,R,A⟩
    |pl j=>exact A.elim
    |ow ds=>
     cases f;obtain⟨a,vs,rfl,k1,S,Q,P⟩:=A;have n:Ev O H (FU O a) H:=Ev.sub fun b z=>z.1;have F:=vh Q (fun z=>z.2 rfl) (P.ev n);refine⟨FU O a,n,⟨R.same,fun b m=>⟨R.bo b m,fun e=>R.ac6 S (e▸m)⟩,R.bd,fun b m z=>R.od b m z.1,by rw[TZ];exact R.len,fun j x l=> ?_,fun j k xs G w t r=> ?_⟩,F⟩
     .rcases cy l with⟨rfl,g⟩|⟨XZ,l⟩
      .cases g;exact⟨_,y,F⟩
      .obtain⟨u,C,p⟩:=R.slot j x l
       refine⟨u,C,?_⟩;cases x with
       |fz d=>exact DV.ev n p
       |pl i=>exact p
       |ow xs=>obtain⟨b,I,rfl,N,M,L,J⟩:=p;exact⟨b,I,rfl,⟨N,fun z=>XZ (R.one j i xs ds (.ref a) l q (by rw[C,z]) y)⟩,M,L,J.ev n⟩
     .rcases cy t with⟨rfl,g⟩|⟨_,t⟩
      .cases g
      .rcases cy r with⟨rfl,g⟩|⟨_,r⟩
       .cases g
       .exact R.one j k xs G w t r
end
def XOk (K:Ld) (B:cc) (H:Hp) (c:Sh) (dx:Option So) (x:Xc):Prop:=
 (∃a,c= .ref a/\SU K SK x.cls=lD (lD (.ref a)))/\∃fs,(∀p,dx=lD p->H p=lD (.xd fs))/\∀f d,x.fs.lookup f=lD d->dx≠Sg/\∃v,fs.lookup f=lD v/\DV B K H v d
def XE (K:Ld) (B:cc) (a:Hp) (E:XK) (x:Xc):Prop:=∀c dx H',Uw a H'->XOk K B H' c dx x->E c dx H'
def WR (K:Ld) (E:XK) (B:cc) (b:Hp) (P:α->Prop):Res α->Prop
 | .ok a=>P a
 | .er x=>XE K B b E x
 | .bad=>False
section
variable {K:Ld} {E:XK} {B:cc} {Z:Hp}
theorem WR.bind (h:WR K E B Z P (r.bind k)):WR K E B Z (fun a=>WR K E B Z P (k a)) r:=by cases r<;>exact h
theorem WR.TB (h:WR K E B Z P ((Res.TB o).bind k)):∃a,o=lD a/\WR K E B Z P (k a):=by
 cases o with
 |none=>exact h.elim
 |some a=>exact⟨a,rfl,h⟩
theorem WR.imp (h:WR K E B Z P r) (g:∀a,P a->P' a):WR K E B Z P' r:=by
 cases r with
 |ok a=>exact g a h
 |er x=>exact h
 |bad=>exact h
end
abbrev FE:=aY->Res (PV×aY)
abbrev FT:=aY->Res (Bool×aY)
abbrev FA:=aY->Res (List PV×aY)
def EO (K:Ld) (E:XK) (t:TE) (f:FE):Prop:=
 ∀(B:cc) (b:Hp) (O:cc) (a:St) (H:Hp) (ρ:aY) (Q:VK),Rl K B b O a H ρ->WR K E B b (fun r=>∀O' v H',Ev O H O' H'->Rl K B b O' a H' r.2->Xn K b O' a H' r.2 v r.1->Q v H') (f ρ)->t a H Q
def TTO (K:Ld) (E:XK) (t:TT) (f:FT):Prop:=
 ∀(B:cc) (b:Hp) (O:cc) (a:St) (H:Hp) (ρ:aY) (Q:Bool->Hp->Prop),Rl K B b O a H ρ->WR K E B b (fun r=>∀O' H',Ev O H O' H'->Rl K B b O' a H' r.2->Q r.1 H') (f ρ)->t a H Q
def AO (K:Ld) (E:XK) (t:TA) (f:FA):Prop:=
 ∀(B:cc) (b:Hp) (O:cc) (a:St) (H:Hp) (ρ:aY) (Q:List V->Hp->Prop),Rl K B b O a H ρ->WR K E B b (fun r=>∀O' vs H',Ev O H O' H'->Rl K B b O' a H' r.2->Paired (fun v pv=>Xn K b O' a H' r.2 v pv/\lg pv) vs r.1->Q vs H') (f ρ)->t a H Q
inductive RV where
 |fz (d:D)
 |ow (ds:List D)
def RV.pv:RV->PV
 | .fz d=> .fz d
 | .ow ds=> .ow ds
def Fin (O:cc) (K:Ld) (H:Hp) (Q:VK):RV->Prop
 | .fz d=>∀v H',Uw H H'->DV O K H' v d->Q v H'
 | .ow ds=>∀p vs H',Uw H H'->H p=Sg->H' p=lD (.lst vs)->Ur (cQ O p) K H' vs ds->Q (.ref p) H'
def nI (O:cc) (H:Hp):Prop:=∀a,H a=Sg->¬O a
section
variable {K:Ld} {E:XK} {B O X:cc} {Y H H':Hp} {Z:St} {ρ ρ':aY} {v:V}
theorem ko (R:Rl K B Y O Z H ρ) (h:∀X v H',Ev O H X H'->Rl K B Y X Z H' ρ->Xn K Y X Z H' ρ v rv.pv->Q v H'):Fin O K H Q rv:=by
 cases rv with
 |fz d=>exact fun v H' s f=>h O v H' (Ev.grow s) (R.grow s) f
 |ow ds=>intro p vs H' s b e f;refine h (cQ O p) (.ref p) H' (Ev.add s b) (R.add s b (by rw[e];simp)) ⟨p,vs,rfl,.inr rfl,R.adA b,e,f,fun i r hi z=> ?_⟩;obtain⟨u,g,a,m,l,q,o,j,n⟩:=R.slot i _ hi;rw[z] at g;cases g;cases l;rw[b] at j;cases j
theorem Fin.new (hd:Ur O K H vs ds) (h:Fin O K H Q (.ow ds)):∀p,H p=Sg->Q (.ref p) (bx H p (.lst vs)):=fun p a=>
 h p vs _ (b4 a _) a aG (hd.ev (Ev.add (b4 a _) a))
theorem Fin.acC (hd:Ur O K H vs ds) (b:nI O H) (h:Fin O K H Q (.fz (.tuple ds))):∀p,H p=Sg->Q (.ref p) (bx H p (.tup vs)):=fun p a=>
 h (.ref p) _ (b4 a _) (.tup ⟨WZ.of aG,fun z=>absurd z (b p a)⟩ (hd.ev (Ev.grow (b4 a _))))
theorem Fin.at (h:Fin O K H Q (.fz d)) (a:DV O K H v d):Q v H:=h v H (Uw.refl H) a
def Cn (ρ:aY) (i:Nat):Option (Option PV)->Res (PV×aY)
 |some (lD (.fz d))=> .ok (.fz d,ρ)
 |some (lD (.ow _))=> .ok (.pl i,ρ)
 |_=> .bad
def aa (i:Nat):FE:=fun ρ=>Cn ρ i ρ[i]?
theorem ao:EO K E (yr i) (aa i):=by
 intro B Y O Z H ρ Q R w;unfold aa at w;cases q:ρ[i]? with
 |none=>rw[q] at w;exact w.elim
 |some o=>
  cases o with
  |none=>rw[q] at w;exact w.elim
  |some x=>
   rw[q] at w;obtain⟨v,a,b⟩:=R.slot i x q;cases x with
   |fz d=>exact⟨v,a,w O v H .refl R b⟩
   |ow ds=>exact⟨v,a,w O v H .refl R a⟩
   |pl j=>exact w.elim
def pC (d:D):FE:=fun ρ=> .ok (.fz d,ρ)
theorem Ad (h:∀O H,DV O K H v d):EO K E (tC v) (pC d):=fun B Y O Z H ρ Q R w=>w O v H .refl R (h O H)
theorem bE:EO K E (tC (.int i)) (pC (.int i)):=Ad fun _ _=> .int i
theorem P2:EO K E (tC (.bl b)) (pC (.bool b)):=Ad fun _ _=> .bl b
theorem ii:EO K E (tC (.str x)) (pC (.str x)):=Ad fun _ _=> .str x
theorem gH:EO K E (tC .UT) (pC .none):=Ad fun _ _=> .UT
def nM (K:Ld) (r:R2) (f:D->D->Option RV):Prop:=∀(O:cc) (H:Hp) (x y:V) (dx a:D) (rv:RV) (Q:VK),nI O H->DX O K H x dx->DX O K H y a->f dx a=lD rv->Fin O K H Q rv->r x y H Q
def aJ (f:D->D->Option RV) (fa fb:FE):FE:=fun ρ=>(fa ρ).bind fun a=>(fb a.2).bind fun b=>(Res.TB (rX b.2 (bS a.1))).bind fun dx=>(Res.TB (rX b.2 b.1)).bind fun e=>(Res.TB (f dx e)).bind fun rv=> .ok (rv.pv,b.2)
theorem bT (u:nM K r f) (ha:EO K E ta fa) (A:EO K E tb fb):EO K E (LC r ta tb) (aJ f fa fb):=by intro B Y O Z H ρ Q R w;refine ha B Y O Z H ρ _ R (w.bind.imp fun a j O1 x U G L t=> ?_);obtain⟨P,F,R2,q⟩:=gf L t;refine A B Y P Z U a.2 _ R2 (j.bind.imp fun b e N y T i g p=> ?_);have h:=q.keep (k6 a.1) i (ρ':=b.2);obtain⟨dx,m,e⟩:=e.TB;obtain⟨I,l,e⟩:=e.TB;obtain⟨rv,n,e⟩:=e.TB;refine u N T x y dx I rv Q g.od (j7 g h m) (j7 g p l) n (ko g fun M v S C J o=> ?_);exact e M v S (G.trans (F.trans (i.trans C))) J o
def Q1:D->Option Bool
 | .bool b=>lD b
 |_=>Sg
theorem Ms (h:DX O K H x d) (e:Q1 d=lD b):x= .bl b:=by cases d<;>cases e;cases h;rfl
def aF (fa:FE):aY->Res (Bool×aY):=fun ρ=>(fa ρ).bind fun a=>(Res.TB (rX a.2 a.1)).bind fun d=>(Res.TB (Q1 d)).bind fun b=> .ok (b,a.2)
theorem dL (ha:EO K E ta fa):TTO K E (Bf ta) (aF fa):=by intro B Y O Z H ρ Q R w;refine ha B Y O Z H ρ _ R (w.bind.imp fun a e l x m j f i=> ?_);obtain⟨d,g,e⟩:=e.TB;obtain⟨b,h,e⟩:=e.TB;exact⟨b,Ms (j7 f i g) h,e l m j f⟩
theorem Ln (ha:EO K E ta fa):TTO K E (tB ta) (aF fa):=dL ha
def rV (fa fb:FT):FT:=fun ρ=>(fa ρ).bind fun a=>if a.1=Si then fb a.2 else .ok (Sq,a.2)
def OP (fa fb:FT):FT:=fun ρ=>(fa ρ).bind fun a=>if a.1=Si then .ok (Si,a.2) else fb a.2
def zY (fa:FT):FT:=fun ρ=>(fa ρ).bind fun a=> .ok (!a.1,a.2)
theorem TTO.next (h:TTO K E t f) (R:Rl K B Y O1 Z H1 ρ) (a:Ev O H O1 H1) (w:WR K E B Y (fun r=>∀X H',Ev O H X H'->Rl K B Y X Z H' r.2->Q r.1 H') (f ρ)):t Z H1 Q:=
 h B Y O1 Z H1 ρ Q R (w.imp fun r q X H' b e=>q X H' (a.trans b) e)
theorem EO.next (h:EO K E t f) (R:Rl K B Y O1 Z H1 ρ) (b:Ev O H O1 H1) (w:WR K E B Y (fun r=>∀X v H',Ev O H X H'->Rl K B Y X Z H' r.2->Xn K Y X Z H' r.2 v r.1->Q v H') (f ρ)):t Z H1 Q:=
 h B Y O1 Z H1 ρ Q R (w.imp fun r q X v H' e g a=>q X v H' (b.trans e) g a)
theorem J8 (m:TTO K E t f) (l:TTO K E u g):TTO K E (Oo t u) (rV f g):=by
 intro B Y O Z H ρ Q R w;refine m B Y O Z H ρ _ R (w.bind.imp fun a e n o h i=> ?_);obtain⟨b,j⟩:=a;cases b with
 |true=>exact l.next i h e
 |false=>exact e n o h i
theorem N8 (m:TTO K E t f) (l:TTO K E u g):TTO K E (Rq t u) (OP f g):=by
 intro B Y O Z H ρ Q R w;refine m B Y O Z H ρ _ R (w.bind.imp fun a e n o h i=> ?_);obtain⟨b,j⟩:=a;cases b with
 |true=>exact e n o h i
 |false=>exact l.next i h e
theorem Jd (e:TTO K E t f):TTO K E (NX t) (zY f):=by intro B Y O Z H ρ Q R w;exact e B Y O Z H ρ _ R (w.bind.imp fun a b i j g h=>b i j g h)
def fy:FT:=fun ρ=> .ok (Si,ρ)
theorem fS:TTO K E Fp fy:=fun B Y O Z H ρ Q R w=>w O H .refl R
def Dv (fa fb:FE):FE:=fun ρ=>(aF fa ρ).bind fun a=>if a.1=Si then fb a.2 else .ok (.fz (.bool Sq),a.2)
theorem GS (ha:EO K E ta fa) (j:EO K E tb fb):EO K E (GQ ta tb) (Dv fa fb):=by
 intro B Y O Z H ρ Q R w;refine dL ha B Y O Z H ρ (fun c e=>if c=Si then tb Z e Q else Q (.bl Sq) e) R (w.bind.imp fun a f l e g h=> ?_);obtain⟨b,i⟩:=a;cases b with
 |true=>exact j.next h g f
 |false=>exact f l _ e g h (.bl Sq)
def Mp (c:FT) (fa fb:FE):FE:=fun ρ=>(c ρ).bind fun a=>if a.1=Si then fa a.2 else fb a.2
theorem Ll (i:TTO K E t c) (ha:EO K E ta fa) (j:EO K E tb fb):EO K E (Qv t ta tb) (Mp c fa fb):=by
 intro B Y O Z H ρ Q R w;refine i B Y O Z H ρ _ R (w.bind.imp fun a e l m f g=> ?_);obtain⟨b,h⟩:=a;cases b with
 |true=>exact ha.next g f e
 |false=>exact j.next g f e
def sd (f g:D->D->Option RV) (fa fb fc:FE):FE:=fun ρ=>(fa ρ).bind fun a=>(fb a.2).bind fun b=>(Res.TB (rX b.2 (bS a.1))).bind fun dx=>(Res.TB (rX b.2 (bS b.1))).bind fun i=>
 (Res.TB (f dx i)).bind fun rv=>match rv with
  | .fz (.bool Si)=>(fc b.2).bind fun c=>(Res.TB (rX c.2 (bS b.1))).bind fun e=>(Res.TB (rX c.2 c.1)).bind fun h=>(Res.TB (g e h)).bind fun rv=> .ok (rv.pv,c.2)
  | .fz (.bool Sq)=> .ok (.fz (.bool Sq),b.2)
  |_=> .bad
theorem yT (hr:nM K r f) (q:nM K r' g) (ha:EO K E ta fa) (hb:EO K E tb fb) (hc:EO K E tc fc):EO K E (Gv r r' ta tb tc) (sd f g fa fb fc):=by
 intro B Y O Z H ρ Q R w;refine ha B Y O Z H ρ _ R (w.bind.imp fun a N O1 x H1 J R1 p1=> ?_);obtain⟨O2,I,R2,p2⟩:=gf R1 p1;refine hb B Y O2 Z H1 a.2 _ R2 (N.bind.imp fun b e O3' y M u C o=> ?_);obtain⟨j,i,m,F⟩:=gf C o;have i:=u.trans i;have p:=p2.keep (k6 a.1) i (ρ':=b.2);obtain⟨dx,T,e⟩:=e.TB;obtain⟨dy,S,e⟩:=e.TB;obtain⟨rv,qf,e⟩:=e.TB;refine hr j M x y dx dy rv _ m.od (j7 m p T) (j7 m F S) qf ?_;cases rv with
 |ow ds=>exact e.elim
 |fz d=>
  intro v H' s dv;cases dv with
  |bl k=>
   refine⟨k,rfl,?_⟩;have L:=m.grow s;have t:Ev j M j H':=Ev.grow s;cases k with
   |false=>exact e j _ H' (J.trans (I.trans (i.trans t))) L (.bl Sq)
   |true=>rw[if_pos rfl];refine hc B Y j Z H' b.2 _ L (WR.imp (WR.bind e) fun c h O5 z H5 G l p5=> ?_);obtain⟨A,n,h⟩:=h.TB;obtain⟨dz,P,h⟩:=h.TB;obtain⟨rv,U,h⟩:=h.TB;refine q O5 H5 y z A dz rv Q l.od (j7 l (F.keep (k6 b.1) (t.trans G)) n) (j7 l p5 P) U (ko l fun O6 v H6 e6 R6 p6=> ?_);exact h O6 v H6 (J.trans (I.trans (i.trans (t.trans (G.trans e6))))) R6 p6
  |_=>exact e.elim
def aw:FA:=fun ρ=> .ok ([],ρ)
def ad (fa:FE) (e:FA):FA:=fun ρ=>(fa ρ).bind fun a=>(e a.2).bind fun b=> .ok (bS a.1::b.1,b.2)
theorem aX:AO K E nk aw:=fun B Y O Z H ρ Q R w=>w O [] H .refl R .nil
theorem aA (ha:EO K E ta fa) (m:AO K E tr fr):AO K E (jo ta tr) (ad fa fr):=by intro B Y O Z H ρ Q R w;refine ha B Y O Z H ρ _ R (w.bind.imp fun a h A x y o q l=> ?_);obtain⟨t,n,R2,j⟩:=gf q l;refine m B Y t Z y a.2 _ R2 (h.bind.imp fun b g r f u e p i=> ?_);exact g r (x::f) u (o.trans (n.trans e)) p (.cons ⟨j.keep (k6 a.1) e,k6 a.1⟩ i)
def tR (ρ:aY):List PV->Option (List D)
 |[]=>lD []
 |p::r=>match rX ρ p with
  |some d=>(match tR ρ r with
   |some ds=>lD (d::ds)
   |none=>Sg)
  |none=>Sg
theorem wj (R:Rl K B Y O Z H ρ):∀{vs:List V} {ps:List PV} {ds:List D},Paired (fun v pv=>Xn K Y O Z H ρ v pv/\lg pv) vs ps->tR ρ ps=lD ds->Paired (DX O K H) vs ds
 |_,_,_,.nil,e=>by cases e;exact .nil
 |_,_,_,.cons (l₂:=ps) (b:=p) h t,e=>by
  unfold tR at e;cases q:rX ρ p with
  |none=>rw[q] at e;cases e
  |some d=>
   rw[q] at e;dsimp only at e;cases q2:tR ρ ps with
   |none=>rw[q2] at e;cases e
   |some a=>rw[q2] at e;cases e;exact .cons (j7 R h.1 q) (wj R t q2)
def pP (ρ:aY):List PV->Option (List D×aY)
 |[]=>lD ([],ρ)
 |p::r=>match yZ ρ p with
  |some (d,ρ1)=>(match pP ρ1 r with
   |some (ds,ρ2)=>lD (d::ds,ρ2)
   |none=>Sg)
  |none=>Sg
theorem rz:∀{vs:List V} {ps:List PV} {ds:List D} {O:cc} {ρ ρ':aY},Rl K B Y O Z H ρ->Paired (fun v pv=>Xn K Y O Z H ρ v pv/\lg pv) vs ps->pP ρ ps=lD (ds,ρ')->∃X,Ev O H X H/\Rl K B Y X Z H ρ'/\Ur X K H vs ds
 |_,_,_,O,_,_,R,.nil,e=>by cases e;exact⟨O,.refl,R,.nil⟩
 |_,_,_,O,ρ,ρ',R,.cons (l₁:=vs) (l₂:=ps) (b:=p) h t,e=>by
  unfold pP at e;cases q:yZ ρ p with
  |none=>rw[q] at e;cases e
  |some r=>
   obtain⟨d,a⟩:=r;rw[q] at e;dsimp only at e;cases q2:pP a ps with
   |none=>rw[q2] at e;cases e
   |some m=>obtain⟨o,j⟩:=m;rw[q2] at e;cases e;obtain⟨C,i,y,w⟩:=t9 R h.1 q;have l:Paired (fun v pv=>Xn K Y C Z H a v pv/\lg pv) vs ps:=Paired.WK t fun v pv ⟨n,f⟩=>⟨n.keep f i,f⟩;obtain⟨A,g,R2,u⟩:=rz y l q2;exact⟨A,i.trans g,R2,.cons (w.ev g) u⟩
abbrev FN:=List D->Res RV
def pp (K:Ld) (n:Nat) (F:FN):Sp:=fun vs H Q E=>vs.length=n/\∃(B:cc) (ds:List D),(∀a,B a->H a≠Sg)/\Ur B K H vs ds/\WR K E B H (Fin B K H Q) (F ds)
def bB (fa:FA):FE:=fun ρ=>(fa ρ).bind fun a=>(Res.TB (pP a.2 a.1)).bind fun b=>if b.1.length<=1000 then .ok (.fz (.tuple b.1),b.2) else .bad
def dU (fa:FA):FE:=fun ρ=>(fa ρ).bind fun a=>(Res.TB (pP a.2 a.1)).bind fun b=>if b.1.length<=1000 then .ok (.ow b.1,b.2) else .bad
theorem Ae (h:n<=1000):n<=SD:=Tg h (by decide)
theorem fT (ha:AO K E ta fa):EO K E (MS ta) (bB fa):=by
 intro B Y O Z H ρ Q R w;refine ha B Y O Z H ρ _ R (w.bind.imp fun a g u vs y m o i=> ?_);obtain⟨⟨ds,f⟩,q,b⟩:=g.TB;obtain⟨t,l,R2,e⟩:=rz o i q;dsimp only at b;by_cases hn:ds.length<=1000
 .rw[if_pos hn] at b;refine⟨by rw[e.length];exact Ae hn,Fin.acC e R2.od (ko R2 fun p v r j n h=>b p v r (m.trans (l.trans j)) n h)⟩
 .rw[if_neg hn] at b;exact b.elim
theorem lZ (ha:AO K E ta fa):EO K E (Pv ta) (dU fa):=by
 intro B Y O Z H ρ Q R w;refine ha B Y O Z H ρ _ R (w.bind.imp fun a g u vs y m o i=> ?_);obtain⟨⟨ds,f⟩,q,b⟩:=g.TB;obtain⟨t,l,R2,e⟩:=rz o i q;dsimp only at b;by_cases hn:ds.length<=1000
 .rw[if_pos hn] at b;refine⟨by rw[e.length];exact Ae hn,Fin.new e (ko R2 fun p v r j n h=>b p v r (m.trans (l.trans j)) n h)⟩
 .rw[if_neg hn] at b;exact b.elim
def Gf (K:Ld) (r:List V->Hp->VK->Prop) (f:List D->Option RV):Prop:=∀(O:cc) (H:Hp) (xs:List V) (ds:List D) (rv:RV) (Q:VK),nI O H->Paired (DX O K H) xs ds->f ds=lD rv->Fin O K H Q rv->r xs H Q
def iB (f:List D->Option RV) (fa:FA):FE:=fun ρ=>(fa ρ).bind fun a=>(Res.TB (tR a.2 a.1)).bind fun ds=>(Res.TB (f ds)).bind fun rv=> .ok (rv.pv,a.2)
theorem kr (l:Gf K r f) (ha:AO K E ta fa):EO K E (Kd r ta) (iB f fa):=by intro B Y O Z H ρ Q R w;refine ha B Y O Z H ρ _ R (w.bind.imp fun a g t vs y n e j=> ?_);obtain⟨ds,q,b⟩:=g.TB;obtain⟨rv,h,b⟩:=b.TB;exact l t y vs ds rv Q e.od (wj e j q) h (ko e fun p v u m o i=>b p v u (n.trans m) o i)
def Rk:D->Option Int
 | .int i=>lD i
 |_=>Sg
theorem Ob (h:DX O K H x d) (e:Rk d=lD i):x= .int i:=by cases d<;>cases e;cases h;rfl
abbrev FO:=aY->Res (Option Int×aY)
def QK (K:Ld) (E:XK) (t:TO) (f:FO):Prop:=
 ∀(B:cc) (Y:Hp) (O:cc) (Z:St) (H:Hp) (ρ:aY) (Q:Option Int->Hp->Prop),Rl K B Y O Z H ρ->WR K E B Y (fun r=>∀X H',Ev O H X H'->Rl K B Y X Z H' r.2->Q r.1 H') (f ρ)->t Z H Q
def uI:FO:=fun ρ=> .ok (Sg,ρ)
def ng (fa:FE):FO:=fun ρ=>(fa ρ).bind fun a=>(Res.TB (rX a.2 a.1)).bind fun d=>(Res.TB (Rk d)).bind fun i=> .ok (lD i,a.2)
theorem yI:QK K E Bo uI:=fun B Y O Z H ρ Q R w=>w O H .refl R
theorem yo (ha:EO K E ta fa):QK K E (Lb ta) (ng fa):=by intro B Y O Z H ρ Q R w;refine ha B Y O Z H ρ _ R (w.bind.imp fun a f l x m j e h=> ?_);obtain⟨d,q,b⟩:=f.TB;obtain⟨i,g,b⟩:=b.TB;exact⟨i,Ob (j7 e h q) g,b l m j e⟩
def Qx (K:Ld) (r:V->Option Int->Option Int->Hp->VK->Prop) (f:D->Option Int->Option Int->Option RV):Prop:=∀(O:cc) (H:Hp) (x:V) (lo hi:Option Int) (dx:D) (rv:RV) (Q:VK),nI O H->DX O K H x dx->f dx lo hi=lD rv->Fin O K H Q rv->r x lo hi H Q
def Lm (f:D->Option Int->Option Int->Option RV) (fa:FE) (b e:FO):FE:=fun ρ=>(fa ρ).bind fun a=>(b a.2).bind fun l=>(e l.2).bind fun h=>(Res.TB (rX h.2 (bS a.1))).bind fun dx=>(Res.TB (f dx l.1 h.1)).bind fun rv=> .ok (rv.pv,h.2)
theorem LS (u:Qx K r f) (ha:EO K E ta fa) (y:QK K E tl fl) (A:QK K E th fh):EO K E (RE r ta tl th) (Lm f fa fl fh):=by intro B Y O Z H ρ Q R w;refine ha B Y O Z H ρ _ R (w.bind.imp fun a m O1 x H1 G L t=> ?_);obtain⟨S,F,R2,q⟩:=gf L t;refine y B Y S Z H1 a.2 _ R2 (m.bind.imp fun l j P H3 i J=> ?_);refine A B Y P Z H3 l.2 _ J (j.bind.imp fun h b N U g e=> ?_);obtain⟨dx,n,b⟩:=b.TB;obtain⟨rv,o,b⟩:=b.TB;exact u N U x l.1 h.1 dx rv Q e.od (j7 e (q.keep (k6 a.1) (i.trans g)) n) o (ko e fun M v T C I p=>b M v T (G.trans (F.trans (i.trans (g.trans C)))) I p)
end
theorem xh {l:List α} (h:(l.set i x)[i]? =lD y):i<l.length:=by
 rw[T4] at h;rw[if_pos rfl] at h;split at h
 .assumption
 .cases h
section
variable {K:Ld} {E:XK} {B O U:cc} {Z H H':Hp} {Y:St} {ρ ρ':aY} {v:V}
theorem Rl.mut {i:Nat} {ds g:List D} {a:So} {f:List V} (R:Rl K B Z O Y H ρ) (hi:ρ[i]? =lD (lD (.ow ds))) (I:Y[i]? =lD (lD (.ref a))) (J:O a) (L:Z a=Sg) (hd:Ur O K H f g):
  Rl K B Z O Y (bx H a (.lst f)) (ρ.set i (lD (.ow g))):=by
 have ev:Ev O H O (bx H a (.lst f)):=Ev.mut J _;refine⟨fun b o e=>by rw[ay (bZ e L)];exact R.same b o e,R.bo,R.bd,fun b m=> ?_,by rw[TZ];exact R.len,fun j x l=> ?_,fun j k xs F w X T y r=> ?_⟩
 .by_cases e:b=a
  .rw[e,aG] at m;cases m
  .rw[ay e] at m;exact R.od b m
 .rcases cy l with⟨rfl,ee⟩|⟨XZ,l⟩
  .cases ee;exact⟨_,I,a,f,rfl,J,L,aG,hd.ev ev⟩
  .obtain⟨u,G,q⟩:=R.slot j x l
   refine⟨u,G,?_⟩;cases x with
   |fz d=>exact DV.ev ev q
   |pl i=>exact q
   |ow xs=>obtain⟨b,M,rfl,S,Q,P,N⟩:=q;have C:b≠a:=fun z=>XZ (R.one j i xs ds (.ref a) l hi (by rw[G,z]) I);exact⟨b,M,rfl,S,Q,by rw[ay C];exact P,N.ev ev⟩
 .have own:∀{j:Nat} {xs:List D},(ρ.set i (lD (.ow g)))[j]? =lD (lD (.ow xs))->∃F,ρ[j]? =lD (lD (.ow F)):=fun{j xs} h=>by
   rcases cy h with⟨rfl,_⟩|⟨_,h⟩
   .exact⟨_,hi⟩
   .exact⟨_,h⟩
  obtain⟨p,A⟩:=own X;obtain⟨n,t⟩:=own T;exact R.one j k p n w A t y r
theorem uq (h:n<1000000):n<SD:=SX h (by decide)
def zl:Option (Option PV)->Option (List D)
 |some (lD (.ow ds))=>lD ds
 |_=>Sg
theorem qh (h:zl o=lD ds):o=lD (lD (.ow ds)):=by
 unfold zl at h;split at h
 .cases h;rfl
 .cases h
def Hn (i:Nat) (fe:FE):FE:=fun ρ=>(Res.TB (zl ρ[i]?)).bind fun _=>(fe ρ).bind fun a=>(Res.TB (yZ a.2 a.1)).bind fun b=>(Res.TB (zl b.2[i]?)).bind fun ds=>
 if ds.length<1000000 then .ok (.fz .none,b.2.set i (lD (.ow (ds++[b.1])))) else .bad
theorem Hr (A:EO K E te fe):EO K E (PL K "list" wA (yr i) (jo te nk)) (Hn i fe):=by
 intro B Z O Y H ρ Q R w;obtain⟨L,q,w⟩:=w.TB;obtain⟨v,j,a,vs,rfl,X,T,C,S⟩:=R.slot i _ (qh q);refine⟨_,j,.inl ⟨rfl,_,Xa.of C⟩,?_⟩;refine A B Z O Y H ρ _ R (w.bind.imp fun b e O1 y H1 G M r=> ?_);obtain⟨⟨d,o⟩,p,e⟩:=e.TB;obtain⟨N,F,R2,J⟩:=t9 M r p;obtain⟨ds,f,e⟩:=e.TB;have f:=qh f;obtain⟨P,n,a',g,I,m,u,t,l⟩:=R2.slot i _ f;subst I;rw[j] at n;cases n;dsimp only at e;by_cases h:ds.length<1000000
 .rw[if_pos h] at e;refine⟨a,g,y,rfl,rfl,t,uq (by rw[l.length];exact h),?_⟩;exact e N .UT _ (G.trans (F.trans (Ev.mut m _))) (R2.mut f j m u (l.append (.cons J .nil))) .UT
 .rw[if_neg h] at e;exact e.elim
abbrev FG:=PV->aY->Res aY
abbrev Pu:=List D->aY->Res aY
def GO (K:Ld) (E:XK) (g:TG) (f:FG):Prop:=
 ∀(B:cc) (Z:Hp) (O:cc) (Y:St) (H:Hp) (ρ:aY) (v:V) (pv:PV) (Q:St->Hp->Prop),Rl K B Z O Y H ρ->Xn K Z O Y H ρ v pv->WR K E B Z (fun ρ'=>∀U σ' H',Ev O H U H'->Rl K B Z U σ' H' ρ'->Q σ' H') (f pv ρ)->g v Y H Q
def Qw (K:Ld) (E:XK) (g:Nm) (f:Pu):Prop:=
 ∀(B:cc) (Z:Hp) (O:cc) (Y:St) (H:Hp) (ρ:aY) (vs:List V) (ds:List D) (Q:St->Hp->Prop),Rl K B Z O Y H ρ->Ur O K H vs ds->WR K E B Z (fun ρ'=>∀U σ' H',Ev O H U H'->Rl K B Z U σ' H' ρ'->Q σ' H') (f ds ρ)->g vs Y H Q
theorem Rl.afK (R:Rl K B Z O Y H ρ) (h:DV O K H v d):Rl K B Z O (Y.set i (lD v)) H (ρ.set i (lD (.fz d))):=by
 refine⟨R.same,R.bo,R.bd,R.od,by rw[TZ,TZ];exact R.len,fun j x f=> ?_,fun j k xs n w l g b a=> ?_⟩
 .rcases cy f with⟨rfl,e⟩|⟨t,f⟩
  .cases e;have:=xh f;exact⟨v,by rw[T4,if_pos rfl,if_pos (by rw[R.len];exact this)],h⟩
  .obtain⟨u,r,q⟩:=R.slot j x f;exact⟨u,by rw[T4,if_neg (fun z=>t z.symm)];exact r,q⟩
 .rcases cy l with⟨rfl,m⟩|⟨p,l⟩
  .cases m
  .rcases cy g with⟨rfl,m⟩|⟨o,g⟩
   .cases m
   .rw[T4,if_neg (fun z=>p z.symm)] at b;rw[T4,if_neg (fun z=>o z.symm)] at a;exact R.one j k xs n w l g b a
theorem Rl.aiL (R:Rl K B Z O Y H ρ) (h:Xn K Z O Y H ρ v (.ow ds)):Rl K B Z O (Y.set i (lD v)) H (ρ.set i (lD (.ow ds))):=by
 obtain⟨a,vs,rfl,I,G,F,C,p⟩:=h;refine⟨R.same,R.bo,R.bd,R.od,by rw[TZ,TZ];exact R.len,fun j x m=> ?_,fun j k xs o w A l f b=> ?_⟩
 .rcases cy m with⟨rfl,e⟩|⟨M,m⟩
  .cases e;have:=xh m;exact⟨.ref a,by rw[T4,if_pos rfl,if_pos (by rw[R.len];exact this)],a,vs,rfl,I,G,F,C⟩
  .obtain⟨u,t,r⟩:=R.slot j x m;exact⟨u,by rw[T4,if_neg (fun z=>M z.symm)];exact t,r⟩
 .rcases cy A with⟨rfl,L⟩|⟨q,g⟩
  .rcases cy l with⟨rfl,J⟩|⟨n,l⟩
   .rfl
   .rw[T4,if_neg (fun z=>n z.symm)] at b
    rcases cy f with⟨_,e⟩|⟨z,_⟩
    .cases e;exact absurd b (p k o l)
    .exact absurd rfl z
  .have y:=g
   rw[T4,if_neg (fun z=>q z.symm)] at f;rcases cy l with⟨rfl,L⟩|⟨n,l⟩
   .rcases cy b with⟨_,e⟩|⟨z,_⟩
    .cases e;exact absurd f (p j xs g)
    .exact absurd rfl z
   .rw[T4,if_neg (fun z=>n z.symm)] at b;exact R.one j k xs o w g l f b
def gN (i:Nat):FG:=fun pv ρ=>match pv with
 | .ow ds=> .ok (ρ.set i (lD (.ow ds)))
 | .fz d=> .ok (ρ.set i (lD (.fz d)))
 | .pl j=>(Res.TB (yZ ρ (.pl j))).bind fun b=> .ok (b.2.set i (lD (.fz b.1)))
theorem bw:GO K E (xL i) (gN i):=by
 intro B Z O Y H ρ v pv Q R p w;cases pv with
 |ow ds=>exact w O _ H .refl (R.aiL p)
 |fz d=>exact w O _ H .refl (R.afK p)
 |pl j=>obtain⟨⟨d,a⟩,q,w⟩:=WR.TB (show WR K E B Z _ ((Res.TB (yZ ρ (.pl j))).bind fun b=> .ok (b.2.set i (lD (.fz b.1)))) from w);obtain⟨g,e,R2,f⟩:=t9 R p q;exact w g _ H e (R2.afK f)
def Lo:Pu:=fun ds ρ=>match ds with
 |[]=> .ok ρ
 |_=> .bad
def BU (f:FG) (g:Pu):Pu:=fun ds ρ=>match ds with
 |[]=> .bad
 |d::r=>(f (.fz d) ρ).bind fun a=>g r a
theorem u8:Qw K E Ot Lo:=by
 intro B Z O Y H ρ vs ds Q R a w;cases a with
 |nil=>exact⟨rfl,w O Y H .refl R⟩
 |cons _ _=>exact w.elim
theorem jT (o:GO K E t f) (n:Qw K E u g):Qw K E (Hv t u) (BU f g):=by
 intro B Z O Y H ρ vs ds Q R r w;cases r with
 |nil=>exact w.elim
 |cons m l=>rename_i v vs d ds;refine⟨_,_,rfl,o B Z O Y H ρ _ (.fz d) _ R m (WR.imp (WR.bind w) fun e j C b G h y=> ?_)⟩;exact n B Z C b G e _ _ Q y (l.ev h) (j.imp fun i q A a F p R2=>q A a F (h.trans p) R2)
def RL:D->Option (List D)
 | .tuple ds=>lD ds
 |_=>Sg
theorem GP (h:DX O K H x d) (e:RL d=lD ds):∃a xs,x= .ref a/\XJ O K H a xs/\Ur O K H xs ds:=by
 cases d<;>cases e;cases h with
 |tup h b=>exact⟨_,_,rfl,h,b⟩
def gT (n:Nat) (f:Pu):FG:=fun pv ρ=>(Res.TB (rX ρ pv)).bind fun d=>(Res.TB (RL d)).bind fun ds=>if ds.length=n then f ds ρ else .bad
theorem v5 (h:Qw K E t f):GO K E (MX K n t) (gT n f):=by
 intro B Z O Y H ρ v pv Q R p w;obtain⟨d,g,w⟩:=w.TB;obtain⟨ds,e,w⟩:=w.TB;obtain⟨a,xs,rfl,i,b⟩:=GP (j7 R p g) e;by_cases hn:ds.length=n
 .rw[if_pos hn] at w;exact⟨a,xs,rfl,i.1,b.length.trans hn,h B Z O Y H ρ xs ds Q R b w⟩
 .rw[if_neg hn] at w;exact w.elim
inductive Fl where
 |nx (ρ:aY)
 |rt (rv:RV)
 |bk (ρ:aY)
 |ct (ρ:aY)
abbrev FS:=aY->Res Fl
def abF (K:Ld) (B:cc) (Z:Hp) (O:cc) (H:Hp) (D:Ends):Fl->Prop
 | .nx ρ'=>∀U σ' H',Ev O H U H'->Rl K B Z U σ' H' ρ'->D.nx σ' H'
 | .bk ρ'=>∀U σ' H',Ev O H U H'->Rl K B Z U σ' H' ρ'->D.bk σ' H'
 | .ct ρ'=>∀U σ' H',Ev O H U H'->Rl K B Z U σ' H' ρ'->D.ct σ' H'
 | .rt rv=>Fin B K Z D.rt rv
def SO (K:Ld) (E:XK) (t:TS) (g:FS):Prop:=
 ∀(B:cc) (Z:Hp) (O:cc) (Y:St) (H:Hp) (ρ:aY) (D:Ends),Rl K B Z O Y H ρ->WR K E B Z (abF K B Z O H D) (g ρ)->t D Y H
theorem abF.ev {D:Ends} (e:Ev O H O1 H1) (h:abF K B Z O H D fl):abF K B Z O1 H1 D fl:=by
 cases fl with
 |nx ρ'=>exact fun U a H' b f=>h U a H' (e.trans b) f
 |bk ρ'=>exact fun U a H' b f=>h U a H' (e.trans b) f
 |ct ρ'=>exact fun U a H' b f=>h U a H' (e.trans b) f
 |rt rv=>exact h
def fO:FS:=fun ρ=> .ok (.nx ρ)
def ck (f g:FS):FS:=fun ρ=>(f ρ).bind fun a=>match a with
 | .nx ρ1=>g ρ1
 |a=> .ok a
def rS (f:FE):FS:=fun ρ=>(f ρ).bind fun a=> .ok (.nx a.2)
def fV (f:FE) (g:FG):FS:=fun ρ=>(f ρ).bind fun a=>(g a.1 a.2).bind fun b=> .ok (.nx b)
def nK (c:FT) (f g:FS):FS:=fun ρ=>(c ρ).bind fun a=>if a.1=Si then f a.2 else g a.2
def DM (ρ:aY):PV->Option RV
 | .fz d=>lD (.fz d)
 | .ow ds=>lD (.ow ds)
 | .pl i=>match ρ[i]? with
  |some (lD (.fz d))=>lD (.fz d)
  |some (lD (.ow ds))=>lD (.ow ds)
  |_=>Sg
def eO (f:FE):FS:=fun ρ=>(f ρ).bind fun a=>(Res.TB (DM a.2 a.1)).bind fun rv=> .ok (.rt rv)
theorem J7:SO K E FH fO:=fun B Z O Y H ρ D R w=>w O Y H .refl R
theorem cj (j:SO K E t f) (i:SO K E u g):SO K E (JJ t u) (ck f g):=by
 intro B Z O Y H ρ D R w;refine j B Z O Y H ρ {D with nx:=u D} R (WR.imp (WR.bind w) fun h b=> ?_);cases h with
 |nx a=>exact fun n e o l m=>i B Z n e o a D m (WR.imp b fun h q=>q.ev l)
 |rt rv=>exact b
 |bk a=>exact b
 |ct a=>exact b
theorem wq (h:EO K E t f):SO K E (zb t) (rS f):=by intro B Z O Y H ρ D R w;exact h B Z O Y H ρ _ R (w.bind.imp fun a b i x j e g l=>b i Y j e g)
theorem i4 (h:EO K E t f) (m:GO K E g fg):SO K E (HC t g) (fV f fg):=by intro B Z O Y H ρ D R w;refine h B Z O Y H ρ _ R (w.bind.imp fun a j r x y o p l=> ?_);exact m B Z r Y y a.2 x a.1 _ p l (j.bind.imp fun e i q b u n R2=>i q b u (o.trans n) R2)
theorem PY (n:TTO K E c fc) (p:SO K E t f) (o:SO K E u g):SO K E (Nr c t u) (nK fc f g):=by
 intro B Z O Y H ρ D R w;refine n B Z O Y H ρ _ R (w.bind.imp fun a h l m i j=> ?_);obtain⟨b,e⟩:=a;cases b with
 |true=>exact p B Z l Y m e D j (WR.imp h fun r q=>q.ev i)
 |false=>exact o B Z l Y m e D j (WR.imp h fun r q=>q.ev i)
theorem M4 {pv:PV} (R:Rl K B Z O Y H ρ) (p:Xn K Z O Y H ρ v pv) (e:DM ρ pv=lD rv) (w:Fin B K Z Q rv):Q v H:=by
 have ow:∀{a:So} {vs:List V} {ds:List D},O a->Z a=Sg->H a=lD (.lst vs)->Ur O K H vs ds->Fin B K Z Q (.ow ds)->Q (.ref a) H:=fun{a vs ds} m l g f w=>
  w a vs H R.same l g (f.ev (Ev.sub fun b z=>z.elim (R.bo b) fun e=>by rw[e];exact m))
 have fz:∀{d:D},DV O K H v d->Fin B K Z Q (.fz d)->Q v H:=fun{d} h w=>w v H R.same (h.ev (Ev.sub R.bo));cases pv with
 |fz d=>cases e;exact fz p w
 |ow ds=>cases e;obtain⟨a,vs,rfl,m,l,g,f,y⟩:=p;exact ow m l g f w
 |pl i=>
  have t:=p;unfold DM at e;dsimp only at e;cases q:ρ[i]? with
  |none=>rw[q] at e;cases e
  |some o=>
   cases o with
   |none=>rw[q] at e;cases e
   |some x=>
    obtain⟨u,r,n⟩:=R.slot i x q;rw[t] at r;cases r;rw[q] at e;cases x with
    |fz d=>cases e;exact fz n w
    |ow ds=>cases e;obtain⟨a,vs,rfl,m,l,g,f⟩:=n;exact ow m l g f w
    |pl j=>exact n.elim
theorem jR (h:EO K E t f):SO K E (JR t) (eO f):=by intro B Z O Y H ρ D R w;refine h B Z O Y H ρ _ R (w.bind.imp fun a b j x l i g e=> ?_);obtain⟨rv,q,b⟩:=b.TB;exact M4 g e q b
def zP (K:Ld) (J:It) (O:cc) (H:Hp) (ds:List D):Prop:=∀U H',Ev O H U H'->nI U H'->
 (∀i,i<ds.length->J.go i H'/\∀x H'',J.yld i H' x H''->Uw H' H''/\∃d,ds[i]? =lD d/\DV U K H'' x d)/\J.stop ds.length H'
abbrev FI:=aY->Res (List D×aY)
def IO (K:Ld) (E:XK) (b:TI) (e:FI):Prop:=
 ∀(B:cc) (Z:Hp) (O:cc) (Y:St) (H:Hp) (ρ:aY) (a:It->Hp->Prop),Rl K B Z O Y H ρ->WR K E B Z (fun r=>∀U J H',Ev O H U H'->Rl K B Z U Y H' r.2->zP K J U H' r.1->a J H') (e ρ)->b Y H a
def pE (gt:FG) (b:FS):List D->FS
 |[],ρ=> .ok (.nx ρ)
 |d::r,ρ=>(gt (.fz d) ρ).bind fun a=>(b a).bind fun e=>match e with
  | .nx ρ2=>pE gt b r ρ2
  | .ct ρ2=>pE gt b r ρ2
  | .bk ρ2=> .ok (.nx ρ2)
  | .rt rv=> .ok (.rt rv)
def tK (e:FI) (gt:FG) (b:FS):FS:=fun ρ=>(e ρ).bind fun a=>pE gt b a.1 a.2
theorem z8 (hi:IO K E wi fi) (hg:GO K E g gt) (hb:SO K E tb b):SO K E (M0 wi g tb) (tK fi gt b):=by
 intro B Z O Y H ρ D R w;refine hi B Z O Y H ρ _ R (w.bind.imp fun a P I J H1 T X S=> ?_);obtain⟨ds,G⟩:=a;dsimp only at P S X;refine⟨fun i m f H'=>m=ds.length - i/\i<=ds.length/\∃O2 ρ2,Ev I H1 O2 H'/\Rl K B Z O2 f H' ρ2/\WR K E B Z (abF K B Z O H D) (pE gt b (ds.drop i) ρ2),⟨_,rfl,Th _,I,G,.refl,X,P⟩,?_⟩;rintro i m n N ⟨rfl,hi,O2,ρ2,e2,R2,w2⟩;obtain⟨go,o⟩:=S O2 N e2 R2.od;by_cases A:i<ds.length
 .obtain⟨g1,g2⟩:=go i A
  refine .inr ⟨g1,fun f H'=>i+1<=ds.length/\∃O2 ρ2,Ev I H1 O2 H'/\Rl K B Z O2 f H' ρ2/\WR K E B Z (abF K B Z O H D) (pE gt b (ds.drop (i+1)) ρ2),fun f H' ⟨h1,h2⟩=>⟨ds.length - (i+1),by omega,rfl,h1,h2⟩,fun x M y=> ?_⟩;obtain⟨Q,d,hd,dv⟩:=g2 x M y;have ed:ds.drop i=d::ds.drop (i+1):=by obtain⟨_,q⟩:=Sl.mp hd;rw[Vv A,q]
  rw[ed] at w2;have e3:Ev O2 N O2 M:=Ev.grow Q;refine hg B Z O2 n M ρ2 x (.fz d) _ (R2.grow Q) dv (WR.imp (WR.bind w2) fun F w3 O4 C H4 e4 R4=> ?_);have l:=e2.trans (e3.trans e4);refine hb B Z O4 C H4 F _ R4 (WR.imp (WR.bind w3) fun fl u=> ?_);cases fl with
  |nx h=>exact fun t j L p r=>⟨A,t,h,l.trans p,r,u⟩
  |ct h=>exact fun t j L p r=>⟨A,t,h,l.trans p,r,u⟩
  |bk h=>exact fun t j L p r=>u t j L (T.trans (l.trans p)) r
  |rt rv=>exact u
 .have e:i=ds.length:=by omega
  subst e;rw[UB (Sw _)] at w2;exact .inl ⟨o,w2 O2 n N (T.trans e2) R2⟩
def fA:D->Option (List D)
 | .tuple ds=>lD ds
 | .list ds=>lD ds
 |_=>Sg
def Fo (K:Ld) (e:TE):TI:=fun Y H R=>e Y H fun x b=>∃a,x= .ref a/\(((∃xs,Xa K b a xs)/\R (Rb K a) b)\/((∃xs,WZ K b a xs)/\R (Rf K a) b))
theorem eY (y:PE X l tl):PI X tg l (Fo X.K tl):=by
 intro i s Y H R I h;refine cz (y i s Y H _ I h) fun v g ⟨x,r,f,t,u⟩=> ?_;obtain⟨a,e,q⟩:=u;subst e;cases t;rcases q with⟨⟨xs,j⟩,q⟩|⟨⟨xs,j⟩,q⟩
 .obtain⟨n,rv,p,w⟩:=f.list j
  refine WO p.isList ?_;refine⟨g.heap.objs.size,[g.heap.objs.size],_,_,r,rfl,f.kept fun b o e=>Heap.get?_push_of_some _ e,Dz a _,⟨_,Heap.get?_push_size _ rfl,rfl,rfl⟩,fun b m=> ?_,q⟩;have e:b=g.heap.objs.size:=by simpa using m
  subst e;exact f.aax (Sw _) (f.T9.fresh (Sw _))
 .obtain⟨n,rv,p,w⟩:=f.tuple j
  refine Yo (show g.heap.IsTuple a n.toArray from p) ?_;refine⟨g.heap.objs.size,[g.heap.objs.size],_,_,r,rfl,f.kept fun b o e=>Heap.get?_push_of_some _ e,AI a _,⟨_,Heap.get?_push_size _ rfl,rfl,rfl⟩,fun b m=> ?_,q⟩;have e:b=g.heap.objs.size:=by simpa using m
  subst e;exact f.aax (Sw _) (f.T9.fresh (Sw _))
theorem Bi (h:Y2 O K H a xs) (hd:Ur O K H xs ds):zP K (Rb K a) O H ds:=by intro U H' e n;have f:=h.ev e;have b:=hd.ev e;refine⟨fun i hi=> ?_,⟨xs,f.1.sq,by rw[hd.length];exact Sw _⟩⟩;obtain⟨x,l,_⟩:=b.get (SI hi);refine⟨⟨xs,x,f.1.sq,l⟩,?_⟩;rintro y m ⟨rfl,hy⟩;obtain⟨d,j,g⟩:=b.ad2 (hy xs f.1.sq);exact⟨Uw.refl _,d,j,g⟩
theorem FD (h:XJ O K H a xs) (hd:Ur O K H xs ds):zP K (Rf K a) O H ds:=by intro U H' e n;have f:=h.ev e;have b:=hd.ev e;refine⟨fun i hi=> ?_,⟨xs,f.1,by rw[hd.length];exact Sw _⟩⟩;obtain⟨x,l,_⟩:=b.get (SI hi);refine⟨⟨xs,x,f.1,l⟩,?_⟩;rintro y m ⟨rfl,hy⟩;obtain⟨d,j,g⟩:=b.ad2 (hy xs f.1);exact⟨Uw.refl _,d,j,g⟩
def ji (fe:FE):FI:=fun ρ=>(fe ρ).bind fun a=>(Res.TB (yZ a.2 a.1)).bind fun b=>(Res.TB (fA b.1)).bind fun ds=> .ok (ds,b.2)
theorem gD (h:EO K E tl fe):IO K E (Fo K tl) (ji fe):=by
 intro B Z O Y H ρ r R w;refine h B Z O Y H ρ _ R (w.bind.imp fun a b t x l i p n=> ?_);obtain⟨⟨d,m⟩,q,b⟩:=b.TB;obtain⟨j,g,R2,o⟩:=t9 p n q;obtain⟨ds,e,b⟩:=b.TB;dsimp only at e;cases o with
 |tup h f=>cases e;exact⟨_,rfl,.inr ⟨⟨_,h.1⟩,b j _ l (i.trans g) R2 (FD h f)⟩⟩
 |lst h f=>cases e;exact⟨_,rfl,.inl ⟨⟨_,h.1.sq⟩,b j _ l (i.trans g) R2 (Bi h f)⟩⟩
 |_=>cases e
def gy (lo:Int) (n:Nat):List D:=(S6 n).map fun(k:Nat)=> .int (lo+(k:Int))
theorem Eh:zP K (QP lo n) O H (gy lo n):=by
 intro U H' e f;have a:(gy lo n).length=n:=by unfold gy;rw[Sj,TR]
 refine⟨fun i hi=> ?_,by show n<=_;rw[a];exact Sw _⟩;rw[a] at hi;refine⟨hi,?_⟩;rintro x b ⟨rfl,rfl⟩;exact⟨Uw.refl _,.int (lo+i),by unfold gy;rw[Sx,List.getElem?_range hi];rfl,.int _⟩
def lF (i:Int):Prop:= -(2^62)<=i/\i<2^62
noncomputable instance (i:Int):Decidable (lF i):=by unfold lF;infer_instance
def my:List D->Option (List D)
 |[.int j]=>if lF j then lD (gy 0 j.toNat) else Sg
 |_=>Sg
def tE (f:List D->Option (List D)) (fa:FA):FI:=fun ρ=>(fa ρ).bind fun a=>(Res.TB (tR a.2 a.1)).bind fun ds=>(Res.TB (f ds)).bind fun xs=> .ok (xs,a.2)
theorem jK (h:AO K E ta fa):IO K E (LW ta) (tE my fa):=by
 intro B Z O Y H ρ t R w;refine h B Z O Y H ρ _ R (w.bind.imp fun a e p vs r o g l=> ?_);obtain⟨ds,q,e⟩:=e.TB;obtain⟨xs,b,e⟩:=e.TB;have i:=wj g l q;unfold my at b;split at b
 .rename_i j
  split at b
  .rename_i f
   cases b;cases i with
   |cons n m=>cases m;cases n;exact⟨j,rfl,f.1,f.2,e p _ r o g Eh⟩
  .cases b
 .cases b
end
section
variable {K:Ld} {E:XK} {B O Y:cc} {X H H':Hp} {Z:St} {ρ ρ':aY} {v:V}
def Hj:Option PV->Option PV
 |some (.fz d)=>lD (.fz d)
 |_=>Sg
def cT (ρ:aY):aY:=ρ.map Hj
theorem AA {i:Nat} (h:(cT ρ)[i]? =lD (lD x)):∃d,x= .fz d/\ρ[i]? =lD (lD (.fz d)):=by
 unfold cT at h;rw[Sx] at h;cases q:ρ[i]? with
 |none=>rw[q] at h;cases h
 |some o=>
  rw[q] at h;have a:=SM h;unfold Hj at a;split at a
  .cases a;exact⟨_,rfl,rfl⟩
  .cases a
def uz (ρ:aY):List Nat->Option (List D×aY)
 |[]=>lD ([],ρ)
 |j::r=>match yZ ρ (.pl j) with
  |some (d,ρ1)=>(match uz ρ1 r with
   |some (c,ρ2)=>lD (d::c,ρ2)
   |none=>Sg)
  |none=>Sg
theorem DR (R:Rl K B X O Z H ρ) (h:yZ ρ (.pl i)=lD (d,ρ')):∃v,Z[i]? =lD (lD v):=by
 have a:toS ρ i ρ[i]? =lD (d,ρ'):=h;cases q:ρ[i]? with
 |none=>rw[q] at a;cases a
 |some o=>
  cases o with
  |none=>rw[q] at a;cases a
  |some x=>obtain⟨v,b,_⟩:=R.slot i x q;exact⟨v,b⟩
theorem x3:∀{f:List Nat} {ds:List D} {O:cc} {ρ ρ':aY},Rl K B X O Z H ρ->uz ρ f=lD (ds,ρ')->∃Y vs,Ev O H Y H/\Rl K B X Y Z H ρ'/\Ur Y K H vs ds/\f.map (fun j=>(Z[j]?).join)=vs.map lD
 |[],_,O,_,_,R,e=>by cases e;exact⟨O,[],.refl,R,.nil,rfl⟩
 |j::r,_,O,ρ,ρ',R,e=>by
  unfold uz at e;cases q:yZ ρ (.pl j) with
  |none=>rw[q] at e;cases e
  |some p=>
   obtain⟨d,a⟩:=p;rw[q] at e;dsimp only at e;cases q2:uz a r with
   |none=>rw[q2] at e;cases e
   |some i=>obtain⟨c,h⟩:=i;rw[q2] at e;cases e;obtain⟨v,b⟩:=DR R q;obtain⟨w,m,t,o⟩:=t9 (pv:= .pl j) R b q;obtain⟨u,vs,g,R2,n,l⟩:=x3 t q2;exact⟨u,v::vs,m.trans g,R2,.cons (o.ev g) n,by rw[SN,SN,l,b];rfl⟩
def dS (gt:FG) (ft:FT) (fe:FE):List D->aY->List D->Res (List D)
 |[],_,acc=> .ok acc
 |d::r,ρ,acc=>(gt (.fz d) ρ).bind fun e=>(ft e).bind fun b=>if b.1=Si then(fe b.2).bind fun a=>(Res.TB (yZ a.2 a.1)).bind fun x=>
   if acc.length<1000000 then dS gt ft fe r (cT x.2) (acc++[x.1]) else .bad
  else dS gt ft fe r (cT b.2) acc
def kJ:Res α->Res α
 | .er _=> .bad
 |r=>r
def fC (n:Nat) (b:List Nat) (e:FI) (gt:FG) (ft:FT) (fe:FE):FE:=fun ρ=>(e ρ).bind fun a=>(Res.TB (uz a.2 b)).bind fun c=>
 (kJ (dS gt ft fe a.1 (Sz n Sg++c.1.map fun d=>lD (.fz d)) [])).bind fun xs=> .ok (.ow xs,c.2)
theorem CY {own:List Str} (h:own.length=n):own.map (fun _=>(Sg:Option V))=Sz n Sg:=by
 subst h
 induction own with
 |nil=>rfl
 |cons x r a=>rw[SN,a,SJ,TK]
theorem BB (h:WR K E B X P (kJ r)):∃a,r= .ok a/\P a:=by
 cases r with
 |ok a=>exact⟨a,rfl,h⟩
 |er x=>exact h.elim
 |bad=>exact h.elim
def Pk (K:Ld) (J:It) (O:cc) (H:Hp) (ds:List D):Prop:=∀Y H',Ev O H Y H'->Uw H H'->nI Y H'->
 (∀i,i<ds.length->J.go i H'/\∀x H'',J.yld i H' x H''->Uw H' H''/\∃d,ds[i]? =lD d/\DV Y K H'' x d)/\J.stop ds.length H'
def Rt (K:Ld) (E:XK) (b:TI) (e:FI):Prop:=
 ∀(B:cc) (X:Hp) (O:cc) (Z:St) (H:Hp) (ρ:aY) (a:It->Hp->Prop),Rl K B X O Z H ρ->WR K E B X (fun r=>∀Y J H',Ev O H Y H'->Rl K B X Y Z H' r.2->Pk K J Y H' r.1->a J H') (e ρ)->b Z H a
theorem IO.s (h:IO K E wi fi):Rt K E wi fi:=fun B X O Z H ρ f R w=>h B X O Z H ρ f R (w.imp fun r q Y J H' e R a=>q Y J H' e R fun g i b _ n=>a g i b n)
theorem GK (hn:own.length=n) (hf:fv.map (·.2)=fj)
  (hi:Rt K E wi fi) (hg:GO K E0 g gt) (ht:TTO K E0 tc ft) (he:EO K E0 te fe):EO K E (zd own fv wi g tc te) (fC n fj fi gt ft fe):=by
 intro B X O Z H ρ Q R w;refine hi B X O Z H ρ _ R (w.bind.imp fun a w1 O1 J H1 e1 R1 it=> ?_);obtain⟨ds,ρ1⟩:=a;obtain⟨⟨cs,ρ2⟩,qc,w1⟩:=w1.TB;dsimp only at qc it;obtain⟨I,vs,e2,R2,dvs,hvs⟩:=x3 R1 qc;obtain⟨xs,qx,w1⟩:=BB (WR.bind w1);intro l F;have hB:∀{H':Hp},Uw H1 H'->H' l≠Sg->∀a,cQ I l a->H' a≠Sg:=fun{H'} s nd a h z=>h.elim (fun q=>R2.od a (s.free z) q) fun e=>nd (by rw[<-e];exact z);refine⟨fun i m L H'=>m=ds.length - i/\i<=ds.length/\∃(A:List D) (G:List V) (t:aY),Uw H1 H'/\H' l=lD (.lst G)/\Ur (cQ I l) K H' G A/\L.length=t.length/\(∀(j:Nat) (x:PV),t[j]? =lD (lD x)->∃d u,x=PV.fz d/\L[j]? =lD (lD u)/\DV (cQ I l) K H' u d)/\dS gt ft fe (ds.drop i) t A= .ok xs,
  ⟨_,rfl,Th _,[],[],_,b4 F _,aG,.nil,?_,fun j x M=> ?_,qx⟩,?_⟩
 .unfold iR;rw[Su,Su,Sj,Sj,Tj,Sj,hn,<-dvs.length];have:=congrArg WW hvs;rw[Sj,Sj,<-hf,Sj] at this;omega
 .have hm:fv.map (fun p=>(Z[p.2]?).join)=vs.map lD:=by rw[<-hvs,<-hf,Tr];rfl
  unfold iR;rw[CY hn,hm];by_cases hj:j<n
  .rw[SG (by rw[Tj];exact hj),U2,if_pos hj] at M;cases M
  .rw[Tb (by rw[Tj];omega),Tj,Sx] at M⊢
   cases qd:cs[j - n]? with
   |none=>rw[qd] at M;cases M
   |some d=>rw[qd] at M;cases M;obtain⟨u,hu,du⟩:=dvs.get qd;exact⟨d,u,rfl,by rw[hu];rfl,du.ev (Ev.add (b4 F _) F)⟩
 .rintro i m L H' ⟨rfl,hi,A,G,t,s,hD,dys,hl,hsl,f⟩
  have nD:H' l≠Sg:=by rw[hD];simp
  have no':=fun a z h=>hB s nD a h z;have ev1:=e2.trans (Ev.add s F);obtain⟨go,stop⟩:=it (cQ I l) H' ev1 s no';by_cases WT:i<ds.length
  .obtain⟨g1,g2⟩:=go i WT
   refine .inr ⟨g1,fun C N=>i+1<=ds.length/\∃(A:List D) (G:List V) (t:aY),Uw H1 N/\N l=lD (.lst G)/\Ur (cQ I l) K N G A/\C.length=t.length/\(∀(j:Nat) (x:PV),t[j]? =lD (lD x)->∃d u,x=PV.fz d/\C[j]? =lD (lD u)/\DV (cQ I l) K N u d)/\dS gt ft fe (ds.drop (i+1)) t A= .ok xs,
    fun C N ⟨U,h2⟩=>⟨ds.length - (i+1),by omega,rfl,U,h2⟩,fun x H3 y=> ?_⟩
   obtain⟨s3,d,hd,dv⟩:=g2 x H3 y;have ed:ds.drop i=d::ds.drop (i+1):=by obtain⟨_,q⟩:=Sl.mp hd;rw[Vv WT,q]
   rw[ed] at f;have hD3:=s3 _ _ hD;have nD3:H3 l≠Sg:=by rw[hD3];simp
   have sv:=s.trans s3;have RC:Rl K (cQ I l) H3 (cQ I l) L H3 t:=⟨Uw.refl _,fun _ h=>h,hB sv nD3,fun a z h=>hB sv nD3 a h z,hl,fun j x M=>by obtain⟨d,u,rfl,U,h2⟩:=hsl j x M;exact⟨u,U,h2.ev (Ev.grow s3)⟩,fun j k xs G w hj=>by obtain⟨d,u,e,_⟩:=hsl j _ hj;cases e⟩;unfold dS at f;have back:∀{O5:cc} {C:St} {N:Hp} {P:aY} {H6:Hp},Rl K (cQ I l) H3 O5 C N P->(∀b o,b≠l->N b=lD o->H6 b=lD o)->C.length=(cT P).length/\∀(j:Nat) (x:PV),(cT P)[j]? =lD (lD x)->∃d u,x=PV.fz d/\C[j]? =lD (lD u)/\DV (cQ I l) K H6 u d:=fun{O5 C N P H6} T k=>by refine⟨by unfold cT;rw[Sj];exact T.len,fun j x M=> ?_⟩;obtain⟨d,rfl,hxx⟩:=AA M;obtain⟨u,U,h2⟩:=T.slot j _ hxx;refine⟨d,u,rfl,U,DV.ev (fun b o h n=>⟨k b o (fun e=>n (.inr e)) h,n⟩) (DV.ev (Ev.sub T.bo) h2)⟩
   refine hg _ _ _ L H3 t x (.fz d) _ RC dv ?_;cases qg:gt (.fz d) t with
   |er z=>rw[qg] at f;cases f
   |bad=>rw[qg] at f;cases f
   |ok ρ3=>
    rw[qg,Res.bind_ok] at f;intro O4 σ4 H4 e4 R4;refine ht _ _ _ σ4 H4 ρ3 _ R4 ?_;cases qt:ft ρ3 with
    |er z=>rw[qt] at f;cases f
    |bad=>rw[qt] at f;cases f
    |ok b=>
     obtain⟨b,ρ4⟩:=b;rw[qt,Res.bind_ok] at f;intro O5 N e5 T;cases b with
     |false=>rw[if_neg SH] at f⊢;obtain⟨l5,k5⟩:=back T fun b o _ h=>h;refine⟨WT,A,G,cT ρ4,sv.trans T.same,T.same _ _ hD3,?_,l5,k5,f⟩;exact dys.ev (Ev.grow (s3.trans T.same))
     |true=>
      rw[if_pos rfl] at f⊢;refine he _ _ _ σ4 N ρ4 _ T ?_;cases qe:fe ρ4 with
      |er z=>rw[qe] at f;cases f
      |bad=>rw[qe] at f;cases f
      |ok r=>
       rw[qe,Res.bind_ok] at f;intro O6 yv H6 e6 R6 p6;cases q7:yZ r.2 r.1 with
       |none=>rw[q7] at f;cases f
       |some xr=>
        obtain⟨xd,ρ7⟩:=xr;rw[q7] at f;obtain⟨O7,e7,R7,dv7⟩:=t9 R6 p6 q7;have hD7:=R7.same _ _ hD3;have S:(if A.length<1000000 then dS gt ft fe (ds.drop (i+1)) (cT ρ7) (A++[xd]) else .bad)= .ok xs:=f;by_cases hl6:A.length<1000000
        .rw[if_pos hl6] at S
         have up:∀b o,b≠l->H6 b=lD o->bx H6 l (.lst (G++[yv])) b=lD o:=fun b o hb h=>by rw[ay hb];exact h
         have cI:Ev (cQ I l) H6 (cQ I l) (bx H6 l (.lst (G++[yv]))):=fun b o h n=>⟨up b o (fun e=>n (.inr e)) h,n⟩;have aja:=dys.ev (Ev.grow (s3.trans R7.same));obtain⟨l5,k5⟩:=back R7 up;refine⟨G,hD7,uq (by rw[dys.length];exact hl6),WT,A++[xd],G++[yv],cT ρ7,fun b o h=> ?_,aG,?_,l5,k5,S⟩
         .rw[ay (bZ h F)];exact R7.same _ _ (sv _ _ h)
         .exact(aja.append (.cons (DV.ev (Ev.sub R7.bo) dv7) .nil)).ev cI
        .rw[if_neg hl6] at S;cases S
  .have e:i=ds.length:=by omega
   subst e;rw[UB (Sw _)] at f;have f:=f;cases f;refine .inl ⟨stop,?_⟩;refine w1 (cQ I l) (.ref l) H' (e1.trans ev1) (R2.add s F nD) ⟨l,G,rfl,.inr rfl,R2.adA F,hD,dys,fun k es hk z=> ?_⟩;obtain⟨u,U,b,us,e2,g1,g2,g3,g4⟩:=R2.slot k _ hk;rw[z] at U;cases U;cases e2;rw[F] at g3;cases g3
theorem dZ (hn:own.length=n) (e:fv.map (·.2)=fj)
  (hi:IO K E wi fi) (b:GO K E0 g gt) (a:TTO K E0 tc ft) (f:EO K E0 te fe):EO K E (zd own fv wi g tc te) (fC n fj fi gt ft fe):=GK hn e hi.s b a f
def fx (F:FN) (n:Nat) (fa:FA):FE:=fun ρ=>(fa ρ).bind fun a=>(Res.TB (pP a.2 a.1)).bind fun b=>if b.1.length=n then(kJ (F b.1)).bind fun rv=> .ok (rv.pv,b.2) else .bad
theorem kR (ha:AO K E ta fa):EO K E (jX (pp K n F) [] E0 ta) (fx F n fa):=by
 intro B X O Z H ρ Q R w;refine ha B X O Z H ρ _ R (w.bind.imp fun a g C vs G p t j=> ?_);obtain⟨⟨ds,f⟩,q,b⟩:=g.TB;obtain⟨y,o,R2,e⟩:=rz t j q;dsimp only at b;by_cases hn:ds.length=n
 .rw[if_pos hn] at b;obtain⟨rv,h,b⟩:=BB (WR.bind b);rw[S8];refine⟨e.length.trans hn,y,ds,fun a z l=>R2.od a l z,e,?_⟩;rw[h];exact ko R2 fun u v A m r i=>b u v A (p.trans (o.trans m)) r i
 .rw[if_neg hn] at b;exact b.elim
end
def ic (N:Nat) (g:FS):FN:=fun ds=>(g (ds.map (fun d=>lD (.fz d))++Sz (N - ds.length) Sg)).bind fun a=>match a with
 | .rt rv=> .ok rv
 | .nx _=> .ok (.fz .none)
 |_=> .bad
theorem Gh (g:∀a,B a->H a≠Sg) (l:Ur B K H vs ds):Rl K B H B (L2.start N vs) H (ds.map (fun d=>lD (.fz d))++Sz (N.length - ds.length) Sg):=by
 have n:=l.length;refine⟨Uw.refl _,fun _ h=>h,g,fun a z h=>g a h z,?_,fun i x m=> ?_,fun i j xs r w hi=> ?_⟩
 .unfold L2.start;rw[Su,Su,Sj,Sj,Tj,Tj,n]
 all_goals
  have b:∀{i:Nat} {x:PV},(ds.map (fun d=>lD (PV.fz d))++Sz (N.length - ds.length) Sg)[i]? =lD (lD x)->∃d,x= .fz d/\ds[i]? =lD d:=fun{i x} h=>by
   by_cases hi:i<ds.length
   .rw[SG (by rw[Sj];exact hi),Sx] at h
    cases q:ds[i]? with
    |none=>rw[q] at h;cases h
    |some d=>rw[q] at h;cases h;exact⟨d,rfl,rfl⟩
   .rw[Tb (by rw[Sj];omega),U2] at h;split at h<;>cases h
 .obtain⟨d,rfl,o⟩:=b m;obtain⟨v,f,p⟩:=l.get o;refine⟨v,?_,p⟩;have hi:=(Sl.mp f).1;unfold L2.start;rw[SG (by rw[Sj];exact hi),Sx,f];rfl
 .obtain⟨d,e,_⟩:=b hi;cases e
theorem RP (F:VT K x qual st f fd) (S:Vc N ps (az st)) (hn:ps.length=n)
  (r:∀(a:Sh) (A:Tc) (outer:List Env) (s:Sr) (H:Hp) (E:XK),UP k (A.deeper (S3 qual (az st) s.heap.objs.size f a))->
   ∃t,YM (gb dG P w K mg base N qual (az st) f a A outer s H E).nox (cg st) t/\SO K E t g):FnOk P w K mg base dG (k+1) f fd ps (pp K n (ic N.length g)):=by
 refine F.ok S (fun vs H Q E h=>h.1.trans hn.symm) (fun a A outer s H vs Q E l h=> ?_);obtain⟨t,i,j⟩:=r a A outer s H E l;obtain⟨v,B,ds,m,p,h⟩:=h;refine⟨t,i,j B H B _ H _ _ (Gh m p) (WR.imp (WR.bind h) fun o q=> ?_)⟩;cases o with
 |rt rv=>exact q
 |nx ρ=>exact fun y b u e R=>q .UT u R.same .UT
 |bk ρ=>exact q.elim
 |ct ρ=>exact q.elim
end L3
namespace L3
open PySem PySem.Spec PyProof.Rows L2
theorem OpR.or (h:OpR X f r) (h':OpR X f r'):OpR X f (fun x y H Q=>r x y H Q\/r' x y H Q):=by
 intro a s b H x y v u Q I g e q;rcases q with q|q
 .exact h a s b H x y v u Q I g e q
 .exact h' a s b H x y v u Q I g e q
theorem Mh (I:Inv X pins σ H s) (h:Ww X.K H l xs):xs.length<=SD/\∃(a:List Sh) (n:Nat),Vals xs a/\xs.length=a.length/\s.heap.get? l=lD {cls:= .type "list",data:= .seq a.toArray n}:=by
 rcases h with(h|⟨o,h⟩)|⟨a,n,h1,h2,h3⟩
 .exact I.adf h
 .obtain⟨_,z,a,n,r,e⟩:=I.T9 l _ h;exact⟨z,a,n,r,r.length,e⟩
 .exact⟨h2,a,n,h3,h3.length,I.XH _ _ h1⟩
def K9 (K:Ld):R2:=fun x y H Q=>∃l b xs zs,x= .ref l/\y= .ref b/\Ww K H l xs/\Ww K H b zs/\xs.length+zs.length<=SD/\∀p,H p=Sg->Q (.ref p) (bx H p (.lst (xs++zs)))
theorem KH:OpR X (Vj .Add) (K9 X.K):=by
 intro a s B H x y v u Q I j i h;obtain⟨l,b,xs,C,rfl,rfl,p,t,G,q⟩:=h;cases j;cases i;obtain⟨z,g,n,r,J,e⟩:=Mh I p;obtain⟨E,f,F,m,o,A⟩:=Mh I t;refine PySem.P.add_list e A ?_ (by rw[SE,SE];omega);have w:g.toArray++f.toArray=(g++f).toArray:=by simp
 rw[w];exact⟨.ref _,_,I.afS (r.append m) (by rw[Su];omega),rfl,q _ I.fresh⟩
def LP (K:Ld):R2:=fun x y H Q=>∃l k xs,x= .ref l/\y= .int k/\Ww K H l xs/\ -(2^63)<=k/\k<2^63/\xs.length*k.toNat<=SD/\
 ∀p,H p=Sg->Q (.ref p) (bx H p (.lst (Sz k.toNat xs).flatten))
theorem IQ:OpR X (Vj .Mult) (LP X.K):=by
 intro p s P H x y v u Q I G E h;obtain⟨l,k,xs,rfl,rfl,L,N,M,w,q⟩:=h;cases G;obtain⟨t,rfl⟩:=E;obtain⟨z,b,n,r,J,e⟩:=Mh I L;have f:b.toArray.size*k.toNat<=SD:=by rw[SE,<-J];exact w
 have g:¬b.toArray.size*k.toNat>(2^63 - 1)/8:=by
  have:(SD:Nat)<=(2^63 - 1)/8:=by decide
  omega
 have i:¬(!Builtin.List.listFitsIndex k)=Si:=by rw[fitsIndex_both N M];exact SH
 have j:¬Builtin.List.listTooLong (b.toArray.size*k.toNat)=Si:=by rw[xm f];exact SH
 have o:Xo (fun B A=>B++A) #[] (Sz (if b.toArray.isEmpty=Si then 0 else k.toNat) b.toArray)=(Sz k.toNat b).flatten.toArray:=by
  have O:=fun m=>by have:=nZ b m [];rw[Zn] at this;exact this
  rw[O];cases b with
  |nil=>simp
  |cons a R=>rw[if_neg (by simp)]
 refine abg (by decide) ⟨_,e,rfl⟩ (fun C=>Za C k t) noFill_list_mul F.fills_int_mul F.slot_int_rmul repeat_list F.slot_int_index.lookup
  (Wt F.slot_int_rmul (Za s k t) F.entry_int_rmul (F.args_int_rmul_2 _ _) (int___rmul___int_list k t l b.toArray n)
   ⟨e,rfl,⟨_,e,rfl⟩,Wt F.slot_list_mul ⟨_,e,rfl⟩ F.entry_list_mul (F.args_list_mul_2 _ _) (AutoListH.list___mul___list_int_3 l b.toArray n k t i g j) ⟨e,?_⟩⟩)
 rw[o];exact⟨.ref _,_,I.afS (r.rep k.toNat) (by rw[A0,Nat.mul_comm];exact w),rfl,q _ I.fresh⟩
section
variable {K:Ld}
def fI (g:Int->Int->Int):D->D->Option RV
 | .int i,.int j=>lD (.fz (.int (g i j)))
 |_,_=>Sg
def fB (g:Int->Int->Bool):D->D->Option RV
 | .int i,.int j=>lD (.fz (.bool (g i j)))
 |_,_=>Sg
def OQ (C:Int->Int->Bool) (g:Int->Int->Int):D->D->Option RV
 | .int i,.int j=>if C i j=Si then lD (.fz (.int (g i j))) else Sg
 |_,_=>Sg
theorem yE (h:fI g dx dy=lD rv):∃i j,dx= .int i/\dy= .int j/\rv= .fz (.int (g i j)):=by
 unfold fI at h;split at h
 .cases h;exact⟨_,_,rfl,rfl,rfl⟩
 .cases h
theorem Pb:nM K (zg fun i j=> .int (g i j)) (fI g):=by intro O H x y dx f rv Q n b a e q;obtain⟨i,j,rfl,rfl,rfl⟩:=yE e;cases b;cases a;exact⟨i,j,rfl,rfl,q.at (.int _)⟩
theorem Bs:nM K (zg fun i j=> .bl (g i j)) (fB g):=by
 intro O H x y dx f rv Q n b a e q;unfold fB at e;split at e
 .cases e;cases b;cases a;exact⟨_,_,rfl,rfl,q.at (.bl _)⟩
 .cases e
theorem EE (h:∀i j,C i j=Si->C' i j):nM K (rI C' fun i j=> .int (g i j)) (OQ C g):=by
 intro O H x y dx l rv Q n b a e q;unfold OQ at e;split at e
 .split at e
  .rename_i f;cases e;cases b;cases a;exact⟨_,_,rfl,rfl,h _ _ f,q.at (.int _)⟩
  .cases e
 .cases e
theorem Cl (h:DX O K H x (.list ds)):∃a xs,x= .ref a/\Ww K H a xs/\Ur O K H xs ds:=h
theorem D7 (h:DX O K H x (.tuple ds)):∃a xs,x= .ref a/\XJ O K H a xs/\Ur O K H xs ds:=GP h rfl
def Ls (K:Ld):R2:=fun x y H Q=>zg (fun i j=> .int (i+j)) x y H Q\/K9 K x y H Q\/Lj K x y H Q
theorem mO:OpR X (Vj .Add) (Ls X.K):=OpR.or N9 (OpR.or KH J3)
def dI:D->D->Option RV
 | .int i,.int j=>lD (.fz (.int (i+j)))
 | .list xs,.list ys=>if xs.length+ys.length<=1000000 then lD (.ow (xs++ys)) else Sg
 | .tuple xs,.tuple ys=>if xs≠[]/\xs.length+ys.length<=1000000 then lD (.fz (.tuple (xs++ys))) else Sg
 |_,_=>Sg
theorem sr (h:n<=1000000):n<=SD:=Tg h (by decide)
theorem Ur.ne (h:Ur O K H vs ds):vs=[]↔ds=[]:=by cases h<;>simp
theorem mF:nM K (Ls K) dI:=by
 intro O H x y dx r rv Q n m l e q;unfold dI at e;split at e
 .cases e;cases m;cases l;exact .inl ⟨_,_,rfl,rfl,q.at (.int _)⟩
 .split at e
  .rename_i h;cases e;obtain⟨a,xs,rfl,i,f⟩:=Cl m;obtain⟨b,j,rfl,o,g⟩:=Cl l;exact .inr (.inl ⟨a,b,xs,j,rfl,rfl,i,o,sr (by rw[f.length,g.length];exact h),Fin.new (f.append g) q⟩)
  .cases e
 .split at e
  .rename_i h;cases e;obtain⟨a,xs,rfl,i,f⟩:=D7 m;obtain⟨b,j,rfl,o,g⟩:=D7 l;refine .inr (.inr ⟨a,b,xs,j,rfl,rfl,i.1,o.1,fun z=>h.1 (f.ne.mp z),sr (by rw[f.length,g.length];exact h.2),fun z=> ?_,fun _=>Fin.acC (f.append g) n q⟩);have p:=g.ne.mp z;subst p;rw[S8] at q;exact q.at (.tup i f)
  .cases e
 .cases e
def Fd (K:Ld):R2:=fun x y H Q=>rI ac9 (fun i j=> .int (i*j)) x y H Q\/LP K x y H Q
theorem HW:OpR X (Vj .Mult) (Fd X.K):=OpR.or N6 IQ
def g7 (i:Int):Bool:=decide (-(2^64)<i/\i<2^64)
theorem rp (h:g7 i=Si): -(2^64)<i/\i<2^64:=of_decide_eq_true h
def De:D->D->Option RV
 | .int i,.int j=>if(g7 i||g7 j)=Si then lD (.fz (.int (i*j))) else Sg
 | .list xs,.int k=>if xs.length*k.toNat<=1000000/\ -(2^63)<=k/\k<2^63 then lD (.ow (Sz k.toNat xs).flatten) else Sg
 |_,_=>Sg
theorem KQ:nM K (Fd K) De:=by
 intro O H x y dx j rv Q n g f e q;unfold De at e;split at e
 .split at e
  .rename_i b
   cases e;cases g;cases f;refine .inl ⟨_,_,rfl,rfl,?_,q.at (.int _)⟩;rcases(Xw _ _).mp b with z|z
   .exact .inl (rp z)
   .exact .inr (rp z)
  .cases e
 .split at e
  .rename_i b;cases e;cases f;obtain⟨a,xs,rfl,i,h⟩:=Cl g;exact .inr ⟨a,_,xs,rfl,rfl,i,b.2.1,b.2.2,sr (by rw[h.length];exact b.1),Fin.new (h.flat _) q⟩
  .cases e
 .cases e
def tN:=fI fun i j=>i - j
theorem IG:nM K (zg fun i j=> .int (i - j)) tN:=Pb
def Nk (_ j:Int):Bool:=decide (0<j)
def tO:=OQ Nk fun i j=>i % j
theorem Iy:nM K (rI (fun _ j=>0<j) fun i j=> .int (i % j)) tO:=EE fun i j h=>of_decide_eq_true h
def Ox (_ j:Int):Bool:=decide (0<j/\j<2^128)
def DL:=OQ Ox fun i j=>i/j
theorem Jl:nM K (rI (fun _ j=>0<j/\j.natAbs.log2<9000) fun i j=> .int (i/j)) DL:=EE fun i j h=>by
 have a:=of_decide_eq_true h;refine⟨a.1,?_⟩;have b:j.natAbs<2^128:=by have:=a.2;omega
 have e:=(Nat.log2_lt (by omega)).mpr b;omega
def Ra (_ j:Int):Bool:=decide (0<=j)
def Rc:=OQ Ra fun i j=>i/2^j.toNat
def OO:=fB fun i j=>decide (i<j)
def QE:=fB fun i j=>decide (i<=j)
def HU:=fB fun i j=>decide (j<i)
def Rn:=fB fun i j=>decide (j<=i)
theorem zF:nM K (zg fun i j=> .bl (decide (i<j))) OO:=Bs
theorem MG:nM K (zg fun i j=> .bl (decide (i<=j))) QE:=Bs
theorem ML:nM K (zg fun i j=> .bl (decide (j<i))) HU:=Bs
theorem Gq:nM K (zg fun i j=> .bl (decide (j<=i))) Rn:=Bs
def jv (d:D):Bool:=d.canLay0&&decide (d.depth<=64)
def cY (d e:D):Option RV:=if(jv d&&e.canLay0)=Si then lD (.fz (.bool (Sk.eqv d e))) else Sg
def oY (d e:D):Option RV:=if(jv d&&e.canLay0)=Si then lD (.fz (.bool (!Sk.eqv d e))) else Sg
theorem jx:nM K (IU K Sq) cY:=by
 intro O H x y dx g rv Q n f b e q;unfold cY at e;split at e
 .rename_i a;cases e;unfold jv at a;simp only[S2,decide_eq_true_eq] at a;exact⟨dx,g,f.plain,b.plain,a.1.1,a.2,a.1.2,q.at (.bl _)⟩
 .cases e
theorem Ma:nM K (IU K Si) oY:=by
 intro O H x y dx g rv Q n f b e q;unfold oY at e;split at e
 .rename_i a;cases e;unfold jv at a;simp only[S2,decide_eq_true_eq] at a;exact⟨dx,g,f.plain,b.plain,a.1.1,a.2,a.1.2,q.at (.bl _)⟩
 .cases e
def mw:D->D->Option RV
 | .none,.none=>lD (.fz (.bool Si))
 |_,.none=>lD (.fz (.bool Sq))
 |_,_=>Sg
def lJ:D->D->Option RV
 | .none,.none=>lD (.fz (.bool Sq))
 |_,.none=>lD (.fz (.bool Si))
 |_,_=>Sg
theorem E7 (h:DX O K H x d) (hd:d≠ .none):x≠ .UT:=by
 cases d with
 |none=>exact absurd rfl hd
 |list ds=>obtain⟨a,xs,rfl,_⟩:=Cl h;simp
 |tuple ds=>obtain⟨a,xs,rfl,_⟩:=D7 h;simp
 |bool b=>cases h;simp
 |int b=>cases h;simp
 |str b=>cases h;simp
 |dict b=>cases h
theorem CO:nM K (fun x y H Q=>y= .UT/\Q (.bl (decide (x= .UT))) H) mw:=by
 intro O H x y dx g rv Q n b a e q;unfold mw at e;split at e
 .cases e;cases b;cases a;exact⟨rfl,q.at (.bl _)⟩
 .rename_i f;cases e;cases a;refine⟨rfl,?_⟩;rw[decide_eq_false (E7 b f)];exact q.at (.bl _)
 .cases e
theorem u6:nM K (fun x y H Q=>y= .UT/\Q (.bl (!decide (x= .UT))) H) lJ:=by
 intro O H x y dx g rv Q n b a e q;unfold lJ at e;split at e
 .cases e;cases b;cases a;exact⟨rfl,q.at (.bl _)⟩
 .rename_i f;cases e;cases a;refine⟨rfl,?_⟩;rw[decide_eq_false (E7 b f)];exact q.at (.bl _)
 .cases e
def KO (K:Ld) (neg:Bool):R2:=fun x y H Q=>∃d ds,L2.DV K H x d/\(L2.DV K H y (.list ds)\/L2.DV K H y (.tuple ds))/\d.canLay0=Si/\Sk.canLayAll0 ds=Si/\d.depth<=64/\Q (.bl (if neg then !(ds.any fun e=>Sk.eqv e d) else ds.any fun e=>Sk.eqv e d)) H
theorem vx (p:X.A.units+65<cLine):OpR X (Up .In) (KO X.K Sq):=by
 intro g s o H x y v u Q I l e h;obtain⟨d,ds,n,a,j,i,m,q⟩:=h;obtain⟨r,f⟩:=n.reads I l;have hm:min (Sk.depthAll ds) d.depth<=64:=Tg (Y9 _ _) m;rcases a with a|a
 .obtain⟨bs,b⟩:=a.reads I e;exact ahm b f i j (by omega) ⟨.bl _,H,I,rfl,q⟩
 .obtain⟨bs,b⟩:=a.reads I e;exact ahn b f i j (by omega) ⟨.bl _,H,I,rfl,q⟩
theorem KK (p:X.A.units+65<cLine):OpR X (Up .NotIn) (KO X.K Si):=by
 intro g s o H x y v u Q I l e h;obtain⟨d,ds,n,a,j,i,m,q⟩:=h;obtain⟨r,f⟩:=n.reads I l;have hm:min (Sk.depthAll ds) d.depth<=64:=Tg (Y9 _ _) m;rcases a with a|a
 .obtain⟨bs,b⟩:=a.reads I e;exact aho b f i j (by omega) ⟨.bl _,H,I,rfl,q⟩
 .obtain⟨bs,b⟩:=a.reads I e;exact ahp b f i j (by omega) ⟨.bl _,H,I,rfl,q⟩
def KR (d e:D):Option RV:=match fA e with
 |some ds=>if(jv d&&Sk.canLayAll0 ds)=Si then lD (.fz (.bool (ds.any fun e=>Sk.eqv e d))) else Sg
 |none=>Sg
def pA (d e:D):Option RV:=match fA e with
 |some ds=>if(jv d&&Sk.canLayAll0 ds)=Si then lD (.fz (.bool (!ds.any fun e=>Sk.eqv e d))) else Sg
 |none=>Sg
theorem G3 (a:DX O K H y e) (h:fA e=lD ds):L2.DV K H y (.list ds)\/L2.DV K H y (.tuple ds):=by
 unfold fA at h;split at h
 .cases h;exact .inr a.plain
 .cases h;exact .inl a.plain
 .cases h
theorem vO:nM K (KO K Sq) KR:=by
 intro O H x y dx h rv Q n f b e q;unfold KR at e;split at e
 .rename_i ds g
  split at e
  .rename_i a;cases e;unfold jv at a;simp only[S2,decide_eq_true_eq] at a;exact⟨dx,ds,f.plain,G3 b g,a.1.1,a.2,a.1.2,q.at (.bl _)⟩
  .cases e
 .cases e
theorem Ie:nM K (KO K Si) pA:=by
 intro O H x y dx h rv Q n f b e q;unfold pA at e;split at e
 .rename_i ds g
  split at e
  .rename_i a;cases e;unfold jv at a;simp only[S2,decide_eq_true_eq] at a;exact⟨dx,ds,f.plain,G3 b g,a.1.1,a.2,a.1.2,q.at (.bl _)⟩
  .cases e
 .cases e
def bj (d e:D):Option RV:=match fA d,e with
 |some ds,.int i=>(l9 ds i).map .fz
 |_,_=>Sg
theorem Gk (h:Ur O K H xs ds) (e:l9 ds i=lD d):∃v,l9 xs i=lD v/\DV O K H v d:=by
 unfold l9 at e⊢;rw[h.length];cases q:LU ds.length i with
 |none=>rw[q] at e;cases e
 |some j=>rw[q] at e;exact h.get e
theorem cD:nM K (QC K) bj:=by
 intro O H x y dx o rv Q n l m e q;unfold bj at e;split at e
 .rename_i ds i b
  cases m;cases qa:l9 ds i with
  |none=>rw[qa] at e;cases e
  |some d=>
   rw[qa] at e;cases e;unfold fA at b;split at b
   .cases b;obtain⟨a,xs,rfl,h,g⟩:=D7 l;obtain⟨v,f,j⟩:=Gk g qa;exact .inr (.inl ⟨a,xs,i,v,rfl,rfl,h.1,f,q.at j⟩)
   .cases b;obtain⟨a,xs,rfl,h,g⟩:=Cl l;obtain⟨v,f,j⟩:=Gk g qa;exact .inl ⟨a,xs,i,v,rfl,rfl,h.sq,f,q.at j⟩
   .cases b
 .cases e
def oB (xs:List D) (lo hi:Option Int):List D:=(xs.drop (HT.sIx xs.length 0 lo)).take (HT.sIx xs.length xs.length hi - HT.sIx xs.length 0 lo)
theorem Fk {lo hi:Option Int} (h:Ur O K H xs ds):Ur O K H (D0 xs lo hi) (oB ds lo hi):=by unfold D0 oB;rw[h.length];exact(h.drop _).take _
def kH (n:Nat) (lo hi:Option Int):Bool:=decide (HT.sIx n 0 lo=0/\HT.sIx n n hi=n)
def Od (K:Ld):V->Option Int->Option Int->Hp->VK->Prop:=fun x lo hi H Q=>Pt K x lo hi H Q\/OY K x lo hi H Q
theorem zE:MF X (Od X.K):=by
 intro a s b H x v f e lo hi g Q I i l pl j h;rcases h with h|h
 .exact Kn a s b H x v f e lo hi g Q I i l pl j h
 .exact L7 a s b H x v f e lo hi g Q I i l pl j h
def OS:D->Option Int->Option Int->Option RV
 | .list ds,lo,hi=>lD (.ow (oB ds lo hi))
 | .tuple ds,lo,hi=>if kH ds.length lo hi=Si then Sg else lD (.fz (.tuple (oB ds lo hi)))
 |_,_,_=>Sg
theorem qA:Qx K (Od K) OS:=by
 intro O H x lo hi dx rv Q n g e q;unfold OS at e;split at e
 .cases e;obtain⟨a,xs,rfl,f,b⟩:=Cl g;exact .inl ⟨a,xs,rfl,f.sq,Fin.new (Fk b) q⟩
 .split at e
  .cases e
  .rename_i h;cases e;obtain⟨a,xs,rfl,f,b⟩:=D7 g;refine .inr ⟨a,xs,rfl,f.1,fun z=>h ?_,Fin.acC (Fk b) n q⟩;unfold kH;rw[<-b.length];exact decide_eq_true z
 .cases e
def eU:List D->Option RV
 |[d]=>(match fA d with
  |some ds=>lD (.fz (.int ds.length))
  |none=>Sg)
 |_=>Sg
theorem ky:Gf K (fun xs H Q=>∃x n,xs=[x]/\MR K x H n/\Q (.int n) H) eU:=by
 intro O H xs ds rv Q n h e q;unfold eU at e;split at e
 .split at e
  .rename_i i f
   cases e;cases h with
   |cons b g=>
    cases g;unfold fA at f;split at f
    .cases f;obtain⟨a,xs,rfl,b,g⟩:=D7 b;exact⟨_,xs.length,rfl,.inr ⟨xs,b.1,rfl⟩,by rw[g.length];exact q.at (.int _)⟩
    .cases f;obtain⟨a,xs,rfl,b,g⟩:=Cl b;exact⟨_,xs.length,rfl,.inl ⟨xs,b.sq,rfl⟩,by rw[g.length];exact q.at (.int _)⟩
    .cases f
  .cases e
 .cases e
def pT:List D->Option RV
 |[.tuple ds]=>lD (.fz (.tuple ds))
 |[.list ds]=>lD (.fz (.tuple ds))
 |_=>Sg
theorem mV:Gf K (fun xs H Q=>∃p ys,xs=[.ref p]/\((Xa K H p ys/\∀l,H l=Sg->Q (.ref l) (bx H l (.tup ys)))\/(WZ K H p ys/\Q (.ref p) H))) pT:=by
 intro O H xs ds rv Q n g e q;unfold pT at e;split at e
 .cases e
  cases g with
  |cons b f=>cases f;obtain⟨a,xs,rfl,b,f⟩:=D7 b;exact⟨a,xs,rfl,.inr ⟨b.1,q.at (.tup b f)⟩⟩
 .cases e
  cases g with
  |cons b f=>cases f;obtain⟨a,xs,rfl,b,f⟩:=Cl b;exact⟨a,xs,rfl,.inl ⟨b.sq,Fin.acC f n q⟩⟩
 .cases e
def vt:List D->Option RV
 |[d]=>(fA d).map .ow
 |_=>Sg
theorem KL:Gf K (fun xs H Q=>∃p ys,xs=[.ref p]/\(Xa K H p ys\/WZ K H p ys)/\∀l,H l=Sg->Q (.ref l) (bx H l (.lst ys))) vt:=by
 intro O H xs ds rv Q n g e q;unfold vt at e;split at e
 .rename_i d
  cases g with
  |cons b f=>
   cases f;cases hs:fA d with
   |none=>rw[hs] at e;cases e
   |some h=>
    rw[hs] at e;cases e;unfold fA at hs;split at hs
    .cases hs;obtain⟨a,xs,rfl,b,f⟩:=D7 b;exact⟨a,xs,rfl,.inr b.1,Fin.new f q⟩
    .cases hs;obtain⟨a,xs,rfl,b,f⟩:=Cl b;exact⟨a,xs,rfl,.inl b.sq,Fin.new f q⟩
    .cases hs
 .cases e
def Ba:List D->Option RV
 |[.int i,.int j]=>lD (.fz (.int (if j>i then j else i)))
 |_=>Sg
theorem KN:Gf K (fun xs H Q=>∃i j,xs=[.int i,.int j]/\Q (.int (if j>i then j else i)) H) Ba:=by
 intro O H xs ds rv Q n b e q;unfold Ba at e;split at e
 .cases e
  cases b with
  |cons g a=>
   cases a with
   |cons a f=>cases f;cases g;cases a;exact⟨_,_,rfl,q.at (.int _)⟩
 .cases e
end
end L3
namespace PySem
open Sem (wp)
open AutoSeq1 (wpAny_loadPart')
open Builtin Builtin.Str
section
variable {prog:S0} {w:Tn} {A:Tc} {E:Sh->Sr->Prop} {s:Sr}
theorem nA (a:s.heap.IsTupleIter it t i) (j:s.heap.IsTuple t items) (h:items[i]? =lD x)
  (m:∀h',h'.IsTupleIter it t (i+1)->Heap.SameBut it s.heap h'->Q x {s with heap:=h'}):wpAny (model prog w) A (Builtin.SmallTypes.nextOf (.ref it)) Q E s:=by
 obtain⟨o,e,l,b⟩:=id a;obtain⟨n,f,_,p,g⟩:=j;unfold Builtin.SmallTypes.nextOf;refine Sf (UA a.typeIs F.slot_tuple_iterator_next
  (UI F.slot_tuple_iterator_next a.typeIs F.entry_tuple_iterator_next ?_ (F.args_tuple_iterator_next_1 _)))
 show wpAny _ _ (field (.ref it) 0>>=_) _ _ s;refine Sf (Tz e b rfl ?_);show wpAny _ _ (if(Sh.ref t==Sh.none)=Si then _ else _) _ _ s;rw[if_neg (show¬((Sh.ref t==Sh.none)=Si) from SH)];refine Sf (Tz e b rfl ?_);refine Sf (Uc f g ?_);simp only[Ua,h];refine Sf (Va e b (by simp) (Ss ⟨x,rfl,Ss (m _ ?_ (Heap.SameBut.update ..))⟩));exact⟨_,Heap.get?_update_self _ e (Obj.isFreed_of_fields (Obj.data_mapFields b _)),(Obj.cls_mapFields ..).trans l,by rw[Obj.data_mapFields b];simp[rawInt]⟩
theorem om (j:A.handled=Sg) (a:s.heap.IsTupleIter it t i) (m:s.heap.IsTuple t items) (l:items[i]? =Sg)
  (n:∀h' e,Heap.ExtBut it s.heap h'->(∃o,h'.get? e=lD o/\o.cls= .type "StopIteration")->E (.ref e) {s with heap:=h'}):wpAny (model prog w) A (Builtin.SmallTypes.nextOf (.ref it)) Q E s:=by
 obtain⟨o,f,r,h⟩:=id a;obtain⟨p,b,_,q,g⟩:=m;unfold Builtin.SmallTypes.nextOf;refine Sf (UA a.typeIs F.slot_tuple_iterator_next
  (UI F.slot_tuple_iterator_next a.typeIs F.entry_tuple_iterator_next ?_ (F.args_tuple_iterator_next_1 _)))
 show wpAny _ _ (field (.ref it) 0>>=_) _ _ s;refine Sf (Tz f h rfl ?_);show wpAny _ _ (if(Sh.ref t==Sh.none)=Si then _ else _) _ _ s;rw[if_neg (show¬((Sh.ref t==Sh.none)=Si) from SH)];refine Sf (Tz f h rfl ?_);refine Sf (Uc b g ?_);simp only[Ua,l];refine Sf (X6 (Sf (Va f h (by simp) ?_)));refine Sf ?_;simp only[newExc,newTuple];refine Sf (T5 ?_ (by size_fits));refine Sf (aab (by first|rfl|(simp only[firstArgMember];rfl)) ?_);refine T5 ?_ (by size_fits);simp only[raiseNew];refine Sf (wpAny_handled ?_)
 first|rw[show A.in1.handled=Sg from j]|rw[j]
 refine Sf (Ss (wpAny_throw ?_));exact n _ _ (((Heap.SameBut.update ..).extBut.push _).push _) ⟨_,Heap.get?_push_size _ rfl,rfl⟩
end
end PySem
namespace L3
open PySem PySem.Spec PyProof.Rows L2
theorem Jp (I:Inv X pins σ H s) (l:WZ X.K H a xs) (j:WZ X.K H a ys):xs=ys:=by
 obtain⟨g,i,⟨o,m,_,n,p⟩,_⟩:=I.tuple l;obtain⟨f,h,⟨r,b,_,t,e⟩,_⟩:=I.tuple j;rw[m] at b;cases b;rw[p] at e;have:g=f:=by
  have q:g.toArray=f.toArray:=by injection e
  simpa using q
 subst this;exact i.inj h
theorem DK {bs:List Bool} (r:Vals (bs.map V.bl) Tt) {i:Nat} (h:Tt[i]? =lD v):∃b,bs[i]? =lD b/\v= .bool b:=by
 have e:=r.length;rw[Sj] at e;have hi:i<bs.length:=by rw[e];exact(Sl.mp h).1
 obtain⟨u,a,f⟩:=r.get (by rw[Sx,SI hi];rfl);rw[h] at a;cases a;exact⟨bs[i],SI hi,f⟩
theorem Ao (bs:List Bool):((S6 bs.length).all fun i=>(bs[i]?).getD Si)=bs.all id:=by
 rw[VH,Vt,Vt];constructor
 .intro h b a;obtain⟨i,hi,e⟩:=List.mem_iff_getElem.mp a;have:=h i (U1.mpr hi);rw[SI hi,e] at this;exact this
 .intro h i hi;have hi:=U1.mp hi;rw[SI hi];exact h _ (Y4 hi)
section
variable {X:Cx}
theorem yJ (w:X.calm=Si):VR X (.builtin "all") (fun xs H Q=>∃(p:So) (bs:List Bool),xs=[.ref p]/\Xa X.K H p (bs.map V.bl)/\Q (.bl (bs.all id)) H):=by
 intro f s C H xs E Q I r h;obtain⟨l,bs,rfl,n,q⟩:=h;obtain⟨u,rfl,m⟩:=lU r;cases m;obtain⟨j,rv,pl,J⟩:=I.list n;have a:=rv.length;rw[Sj] at a;have B:l<s.heap.objs.size:=by obtain⟨_,_,e,_⟩:=pl;exact Heap.lt_size e
 refine call_all_walk (WO pl.isList ?_);refine⟨s.heap.objs.size,[s.heap.objs.size,l],[s.heap.objs.size],j.toArray.size,_,_,fun i=>(bs[i]?).getD Si,rfl,Walks.list (A:=X.A.in1) (I.ok.hd w) _ l (S1 B) j.toArray,
  ⟨⟨_,Heap.get?_push_size _ rfl,rfl,rfl⟩,pl.isList.push _⟩,fun i v G M N y g=> ?_,fun L F t=> ?_⟩
 .obtain⟨b,e,rfl⟩:=DK rv (by simpa using y);simp only[e,YQ] at g;exact Uz g
 .rw[SE,<-a,Ao];refine⟨.bl _,H,I.kept fun b o e=>t b o (fun hm=> ?_) (Heap.get?_push_of_some _ e),rfl,q⟩;rw[SQ.mp hm] at e;exact Ul _ (Heap.lt_size e)
end
section
variable {K:Ld}
def wy:List D->Option (List Bool)
 |[]=>lD []
 | .bool b::r=>(wy r).map (b::·)
 |_=>Sg
theorem B4:∀{xs:List V} {ds:List D} {bs:List Bool},Ur O K H xs ds->wy ds=lD bs->xs=bs.map V.bl
 |_,_,_,.nil,e=>by cases e;rfl
 |_,_,bs,.cons (ds:=r) h t,e=>by
  cases h with
  |bl b=>
   have a:(wy r).map (b::·)=lD bs:=e;cases q:wy r with
   |none=>rw[q] at a;cases a
   |some f=>rw[q] at a;cases a;rw[B4 t q];rfl
  |_=>cases e
def Gu:List D->Option RV
 |[.list ds]=>(wy ds).map fun bs=> .fz (.bool (bs.all id))
 |_=>Sg
theorem Hs:Gf K (fun xs H Q=>∃(p:So) (bs:List Bool),xs=[.ref p]/\Xa K H p (bs.map V.bl)/\Q (.bl (bs.all id)) H) Gu:=by
 intro O H xs ds rv Q n g e q;unfold Gu at e;split at e
 .rename_i h
  cases qs:wy h with
  |none=>rw[qs] at e;cases e
  |some bs=>
   rw[qs] at e;cases e;cases g with
   |cons f b=>cases b;obtain⟨a,i,rfl,f,b⟩:=Cl f;have:=B4 b qs;subst this;exact⟨a,bs,rfl,f.sq,q.at (.bl _)⟩
 .cases e
def oG:List D->Option (List Int)
 |[]=>lD []
 | .int b::r=>(oG r).map (b::·)
 |_=>Sg
theorem qM:∀{xs:List V} {ds:List D} {bs:List Int},Ur O K H xs ds->oG ds=lD bs->xs=bs.map V.int
 |_,_,_,.nil,e=>by cases e;rfl
 |_,_,bs,.cons (ds:=r) h t,e=>by
  cases h with
  |int b=>
   have a:(oG r).map (b::·)=lD bs:=e;cases q:oG r with
   |none=>rw[q] at a;cases a
   |some f=>rw[q] at a;cases a;rw[qM t q];rfl
  |_=>cases e
def Ai (x:Int):List Int->List Int
 |[]=>[x]
 |y::r=>if x<=y then x::y::r else y::Ai x r
def kX:List Int->List Int
 |[]=>[]
 |x::r=>Ai x (kX r)
theorem nQ (x:Int):∀l,(Ai x l).Perm (x::l)
 |[]=>YY _
 |y::r=>by
  unfold Ai;split
  .exact YY _
  .exact((nQ x r).cons y).trans (akz x y r)
theorem fq:∀l,(kX l).Perm l
 |[]=>YY _
 |x::r=>(nQ x _).trans ((fq r).cons x)
theorem ph (x:Int):∀l:List Int,l.Pairwise (·<=·)->(Ai x l).Pairwise (·<=·)
 |[],_=>by simp[Ai]
 |y::r,h=>by
  unfold Ai;obtain⟨f,g⟩:=Ub.mp h;split
  .rename_i a
   refine Ub.mpr ⟨fun z b=> ?_,h⟩;rcases SS.mp b with e|e
   .rw[e];exact a
   .have:=f z e;omega
  .rename_i a
   refine Ub.mpr ⟨fun z b=> ?_,ph x r g⟩;rcases SS.mp ((nQ x r).mem_iff.mp b) with e|e
   .rw[e];omega
   .exact f z e
theorem eG:∀l,(kX l).Pairwise (·<=·)
 |[]=>Xu
 |x::r=>ph x _ (eG r)
theorem k8 {l m:List Int} (e:l.Perm m) (f:l.Pairwise (·<=·)) (hm:m.Pairwise (·<=·)):l=m:=e.eq_of_pairwise (fun a b _ _ h g=>Int.le_antisymm h g) f hm
def vp:List D->Option RV
 |[.list ds]=>(match oG ds with
  |some a=>if a.length<64 then lD (.ow ((kX a).map .int)) else Sg
  |none=>Sg)
 |_=>Sg
theorem tm (a:List Int):Ur O K H (a.map V.int) (a.map .int):=by
 induction a with
 |nil=>exact .nil
 |cons n r b=>exact .cons (.int n) b
theorem ur:Gf K (fun xs H Q=>∃(p:So) (b:List Int),xs=[.ref p]/\Xa K H p (b.map V.int)/\b.length<64/\∀(l:So) (f:List Int),H l=Sg->f.Perm b->f.Pairwise (·<=·)->Q (.ref l) (bx H l (.lst (f.map V.int)))) vp:=by
 intro O H xs ds rv Q n g e q;unfold vp at e;split at e
 .rename_i o
  cases qs:oG o with
  |none=>rw[qs] at e;cases e
  |some b=>
   rw[qs] at e;dsimp only at e;split at e
   .rename_i h
    cases e;cases g with
    |cons j i=>cases i;obtain⟨a,t,rfl,j,i⟩:=Cl j;have:=qM i qs;subst this;refine⟨a,b,rfl,j.sq,h,fun l f h g m=> ?_⟩;have r:=k8 (g.trans (fq b).symm) m (eG b);subst r;exact Fin.new (tm _) q l h
   .cases e
 .cases e
end
def RM (K:Ld) (H:Hp) (x:V) (t:String):Prop:=match x with
 | .UT=>t= "NoneType"
 | .bl _=>t= "bool"
 | .int _=>t= "int"
 | .str _=>t= "str"
 | .ref a=>(t= "list"/\∃xs,Xa K H a xs)\/(t= "tuple"/\∃xs,WZ K H a xs)
 |_=>False
def LN (K:Ld):List V->Hp->VK->Prop:=fun xs H Q=>∃x n t b,xs=[x,.ty n]/\RM K H x t/\abZ K (.type t) (.type n)=lD b/\Q (.bl b) H
theorem DF {X:Cx}:VR X (.builtin "isinstance") (LN X.K):=by
 intro j s v H xs C Q I r h;obtain⟨x,n,t,b,rfl,ty,e,q⟩:=h;obtain⟨u,w,rfl,g,A⟩:=CG r;obtain rfl:w=Sh.type n:=A;have f:∀l,EP X j v Q (.bool b) {s with toks:=l}:=fun l=>⟨.bl b,H,I.tok l,rfl,q⟩;cases x with
 |UT=>cases(show t= "NoneType" from ty);cases(show u=Sh.none from g);exact Vx PySem.W.kitx_none I.XH True.intro e (fun z=>nomatch z) f
 |bl y=>cases(show t= "bool" from ty);cases(show u=Sh.bool y from g);exact Vx PySem.W.kitx_bool I.XH True.intro e (fun z=>nomatch z) f
 |int i=>cases(show t= "int" from ty);obtain⟨t,q⟩:=(show∃t,u=Sh.int i t from g);cases q;exact Vx PySem.W.kitx_int I.XH True.intro e (fun z=>nomatch z) f
 |str y=>cases(show t= "str" from ty);obtain⟨t,q⟩:=(show∃t,u=Sh.str y t from g);cases q;exact Vx PySem.W.kitx_str I.XH True.intro e (fun z=>nomatch z) f
 |ref a=>
  cases(show u=Sh.ref a from g);rcases ty with⟨rfl,xs,h⟩|⟨rfl,xs,h⟩
  .obtain⟨B,r,⟨o,k,p,m,_⟩,_⟩:=I.list h;exact Vx PySem.W.kitx_list I.XH ⟨_,p,m⟩ e (fun z=>nomatch z) f
  .obtain⟨B,r,⟨o,p,m,_⟩,_⟩:=I.tuple h;exact Vx PySem.W.kitx_tuple I.XH ⟨o,p,m⟩ e (fun z=>nomatch z) f
 |_=>exact(show False from ty).elim
section
variable {K:Ld} {E:XK} {B O O':cc} {H0 H H':Hp} {σ:L2.St} {ρ ρ':aY} {v:V}
def EC:D->Option String
 | .none=>lD "NoneType"
 | .bool _=>lD "bool"
 | .int _=>lD "int"
 | .str _=>lD "str"
 | .list _=>lD "list"
 | .tuple _=>lD "tuple"
 | .dict _=>Sg
def Js (n t:String):Bool:=n==t||(n== "int"&&t== "bool")
theorem KF {n t:String} (hn:n= "int"\/n= "bool"\/n= "str"\/n= "list"\/n= "tuple") {d:D} (a:EC d=lD t):abZ K (.type t) (.type n)=lD (Js n t):=by cases d<;>(cases a;try (rcases hn with rfl|rfl|rfl|rfl|rfl<;>rfl))
theorem OX {x:V} {d:D} {t:String} (h:DX O K H x d) (e:EC d=lD t):RM K H x t:=by
 cases d with
 |none=>cases e;cases h;rfl
 |bool b=>cases e;cases h;rfl
 |int b=>cases e;cases h;rfl
 |str b=>cases e;cases h;rfl
 |dict b=>cases e
 |list ds=>cases e;obtain⟨a,xs,rfl,f,_⟩:=Cl h;exact .inl ⟨rfl,xs,f.sq⟩
 |tuple ds=>cases e;obtain⟨a,xs,rfl,f,_⟩:=D7 h;exact .inr ⟨rfl,xs,f.1⟩
def Gd (n:String) (fa:FE):FE:=fun ρ=>(fa ρ).bind fun a=>(Res.TB (rX a.2 a.1)).bind fun d=>(Res.TB (EC d)).bind fun t=> .ok (.fz (.bool (Js n t)),a.2)
theorem Og {n:String} {ta:TE} {fa:FE} (hn:n= "int"\/n= "bool"\/n= "str"\/n= "list"\/n= "tuple") (ha:EO K E ta fa):EO K E (Kd (LN K) (jo ta (jo (tC (.ty n)) nk))) (Gd n fa):=by intro B H0 O σ H ρ Q R w;refine ha B H0 O σ H ρ _ R (w.bind.imp fun a b i x j h f g=> ?_);obtain⟨d,q,b⟩:=b.TB;obtain⟨t,e,b⟩:=b.TB;exact⟨x,n,t,Js n t,rfl,OX (j7 f g q) e,KF hn e,b i _ j h f (.bl _)⟩
end
theorem Dy {P:S0} {w:Tn} {K:Ld} {mg m:Str->Option Sh} {k:Nat} {fa a:So} {fd:TL} {x:Str} {F:FN} {b:Sr} {vs:List Sh} {f:List Int}
  (q:K.In b.heap) (g:b.heap.Ns SK mg) (C:b.heap.Ns builtinsNs m) (i:∀x:Str,x≠ "__name__"->m x=T1 x) (j:b.heap.NoLimit) (B:b.gens= #[])
  (ha:b.heap.get? a=lD {cls:= .type "list",data:= .seq vs.toArray}) (hi:IntsAre vs f) (p:f.length<=SD) (A:UP k callerA)
  (L:∀base:Heap,K.In base->base.Ns SK mg->FnOk P w K mg base dG k fa fd [x] (pp K 1 F)) (l:∀(s:Sr) (u:Sh),X5 s fd ⟨[u],[]⟩ [(x,u)])
  (I:F [.list (f.map .int)]= .ok (.fz (.bool Si))):
  codeAny (model P w) callerA (.call (.ref fa) ⟨[.ref a],[]⟩) (fun r s'=>r= .ok (.ret (.bool Si))/\OldK b.heap s'.heap/\s'.os=b.os/\AllBare s'.gens) b:=by
 refine EF (sp:=fun vs H Q E=>pp K 1 F vs H Q E\/(vs.length=1/\False)) q g C i j B ha hi p A (fun base y t=>(L base y t).imp fun vs H Q E h=> ?_) l (fun H M G=> ?_) fun _ _ _ h=>h
 .rcases h with h|h
  .exact h
  .exact h.2.elim
 .refine .inl ⟨rfl,noO,[.list (f.map .int)],fun a z=>z.elim,.cons (.lst ⟨?_,fun z=>z.elim⟩ (tm f)) .nil,?_⟩
  .rcases G with h|⟨o,Tt,n,h1,h2,h3,h4,h5,h6⟩
   .exact .inl h
   .have e:=q a o h1;rw[ha] at e;cases e;cases h4;exact .inr ⟨vs,0,h1,by rw[Sj];exact p,by simpa using h6⟩
  .rw[I];exact fun v N s J=>by cases J;rfl
theorem Px {l:abM} {n k:Nat} {q:S0} {i:List Str} {O:(Str->Option Sh)->Heap->Prop} {B:Tn->Heap->Prop} {d:DefRec} {K:Params->Ld} {F:FN} {x:Str}
  (hn:l.most=lD n) (m:n<=SD) (r:d.params.defaults=[]) (E:UP k callerA)
  (L:∀(w:Tn) (h:Heap),B w h->(K w.params).In h)
  (P:∀(w:Tn) (mg:Str->Option Sh) (fa:So) (h:Heap),(K w.params).In h->h.Ns SK mg->mg d.name=lD (.ref fa)->
   ∃fd:TL,(∀(s:Sr) (u:Sh),X5 s fd ⟨[u],[]⟩ [(x,u)])/\∀base:Heap,(K w.params).In base->base.Ns SK mg->FnOk l.prog w (K w.params) mg base dG k fa fd [x] (pp (K w.params) 1 F))
  (M:∀ns:List Int,ns.length<=n->F [.list (ns.map .int)]= .ok (.fz (.bool Si))):
  PySem.W.WalkO q i O B l.row.toRowW d [] (fun f vs=>ae8 f vs):=by
 refine Att.attach_call hn r fun w A y mg R fa o Q X N a vs ns G Y S U I p v j e H=> ?_;have C:=L w _ Y;obtain⟨fd,J,t⟩:=P w mg fa _ C G.T.g p;exact Dy C G.T.g G.T.b G.T.builtins G.T.nolimit H v j (Tg e m) E t J (M ns e)
theorem RZ {P:S0} {w:Tn} {K:Ld} {mg:Str->Option Sh} {base:Heap} {x a:Str} {st:UL} {f:So} {fd:TL} {N ps:List Str} {k n m:Nat} {g:FS} {e:FN} (F:VT K x a st f fd) (S:Vc N ps (az st)) (hn:ps.length=n) (hm:N.length=m) (h:e=ic m g)
  (i:∀(b:Sh) (A:Tc) (outer:List Env) (s:Sr) (H:Hp) (E:XK),UP k (A.deeper (S3 a (az st) s.heap.objs.size f b))->
   ∃t,YM (gb dG P w K mg base N a (az st) f b A outer s H E).nox (cg st) t/\SO K E t g):FnOk P w K mg base dG (k+1) f fd ps (pp K n e):=by
 subst h hm;exact RP F S hn i
abbrev je (P:S0) (w:Tn) (K:Ld) (mg:Str->Option Sh) (base:Heap) (k:Nat) (x:Str) (ps:List Str) (n:Nat) (F:FN):Prop:=xX P w K mg base k x ps (pp K n F)
end L3
namespace L3
open PySem L2
abbrev nd (n:Nat):D:= .int (n:Int)
def bp (a:List Nat):List D:=a.map nd
theorem eJ (a:List Nat):(bp a).length=a.length:=by unfold bp;rw[Sj]
theorem Ia (xs ys:List Nat):bp (xs++ys)=bp xs++bp ys:=by unfold bp;rw[S5]
theorem wC {i:Nat} (h:(bp ns)[i]? =lD d):∃n,ns[i]? =lD n/\d=nd n:=by
 unfold bp at h;rw[Sx] at h;cases e:ns[i]? with
 |none=>rw[e] at h;cases h
 |some n=>rw[e] at h;exact⟨n,rfl,(SM h).symm⟩
theorem aH (a:α):Res.TB (lD a)= .ok a:=rfl
theorem yR (a:α):kJ (Res.ok a)= .ok a:=rfl
theorem AN (i:Nat) (ρ:aY):aa i ρ=Cn ρ i ρ[i]? :=rfl
theorem GJ (ρ:aY) (i:Nat) (d:D):Cn ρ i (lD (lD (.fz d)))= .ok (.fz d,ρ):=rfl
theorem Hu (ρ:aY) (i:Nat) (ds:List D):Cn ρ i (lD (lD (.ow ds)))= .ok (.pl i,ρ):=rfl
theorem i8 (ds:List D):zl (lD (lD (.ow ds)))=lD ds:=rfl
theorem Gj (i:Nat) (d:D) (ρ:aY):gN i (.fz d) ρ= .ok (ρ.set i (lD (.fz d))):=rfl
theorem A5 (i:Int):Rk (.int i)=lD i:=rfl
theorem yH (b:Bool):Q1 (.bool b)=lD b:=rfl
theorem km (ds:List D):eU [.tuple ds]=lD (.fz (nd ds.length)):=rfl
theorem gz (ds:List D):eU [.list ds]=lD (.fz (nd ds.length)):=rfl
theorem ox (i j:Int):OO (.int i) (.int j)=lD (.fz (.bool (decide (i<j)))):=rfl
theorem F1 (i j:Int):QE (.int i) (.int j)=lD (.fz (.bool (decide (i<=j)))):=rfl
theorem C6 (i j:Int):HU (.int i) (.int j)=lD (.fz (.bool (decide (j<i)))):=rfl
theorem B6 (i j:Int):Rn (.int i) (.int j)=lD (.fz (.bool (decide (j<=i)))):=rfl
theorem jM (i j:Int):dI (.int i) (.int j)=lD (.fz (.int (i+j))):=rfl
theorem vG (i j:Int):tN (.int i) (.int j)=lD (.fz (.int (i - j))):=rfl
theorem wB (h:0<j):tO (.int i) (.int j)=lD (.fz (.int (i % j))):=by show(if Nk i j=Si then _ else _)=_;rw[if_pos (show Nk i j=Si from decide_eq_true h)]
theorem Gm (h:0<j/\j<2^128):DL (.int i) (.int j)=lD (.fz (.int (i/j))):=by show(if Ox i j=Si then _ else _)=_;rw[if_pos (show Ox i j=Si from decide_eq_true h)]
theorem Iv (h: -(2^64)<i/\i<2^64):De (.int i) (.int j)=lD (.fz (.int (i*j))):=by show(if(g7 i||g7 j)=Si then _ else _)=_;rw[if_pos (by rw[show g7 i=Si from decide_eq_true h,U9])]
theorem Jk (h: -(2^64)<j/\j<2^64):De (.int i) (.int j)=lD (.fz (.int (i*j))):=by show(if(g7 i||g7 j)=Si then _ else _)=_;rw[if_pos (by rw[show g7 j=Si from decide_eq_true h,WA])]
theorem Kw (h:lF j):my [.int j]=lD (gy 0 j.toNat):=by show(if lF j then _ else _)=_;rw[if_pos h]
theorem Ec (n:Nat):gy 0 n=bp (S6 n):=by unfold gy bp;apply Wu;intro k _;rw[Int.zero_add]
theorem p7 (h:n<=1000000):my [nd n]=lD (bp (S6 n)):=by rw[Kw (by unfold lF;omega),Ec,Ua]
theorem G8 (h:f ρ= .ok (.nx ρ1)):ck f g ρ=g ρ1:=by unfold ck;rw[h];rfl
theorem Gw (h:f ρ= .ok (.rt rv)):ck f g ρ= .ok (.rt rv):=by unfold ck;rw[h];rfl
theorem Q7 (h:c ρ= .ok (Si,ρ1)):nK c f g ρ=f ρ1:=by unfold nK;rw[h];rfl
theorem Q2 (h:c ρ= .ok (Sq,ρ1)):nK c f g ρ=g ρ1:=by unfold nK;rw[h];rfl
theorem Ay (h:fi ρ= .ok (ds,ρ1)):tK fi gt b ρ=pE gt b ds ρ1:=by unfold tK;rw[h];rfl
def kF (gt:FG) (ft:FT) (fe:FE) (d:D) (ρ:aY):Res (Option D×aY):=(gt (.fz d) ρ).bind fun e=>(ft e).bind fun b=>if b.1=Si then(fe b.2).bind fun a=>(Res.TB (yZ a.2 a.1)).bind fun x=> .ok (lD x.1,cT x.2) else .ok (Sg,cT b.2)
theorem sT (h:kF gt ft fe d ρ= .ok (o,ρ')) (g:acc.length<1000000):dS gt ft fe (d::r) ρ acc=dS gt ft fe r ρ' (acc++o.toList):=by
 unfold kF at h;show(gt (.fz d) ρ).bind _=_;cases q1:gt (.fz d) ρ with
 |er x=>rw[q1] at h;cases h
 |bad=>rw[q1] at h;cases h
 |ok f=>
  rw[q1,Res.bind_ok] at h;rw[Res.bind_ok];cases q2:ft f with
  |er x=>rw[q2] at h;cases h
  |bad=>rw[q2] at h;cases h
  |ok b=>
   obtain⟨b,e⟩:=b;rw[q2,Res.bind_ok] at h;rw[Res.bind_ok];cases b with
   |false=>rw[if_neg SH] at h⊢;cases h;rw[abh,S8]
   |true=>
    rw[if_pos rfl] at h⊢;cases q3:fe e with
    |er x=>rw[q3] at h;cases h
    |bad=>rw[q3] at h;cases h
    |ok a=>
     rw[q3,Res.bind_ok] at h;rw[Res.bind_ok];cases q4:yZ a.2 a.1 with
     |none=>rw[q4] at h;cases h
     |some x=>rw[q4] at h;cases h;show(if acc.length<1000000 then _ else _)=_;rw[if_pos g];rfl
theorem Nu (a c:Nat):Rc (nd a) (nd c)=lD (.fz (nd (a/2^c))):=by show(if Ra a (c:Int)=Si then lD (RV.fz (.int ((a:Int)/2^((c:Nat):Int).toNat))) else Sg)=_;rw[if_pos (by unfold Ra;exact decide_eq_true (by omega)),Ua];congr 3
theorem Nx (a b:Nat):decide ((a:Int)=(b:Int))=decide (a=b):=by
 by_cases h:a=b
 .rw[decide_eq_true h,decide_eq_true (by rw[h])]
 .rw[decide_eq_false h,decide_eq_false (by omega)]
theorem Fj (a b:Nat):Sk.eqv (nd a) (nd b)=decide (a=b):=Nx a b
theorem qI (a b:Int):cY (.int a) (.int b)=lD (.fz (.bool (decide (a=b)))):=by rfl
theorem vX (a b:Int):oY (.int a) (.int b)=lD (.fz (.bool (!decide (a=b)))):=by rfl
theorem gW:∀ns:List Nat,Sk.canLayAll0 (bp ns)=Si
 |[]=>rfl
 |n::r=>by show(Sk.canLay0 (nd n)&&Sk.canLayAll0 (bp r))=Si;rw[gW r];rfl
theorem jB:∀ns:List Nat,Sk.depthAll (bp ns)=0
 |[]=>rfl
 |n::r=>by show max (Sk.depth (nd n)) (Sk.depthAll (bp r))=0;rw[jB r];rfl
theorem vM:∀xs ys:List Nat,Sk.eqvAll (bp xs) (bp ys)=decide (xs=ys)
 |[],[]=>rfl
 |[],_::_=>rfl
 |_::_,[]=>rfl
 |n::r,m::t=>by show(Sk.eqv (nd n) (nd m)&&Sk.eqvAll (bp r) (bp t))=_;rw[vM r t,Fj];rw[VH];simp
theorem Oy (a:List Nat):jv (.list (bp a))=Si:=by show(Sk.canLayAll0 (bp a)&&decide (Sk.depthAll (bp a)+1<=64))=Si;rw[gW,jB];rfl
theorem vP (xs ys:List Nat):cY (.list (bp xs)) (.list (bp ys))=lD (.fz (.bool (decide (xs=ys)))):=by unfold cY;rw[Oy,show Sk.canLay0 (.list (bp ys))=Si from gW ys,T7,if_pos rfl,show Sk.eqv (.list (bp xs)) (.list (bp ys))=_ from vM xs ys]
theorem Jm (x:Nat) (xs:List Nat):((bp xs).any fun e=>Sk.eqv e (nd x))=decide (x∈xs):=by
 induction xs with
 |nil=>rfl
 |cons y r a=>
  show(Sk.eqv (nd y) (nd x)||(bp r).any fun e=>Sk.eqv e (nd x))=_;rw[a,Fj];by_cases h:y=x
  .rw[decide_eq_true h,decide_eq_true (show x∈y::r by rw[h];exact Sv),U9]
  .rw[decide_eq_false h,Wi]
   by_cases g:x∈r
   .rw[decide_eq_true g,decide_eq_true (Sy _ g)]
   .rw[decide_eq_false g,decide_eq_false (fun z=>(SS.mp z).elim (fun e=>h e.symm) g)]
theorem vH (x:Nat) (xs:List Nat):KR (nd x) (.tuple (bp xs))=lD (.fz (.bool (decide (x∈xs)))):=by show(if(jv (nd x)&&Sk.canLayAll0 (bp xs))=Si then _ else _)=_;rw[gW,show jv (nd x)=Si from rfl,T7,if_pos rfl,Jm]
theorem E3 {i:Nat} (h:xs[i]? =lD v):l9 xs (i:Int)=lD v:=C1 h
theorem NM (h:ds[i]? =lD d):bj (.tuple ds) (nd i)=lD (.fz d):=by show(l9 ds (i:Int)).map RV.fz=_;rw[E3 h];rfl
theorem RQ (h:ds[i]? =lD d):bj (.list ds) (nd i)=lD (.fz d):=by show(l9 ds (i:Int)).map RV.fz=_;rw[E3 h];rfl
section
variable {ρ ρ1 Z ρ3:aY} {fa fb fc fe:FE} {pa pb pv:PV} {dx dy d:D} {rv:RV} {ps:List PV} {ds:List D}
theorem af (h:ρ[i]? =lD (lD (.fz d))):aa i ρ= .ok (.fz d,ρ):=by rw[AN,h,GJ]
theorem oi (h:ρ[i]? =lD (lD (.ow ds))):aa i ρ= .ok (.pl i,ρ):=by rw[AN,h,Hu]
theorem aD:pC d ρ= .ok (.fz d,ρ):=rfl
theorem aL (ha:fa ρ= .ok (pa,ρ1)) (g:fb ρ1= .ok (pb,Z)) (b:rX Z (bS pa)=lD dx) (a:rX Z pb=lD dy) (e:f dx dy=lD rv):aJ f fa fb ρ= .ok (rv.pv,Z):=by unfold aJ;rw[ha,Res.bind_ok,g,Res.bind_ok,b,aH,Res.bind_ok,a,aH,Res.bind_ok,e,aH,Res.bind_ok]
theorem bq (ha:fa ρ= .ok (pa,ρ1)) (a:rX ρ1 pa=lD (.bool b)):aF fa ρ= .ok (b,ρ1):=by unfold aF;rw[ha,Res.bind_ok,a,aH,Res.bind_ok,yH,aH,Res.bind_ok]
theorem qH (ha:f ρ= .ok (a,ρ1)) (e:a=Si->g ρ1= .ok (b,ρ1)):rV f g ρ= .ok (a&&b,ρ1):=by
 unfold rV;rw[ha,Res.bind_ok];cases a with
 |true=>rw[if_pos rfl,e rfl,Yp]
 |false=>rw[if_neg SH,WB]
theorem HB (ha:f ρ= .ok (a,ρ1)) (e:a=Sq->g ρ1= .ok (b,ρ1)):OP f g ρ= .ok (a||b,ρ1):=by
 unfold OP;rw[ha,Res.bind_ok];cases a with
 |true=>rw[if_pos rfl,U9]
 |false=>rw[if_neg SH,e rfl,Wi]
theorem wP (ha:f ρ= .ok (a,ρ1)):zY f ρ= .ok (!a,ρ1):=by unfold zY;rw[ha,Res.bind_ok]
theorem pZ (ha:aF fa ρ= .ok (a,ρ1)) (e:a=Si->fb ρ1= .ok (.fz (.bool b),ρ1)):Dv fa fb ρ= .ok (.fz (.bool (a&&b)),ρ1):=by
 unfold Dv;rw[ha,Res.bind_ok];cases a with
 |true=>rw[if_pos rfl,e rfl,Yp]
 |false=>rw[if_neg SH,WB]
theorem aI:aw ρ= .ok ([],ρ):=rfl
theorem ai (ha:fa ρ= .ok (pa,ρ1)) (a:fr ρ1= .ok (ps,Z)):ad fa fr ρ= .ok (bS pa::ps,Z):=by unfold ad;rw[ha,Res.bind_ok,a,Res.bind_ok]
theorem fM (ha:fr ρ= .ok (ps,ρ1)) (hd:tR ρ1 ps=lD ds) (a:f ds=lD rv):iB f fr ρ= .ok (rv.pv,ρ1):=by unfold iB;rw[ha,Res.bind_ok,hd,aH,Res.bind_ok,a,aH,Res.bind_ok]
theorem fF (ha:fr ρ= .ok (ps,ρ1)) (hd:pP ρ1 ps=lD (ds,Z)) (hn:ds.length=n) (a:F ds= .ok rv):fx F n fr ρ= .ok (rv.pv,Z):=by unfold fx;rw[ha,Res.bind_ok,hd,aH,Res.bind_ok];dsimp only;rw[if_pos hn,a,yR,Res.bind_ok]
theorem cA (ha:fr ρ= .ok (ps,ρ1)) (hd:pP ρ1 ps=lD (ds,Z)) (hn:ds.length<=1000):bB fr ρ= .ok (.fz (.tuple ds),Z):=by unfold bB;rw[ha,Res.bind_ok,hd,aH,Res.bind_ok];dsimp only;rw[if_pos hn]
theorem nY (ha:fr ρ= .ok (ps,ρ1)) (hd:pP ρ1 ps=lD (ds,Z)) (hn:ds.length<=1000):dU fr ρ= .ok (.ow ds,Z):=by unfold dU;rw[ha,Res.bind_ok,hd,aH,Res.bind_ok];dsimp only;rw[if_pos hn]
theorem El (ha:fa ρ= .ok (pa,ρ1)) (a:rX ρ1 pa=lD dx) (b:EC dx=lD t):Gd n fa ρ= .ok (.fz (.bool (Js n t)),ρ1):=by unfold Gd;rw[ha,Res.bind_ok,a,aH,Res.bind_ok,b,aH,Res.bind_ok]
theorem sK:uI ρ= .ok (Sg,ρ):=rfl
theorem kB (ha:fa ρ= .ok (pa,ρ1)) (a:rX ρ1 pa=lD (.int i)):ng fa ρ= .ok (lD i,ρ1):=by unfold ng;rw[ha,Res.bind_ok,a,aH,Res.bind_ok,A5,aH,Res.bind_ok]
theorem Cm (ha:fa ρ= .ok (pa,ρ1)) (b:fl ρ1= .ok (lo,Z)) (e:fh Z= .ok (hi,ρ3)) (a:rX ρ3 (bS pa)=lD dx) (g:f dx lo hi=lD rv):Lm f fa fl fh ρ= .ok (rv.pv,ρ3):=by unfold Lm;rw[ha,Res.bind_ok,b,Res.bind_ok,e,Res.bind_ok,a,aH,Res.bind_ok,g,aH,Res.bind_ok]
theorem Ff (g:ρ[i]? =lD (lD (.ow es))) (ha:fe ρ= .ok (pa,ρ1)) (b:yZ ρ1 pa=lD (d,Z)) (f:Z[i]? =lD (lD (.ow ds))) (e:ds.length<1000000) (a:Z.set i (lD (.ow (ds++[d])))=x):Hn i fe ρ= .ok (.fz .none,x):=by unfold Hn;rw[g,i8,aH,Res.bind_ok,ha,Res.bind_ok,b,aH,Res.bind_ok];dsimp only;rw[f,i8,aH,Res.bind_ok,if_pos e,a]
theorem d4 (hi:fi ρ= .ok (ds,ρ1)) (b:uz ρ1 fv=lD (cs,Z)) (a:kJ (dS gt ft fe ds (Sz n Sg++cs.map fun d=>lD (.fz d)) [])= .ok xs):fC n fv fi gt ft fe ρ= .ok (.ow xs,Z):=by unfold fC;rw[hi,Res.bind_ok];dsimp only;rw[b,aH,Res.bind_ok];dsimp only;rw[a,Res.bind_ok]
theorem My (a:c ρ= .ok (Si,ρ1)) (h:fa ρ1= .ok (pv,Z)):Mp c fa fb ρ= .ok (pv,Z):=by unfold Mp;rw[a,Res.bind_ok,if_pos rfl,h]
theorem Nt (a:c ρ= .ok (Sq,ρ1)) (h:fb ρ1= .ok (pv,Z)):Mp c fa fb ρ= .ok (pv,Z):=by unfold Mp;rw[a,Res.bind_ok,if_neg SH,h]
theorem ib:bj (.tuple (a::r)) (.int 0)=lD (.fz a):=NM rfl
theorem iw:bj (.tuple (a::b::r)) (.int 1)=lD (.fz b):=NM rfl
theorem pI:bj (.tuple (a::b::c::r)) (.int 2)=lD (.fz c):=NM rfl
theorem Op (b:k<=1000) (a:xs.length<=1000):De (.list xs) (nd k)=lD (.ow (Sz k xs).flatten):=by show(if xs.length*((k:Nat):Int).toNat<=1000000/\ -(2^63)<=(k:Int)/\(k:Int)<2^63 then lD (RV.ow (Sz ((k:Nat):Int).toNat xs).flatten) else Sg)=_;rw[Ua,if_pos ⟨Tg (ZP a b) (by decide),by omega,by omega⟩]
theorem gu (ha:fe ρ= .ok (pa,ρ1)) (a:yZ ρ1 pa=lD (d,Z)) (b:fA d=lD es):ji fe ρ= .ok (es,Z):=by unfold ji;rw[ha,Res.bind_ok,a,aH,Res.bind_ok];dsimp only;rw[b,aH,Res.bind_ok]
theorem Km (ha:fr ρ= .ok (ps,ρ1)) (hd:tR ρ1 ps=lD ds) (a:f ds=lD es):tE f fr ρ= .ok (es,ρ1):=by unfold tE;rw[ha,Res.bind_ok,hd,aH,Res.bind_ok,a,aH,Res.bind_ok]
theorem zh (b:fe ρ= .ok (pv,ρ1)) (a:g pv ρ1= .ok Z) (hn:Z=ρ3):fV fe g ρ= .ok (.nx ρ3):=by unfold fV;rw[b,Res.bind_ok];dsimp only;rw[a,Res.bind_ok,hn]
theorem Bz (a:fe ρ= .ok (pv,ρ1)):rS fe ρ= .ok (.nx ρ1):=by unfold rS;rw[a,Res.bind_ok]
theorem wD (b:fe ρ= .ok (pv,ρ1)) (a:DM ρ1 pv=lD rv):eO fe ρ= .ok (.rt rv):=by unfold eO;rw[b,Res.bind_ok];dsimp only;rw[a,aH,Res.bind_ok]
theorem AD (e:gt (.fz d) ρ= .ok ρ1) (b:ft ρ1= .ok (Si,Z)) (g:fe Z= .ok (pv,ρ3)) (a:yZ ρ3 pv=lD (x,ρ4)) (f:cT ρ4=ρ5):kF gt ft fe d ρ= .ok (lD x,ρ5):=by unfold kF;rw[e,Res.bind_ok,b,Res.bind_ok,if_pos rfl,g,Res.bind_ok,a,aH,Res.bind_ok,f]
theorem N5 (b:gt (.fz d) ρ= .ok ρ1) (a:ft ρ1= .ok (Sq,Z)) (e:cT Z=ρ5):kF gt ft fe d ρ= .ok (Sg,ρ5):=by unfold kF;rw[b,Res.bind_ok,a,Res.bind_ok,if_neg SH,e]
end
end L3
namespace PySem
open Sem (wp)
open Builtin
open AutoSeq1 (wpAny_loadPart')
theorem oH:fillsNumberSlot (.type "tuple") "mul"=pure Sq:=
 fillsNumberSlot_seq F.slot_tuple_mul.lookup (by left) F.slot_tuple_rmul.lookup (by left)
theorem vL:seqRepeat? (.type "tuple")=pure (lD (.builtin "tuple.__mul__")):=by unfold seqRepeat?;rw[seqSlot_of (name:= "__mul__") F.slot_tuple_mul.lookup (by left),seqSlot_of (name:= "__rmul__") F.slot_tuple_rmul.lookup (by left)];rfl
theorem sL (a:Int) (t:Tok) (l:So) (items:Array Sh) (n:Nat) (Yw:Option So) (e:Array (Option Sh)):
  Meets (Builtin.«int.__rmul__» ⟨[.int a t,.ref l],[]⟩) (fun _ R s=>s.heap.get? l=lD {cls:= .type "tuple",dict:=Yw,data:= .seq items n,slots:=e}/\R (.ok (.ret Sh.notImplemented)) s):=
 .of_wp fun b w A R s h=>by obtain⟨j,g,d,f,i⟩:=s;obtain⟨m,h⟩:=h;wp_walk;exact⟨_,rfl,h⟩
theorem yV (l:So) (items:Array Sh) (n:Nat) (Yw:Option So) (b:Array (Option Sh)) (u:Tok):
  Meets (Builtin.«tuple.__mul__» ⟨[.ref l,.int 1 u],[]⟩) (fun _ R s=>s.heap.get? l=lD {cls:= .type "tuple",dict:=Yw,data:= .seq items n,slots:=b}/\R (.ok (.ret (Sh.ref l))) s):=
 .of_wp fun a w A R s h=>by
  obtain⟨i,g,d,e,f⟩:=s;obtain⟨j,h⟩:=h
  wp_walk
  exact⟨_,rfl,h⟩
theorem xk (l:So) (items:Array Sh) (n:Nat) (Yw:Option So) (i:Array (Option Sh)) (x:Int) (u:Tok) (I:2<=x) (q:x<=1000) (f:items.isEmpty=Sq) (hz:items.size<=1000):
  Meets (Builtin.«tuple.__mul__» ⟨[.ref l,.int x u],[]⟩) (fun _ R s=>s.heap.get? l=lD {cls:= .type "tuple",dict:=Yw,data:= .seq items n,slots:=i}/\R (.ok (.ret (Sh.ref s.heap.objs.size))) {s with heap:=s.heap.push {cls:=Sh.type "tuple",data:=Data.seq (Xo (fun x1 x2=>x1++x2) #[] (Sz x.toNat items))},toks:=s.toks}):=
 .of_wp fun a w A R s h=>by
  obtain⟨G,g,d,E,F⟩:=s;obtain⟨p,h⟩:=h;have C:¬(decide (x< -(2^63))||decide (x≥2^63))=Si:=by simp;omega
  have B:(x==1)=Sq:=by simp;omega
  have y:decide (x<=0)=Sq:=by simp;omega
  have K:(items.isEmpty||x==1)=Sq:=by rw[f,B];rfl
  have J:(decide (x<=0)||items.isEmpty)=Sq:=by rw[f,y];rfl
  have e:(items.size:Int)*x<=1000000:=by have:(items.size:Int)*x<=1000*1000:=Int.mul_le_mul (by omega) q (by omega) (by omega);omega
  have v:¬(items.size:Int)*x>(2^63 - 1)/8:=by omega
  have t:¬Tuple.tupleTooMany ((items.size:Int)*x)=Si:=by
   unfold Tuple.tupleTooMany;simp;have:(SD:Nat)=16777216:=by decide
   omega
  wp_walk
  rw[if_neg C]
  wp_walk using wpAny_loadPart' p
  rw[if_neg v];dsimp only;rw[if_neg t];have o:(Xo (fun x1 x2=>x1++x2) #[] (Sz x.toNat items)).size<=SD:=by
   have r:∀(m:Nat) (b:Array Sh),(Xo (fun x1 x2=>x1++x2) b (Sz m items)).size=b.size+m*items.size:=by
    intro m
    induction m with
    |zero=>intro b;simp
    |succ m j=>intro b;rw[TK,Xt,j,Array.size_append,ae7];omega
   rw[r];have H:x.toNat*items.size<=1000*1000:=ZP (by omega) hz;have:(SD:Nat)=16777216:=by decide
   simp;omega
  wp_walk
  exact⟨_,rfl,h⟩
end PySem
namespace L3
open PySem PySem.Spec PyProof.Rows L2
def KW (K:Ld):R2:=fun x y H Q=>∃(a:So) (k:Nat) (xs:List V),x= .ref a/\y= .int (k:Int)/\WZ K H a xs/\xs≠[]/\1<=k/\k<=1000/\xs.length<=1000/\
 (k=1->Q (.ref a) H)/\(2<=k->∀p,H p=Sg->Q (.ref p) (bx H p (.tup (Sz k xs).flatten)))
theorem JQ:OpR X (Vj .Mult) (KW X.K):=by
 intro i s S H x y v u Q I C B h;obtain⟨a,k,xs,rfl,rfl,J,R,Z,O,M,G,E⟩:=h;cases C;obtain⟨t,rfl⟩:=B;obtain⟨f,r,L,Y⟩:=I.tuple J;obtain⟨⟨cls,dd,o,g⟩,e,m,n,l⟩:=id L;simp only at m l;subst m l;have j:=r.length;refine abg (by decide) ⟨_,e,rfl⟩ (fun A=>Za A k t) oH F.fills_int_mul F.slot_int_rmul vL F.slot_int_index.lookup
  (Wt F.slot_int_rmul (Za s k t) F.entry_int_rmul (F.args_int_rmul_2 _ _) (sL k t a f.toArray n dd g) ⟨e,rfl,⟨_,e,rfl⟩,?_⟩)
 by_cases N:k=1
 .subst N;exact Wt F.slot_tuple_mul ⟨_,e,rfl⟩ F.entry_tuple_mul (F.args_tuple_mul_2 _ _) (yV a f.toArray n dd g t) ⟨e,⟨.ref a,H,I,rfl,G rfl⟩⟩
 .refine Wt F.slot_tuple_mul ⟨_,e,rfl⟩ F.entry_tuple_mul (F.args_tuple_mul_2 _ _) (xk a f.toArray n dd g k t (by omega) (by omega) ?_ (by rw[SE];omega)) ⟨e,?_⟩
  .cases f with
   |nil=>cases r;exact absurd rfl R
   |cons y T=>rfl
  .have P:Xo (fun w p=>w++p) #[] (Sz ((k:Nat):Int).toNat f.toArray)=(Sz k f).flatten.toArray:=by
    have:=nZ f k [];rw[Zn] at this;rw[Ua];exact this
   rw[P];refine⟨.ref s.heap.objs.size,_,I.laid (fun b U q=>Heap.get?_push_of_some _ q) (Sw _) ?_,rfl,E (by omega) _ (I.T9.fresh (Sw _))⟩;refine⟨?_,_,r.rep k,Y3.new _ _⟩;rw[A0];exact Tg (ZP O M) (by decide)
def K6 (K:Ld):R2:=fun x y H Q=>Fd K x y H Q\/KW K x y H Q
theorem Cy:OpR X (Vj .Mult) (K6 X.K):=OpR.or HW JQ
def i9:D->D->Option RV
 | .tuple xs,.int k=>if xs≠[]/\1<=k/\k<=1000/\xs.length<=1000 then lD (.fz (.tuple (Sz k.toNat xs).flatten)) else Sg
 |d,e=>De d e
theorem xH {K:Ld}:nM K (K6 K) i9:=by
 intro O H x y dx l rv Q n g f e q;unfold i9 at e;split at e
 .rename_i ds k
  split at e
  .rename_i h
   cases e;cases f;obtain⟨a,xs,rfl,i,b⟩:=D7 g;obtain⟨m,rfl⟩:∃m:Nat,k=(m:Int):=⟨k.toNat,by omega⟩;rw[Ua] at q;refine .inr ⟨a,m,xs,rfl,rfl,i.1,fun z=>h.1 (b.ne.mp z),by omega,by omega,by rw[b.length];exact h.2.2.2,fun e=> ?_,fun _=>Fin.acC (b.flat m) n q⟩;subst e;have j:(Sz 1 ds).flatten=ds:=by simp
   rw[j] at q;exact q.at (.tup i b)
  .cases e
 .exact .inl (KQ O H x y dx l rv Q n g f e q)
end L3
namespace PySem
open Sem (wp)
open Builtin Builtin.Str
def itAt:Bool->Heap->So->So->Nat->Prop
 |true,h,it,a,i=>h.IsTupleIter it a i
 |false,h,it,a,i=>h.IsListIter it a i
def sqAt:Bool->Heap->So->Array Sh->Prop
 |true,h,a,xs=>h.IsTuple a xs
 |false,h,a,xs=>h.IsList a xs
def yK:Bool->String
 |true=> "tuple_iterator"
 |false=> "list_iterator"
theorem itAt.ext (x:itAt b h it a i) (e:Heap.ExtBut c h h') (n:it≠c):itAt b h' it a i:=by
 cases b with
 |true=>exact Heap.IsTupleIter.extBut x e n
 |false=>exact Heap.IsListIter.extBut x e n
theorem itAt.to (x:itAt b h it a i) (e:∀o,h.get? it=lD o->h'.get? it=lD o):itAt b h' it a i:=by
 cases b with
 |true=>exact Heap.IsTupleIter.at x e
 |false=>exact Heap.IsListIter.at x e
theorem itAt.live (x:itAt b h it a i):∃o,h.get? it=lD o/\∀v,o.data≠ .cell v:=by
 cases b with
 |true=>obtain⟨o,e,_,d⟩:=(show h.IsTupleIter it a i from x);exact⟨o,e,fun v z=>by rw[d] at z;cases z⟩
 |false=>obtain⟨o,e,_,d⟩:=(show h.IsListIter it a i from x);exact⟨o,e,fun v z=>by rw[d] at z;cases z⟩
theorem sqAt.ext (x:sqAt b h a xs) (e:Heap.ExtBut c h h') (n:a≠c):sqAt b h' a xs:=by
 cases b with
 |true=>exact Heap.IsTuple.extBut x e n
 |false=>exact Heap.IsList.extBut x e n
theorem sqAt.psh (x:sqAt b h a xs) (o:Obj):sqAt b (h.push o) a xs:=by
 cases b with
 |true=>exact Heap.IsTuple.push x o
 |false=>exact Heap.IsList.push x o
theorem sqAt.lt (x:sqAt b h a xs):a<h.objs.size:=by
 cases b with
 |true=>obtain⟨o,e,_⟩:=(show h.IsTuple a xs from x);exact Heap.lt_size e
 |false=>obtain⟨o,e,_⟩:=(show h.IsList a xs from x);exact Heap.lt_size e
section
variable {prog:S0} {w:Tn} {A:Tc} {E:Sh->Sr->Prop} {s:Sr}
theorem vF (hi:itAt b s.heap it l i) (e:sqAt b s.heap l xs) (a:xs[i]? =lD x)
  (q:∀h',itAt b h' it l (i+1)->Heap.SameBut it s.heap h'->Q x {s with heap:=h'}):wpAny (model prog w) A (SmallTypes.nextOf (.ref it)) Q E s:=by
 cases b with
 |true=>exact nA hi e a q
 |false=>exact wpAny_nextOf_list_item hi e a q
theorem Ct (g:A.handled=Sg) (hi:itAt b s.heap it l i) (f:sqAt b s.heap l xs) (a:xs[i]? =Sg)
  (q:∀h' e,Heap.ExtBut it s.heap h'->(∃o,h'.get? e=lD o/\o.cls= .type "StopIteration")->E (.ref e) {s with heap:=h'}):wpAny (model prog w) A (SmallTypes.nextOf (.ref it)) Q E s:=by
 cases b with
 |true=>exact om g hi f a q
 |false=>exact wpAny_nextOf_list_end g hi f a q
theorem CW (a:sqAt b s.heap l xs)
  (q:Q (.ref s.heap.objs.size) {s with heap:=s.heap.push {cls:= .type (yK b),data:= .fields #[.ref l,.int 0 0]}}):wpAny (model prog w) A (pyIter (.ref l)) Q E s:=by
 cases b with
 |true=>exact Yo a q
 |false=>exact WO a q
theorem Db {Q:Sh->Sr->Prop} (D:Zr z TI TO i1 i2 l1 l2) (hz:aaN s.heap z TI TO .none)
  (hTI:IsPair s.heap TI (.ref i1) (.ref i2)) (hTO:IsPair s.heap TO a b) (h1:itAt b1 s.heap i1 l1 n) (h2:itAt b2 s.heap i2 l2 n) (hl1:sqAt b1 s.heap l1 xs) (hl2:sqAt b2 s.heap l2 ys) (hx:xs[n]? =lD x) (hy:ys[n]? =lD y)
  (q:∀h',aaN h' z TI TO (rawInt s.heap.objs.size)->IsPair h' TO x y->itAt b1 h' i1 l1 (n+1)->itAt b2 h' i2 l2 (n+1)->IsPair h' s.heap.objs.size x y->h'.objs.size=s.heap.objs.size+1->
   (∀c o,c≠z->c≠TO->c≠i1->c≠i2->s.heap.get? c=lD o->h'.get? c=lD o)->Q (.ref s.heap.objs.size) {s with heap:=h'}):
  wpAny (model prog w) A (Builtin.«zip.__next__» ⟨[.ref z],[]⟩) (fun fin s'=>∃v,fin= .done (.ret v)/\Q v s') E s:=by
 show wpAny _ _ (field (.ref z) 2>>=_) _ _ _;refine Sf (Tz hz rfl rfl ?_);show wpAny _ _ (field (.ref z) 3>>=_) _ _ _;refine Sf (Tz hz rfl rfl ?_);refine Sf (Uc hTI rfl ?_);show wpAny _ _ (SmallTypes.ownedTupleIsFree (.ref z)>>=_) _ _ _;refine Sf ?_;unfold SmallTypes.ownedTupleIsFree;refine Sf (Tz hz rfl rfl (Ss ?_));simp only[if_true];refine Sf (X6 ?_);refine Sf (Tz hz rfl rfl ?_);refine Sf (Vf hz (by simp) fun k₁ t g=> ?_);have adk:=t;clear t;refine Sf ?_;simp only[acI,acV,Xv,ZH];refine Sf (Sf (Y5 ?_));show wpAny _ _ (SmallTypes.nextOf (.ref i1)>>=_) _ _ _;refine Sf (vF (h1.ext g.extBut D.i1z) (hl1.ext g.extBut D.l1z) hx fun k₂ Y i=>Ss ?_);have J:=i.extBut _ _ D.TOi1 (g.extBut _ _ D.TOz hTO);refine Sf (Uc J rfl ?_);refine Sf (YF J fun k₃ I h=> ?_);have M:=I;clear I;refine Sf (VD (Ss ?_));refine Sf (Sf (Y5 ?_));show wpAny _ _ (SmallTypes.nextOf (.ref i2)>>=_) _ _ _;refine Sf (vF (((h2.ext g.extBut D.i2z).ext i.extBut D.i12.symm).ext h.extBut D.TOi2.symm) (((hl2.ext g.extBut D.l2z).ext i.extBut D.l2i1).ext h.extBut D.l2TO) hy fun k₄ X l=>Ss ?_);have H:=l.extBut _ _ D.TOi2 M;refine Sf (Uc H rfl ?_);refine Sf (YF H fun f G j=> ?_);have p:IsPair f TO x y:=G;clear G;refine Sf (VD (Ss (Ss ?_)));refine Sf (Uc p rfl ?_);refine Sf (wpAny_newTuple ?_);have U:f.objs.size=s.heap.objs.size:=by rw[j.1,l.1,h.1,i.1,g.1]
 have C:=j.extBut _ _ D.TOz.symm (l.extBut _ _ D.i2z.symm (h.extBut _ _ D.TOz.symm (i.extBut _ _ D.i1z.symm adk)));have kp:∀c o,c≠z->c≠TO->c≠i1->c≠i2->s.heap.get? c=lD o->f.get? c=lD o:=fun c o N Z c3 c4 e=>
  j.extBut _ _ Z (l.extBut _ _ c4 (h.extBut _ _ Z (i.extBut _ _ c3 (g.extBut _ _ N e))))
 have T:=((Y.ext h.extBut D.TOi1.symm).ext l.extBut D.i12).ext j.extBut D.TOi1.symm;have S:=X.ext j.extBut D.TOi2.symm;have WT:=Heap.lt_size C;show wpAny _ _ (SmallTypes.ownedTupleHandOut (.ref z) (.ref f.objs.size)>>=_) _ _ _;refine Sf ?_;unfold SmallTypes.ownedTupleHandOut;have R:aaN (f.push {cls:= .type "tuple",data:= .seq #[x,y]}) z TI TO .ellipsis:=Heap.get?_push_of_some _ C;refine Sf (Vf R (by simp) fun k₇ P B=> ?_);have L:=P;refine Vf L (by simp) fun r O u=> ?_;have m:=O;have up:∀c o,c≠z->f.get? c=lD o->r.get? c=lD o:=fun c o N e=>u.extBut _ _ N (B.extBut _ _ N (Heap.get?_push_of_some _ e));have F:=u.extBut _ _ (TY WT) (B.extBut _ _ (TY WT) (Heap.get?_push_size _ rfl));have K:r.objs.size=f.objs.size+1:=by rw[u.1,B.1,Heap.size_push]
 rw[U] at m F K;refine Ss ⟨_,rfl,?_⟩;rw[U];exact q r m (up _ _ D.TOz p) (T.to fun o e=>up _ o D.i1z e) (S.to fun o e=>up _ o D.i2z e) F K fun c o N Z c3 c4 e=>up c o N (kp c o N Z c3 c4 e)
theorem EW (T:A.handled=Sg) (D:Zr z TI TO i1 i2 l1 l2) (hz:aaN s.heap z TI TO .none)
  (M:IsPair s.heap TI (.ref i1) (.ref i2)) (L:IsPair s.heap TO a b) (U:itAt b1 s.heap i1 l1 n) (Z:itAt b2 s.heap i2 l2 n) (F:sqAt b1 s.heap l1 xs) (J:sqAt b2 s.heap l2 ys) (O:xs[n]? =Sg\/ys[n]? =Sg)
  (q:∀h' e,(∀c o,c≠z->c≠TO->c≠i1->c≠i2->s.heap.get? c=lD o->h'.get? c=lD o)->(∃o,h'.get? e=lD o/\o.cls= .type "StopIteration")->E (.ref e) {s with heap:=h'}):
  wpAny (model prog w) A (Builtin.«zip.__next__» ⟨[.ref z],[]⟩) Q E s:=by
 show wpAny _ _ (field (.ref z) 2>>=_) _ _ _;refine Sf (Tz hz rfl rfl ?_);show wpAny _ _ (field (.ref z) 3>>=_) _ _ _;refine Sf (Tz hz rfl rfl ?_);refine Sf (Uc M rfl ?_);show wpAny _ _ (SmallTypes.ownedTupleIsFree (.ref z)>>=_) _ _ _;refine Sf ?_;unfold SmallTypes.ownedTupleIsFree;refine Sf (Tz hz rfl rfl (Ss ?_));simp only[if_true];refine Sf (X6 ?_);refine Sf (Tz hz rfl rfl ?_);refine Sf (Vf hz (by simp) fun S y f=> ?_);have H:=y;refine Sf ?_;simp only[acI,acV,Xv,ZH];refine Sf (Sf (Y5 ?_));show wpAny _ _ (SmallTypes.nextOf (.ref i1)>>=_) _ _ _;cases hx:xs[n]? with
 |none=>
  refine Sf (Ct T (U.ext f.extBut D.i1z) (F.ext f.extBut D.l1z) hx fun C e g K=> ?_);obtain⟨I,i,j⟩:=K;have m:=g _ _ D.i1z.symm H;have ne:e≠z:=fun t=>by subst t;rw[m] at i;cases i;simp at j
  exact Vf m (by simp) fun r _ h=>q r e (fun c o G _ N _ t=>h.extBut _ _ G (g _ _ N (f.extBut _ _ G t))) ⟨I,h.extBut _ _ ne i,j⟩
 |some x=>
  have Y:ys[n]? =Sg:=by
   rcases O with t|t
   .rw[hx] at t;cases t
   .exact t
  refine Sf (vF (U.ext f.extBut D.i1z) (F.ext f.extBut D.l1z) hx fun C X g=>Ss ?_);have p:=g.extBut _ _ D.TOi1 (f.extBut _ _ D.TOz L);refine Sf (Uc p rfl ?_);refine Sf (YF p fun r P h=> ?_);refine Sf (VD (Ss ?_));refine Sf (Sf (Y5 ?_));show wpAny _ _ (SmallTypes.nextOf (.ref i2)>>=_) _ _ _;refine Sf (Ct T (((Z.ext f.extBut D.i2z).ext g.extBut D.i12.symm).ext h.extBut D.TOi2.symm) (((J.ext f.extBut D.l2z).ext g.extBut D.l2i1).ext h.extBut D.l2TO) Y fun R e v K=> ?_);obtain⟨I,i,j⟩:=K;have l:=v _ _ D.i2z.symm (h.extBut _ _ D.TOz.symm (g.extBut _ _ D.i1z.symm H));have ne:e≠z:=fun t=>by subst t;rw[l] at i;cases i;simp at j
  exact Vf l (by simp) fun B _ u=>q B e (fun c o G c2 N c4 t=>u.extBut _ _ G (v _ _ c4 (h.extBut _ _ c2 (g.extBut _ _ N (f.extBut _ _ G t))))) ⟨I,u.extBut _ _ ne i,j⟩
end
section
variable {prog:S0} {w:Tn} {A:Tc} {E:Sh->Sr->Prop} {s:Sr}
theorem xF (D:Zr z TI TO i1 i2 l1 l2) (hz:aaN s.heap z TI TO .none)
  (h:IsPair s.heap TI (.ref i1) (.ref i2)) (g:IsPair s.heap TO a b) (p:itAt b1 s.heap i1 l1 n) (m:itAt b2 s.heap i2 l2 n) (f:sqAt b1 s.heap l1 xs) (e:sqAt b2 s.heap l2 ys) (l:xs[n]? =lD x) (j:ys[n]? =lD y)
  (q:∀h',aaN h' z TI TO (rawInt s.heap.objs.size)->IsPair h' TO x y->itAt b1 h' i1 l1 (n+1)->itAt b2 h' i2 l2 (n+1)->IsPair h' s.heap.objs.size x y->h'.objs.size=s.heap.objs.size+1->
   (∀c o,c≠z->c≠TO->c≠i1->c≠i2->s.heap.get? c=lD o->h'.get? c=lD o)->Q (lD (.ref s.heap.objs.size)) {s with heap:=h'}):
  wpAny (model prog w) A (pyNext (.ref z)) Q E s:=by
 have i:s.TypeIs (.ref z) "zip":=⟨_,hz,rfl⟩;unfold pyNext;refine Sf (ajg (UA i F.slot_zip_next ?_));exact UI F.slot_zip_next i F.entry_zip_next (Db D hz h g p m f e l j fun h' G C B v u t r=>Ss (q h' G C B v u t r)) (F.args_zip_next_1 _)
theorem xV (r:A.handled=Sg) (D:Zr z TI TO i1 i2 l1 l2) (hz:aaN s.heap z TI TO .none)
  (i:IsPair s.heap TI (.ref i1) (.ref i2)) (h:IsPair s.heap TO a b) (y:itAt b1 s.heap i1 l1 n) (v:itAt b2 s.heap i2 l2 n) (g:sqAt b1 s.heap l1 xs) (f:sqAt b2 s.heap l2 ys) (j:xs[n]? =Sg\/ys[n]? =Sg)
  (q:∀h',(∀c o,c≠z->c≠TO->c≠i1->c≠i2->s.heap.get? c=lD o->h'.get? c=lD o)->Q Sg {s with heap:=h'}):wpAny (model prog w) A (pyNext (.ref z)) Q E s:=by
 have l:s.TypeIs (.ref z) "zip":=⟨_,hz,rfl⟩;unfold pyNext;refine Sf (ajg (UA l F.slot_zip_next ?_));refine UI F.slot_zip_next l F.entry_zip_next (EW r D hz i h y v g f j fun h' e p t=> ?_) (F.args_zip_next_1 _);obtain⟨o,m,u⟩:=t;exact Sf (XW ⟨o,m,u⟩ isSubtype_stop (Ss (q _ p)))
end
abbrev Pa (h:Heap) (b:Bool) (a:So):Heap:=h.push {cls:= .type (yK b),data:= .fields #[.ref a,.int 0 0]}
abbrev Qe (h:Heap) (f e:Bool) (b a:So):Heap:=(Pa h f b).push {cls:= .type (yK e),data:= .fields #[.ref a,.int 0 0]}
abbrev PP (h:Heap) (b f:Bool) (a e:So):Heap:=(Qe h b f a e).push {cls:= .type "tuple",data:= .seq #[.ref h.objs.size,.ref (Pa h b a).objs.size]}
abbrev OM (h:Heap) (f e:Bool) (b a:So):Heap:=(PP h f e b a).push {cls:= .type "tuple",data:= .seq #[.none,.none]}
abbrev Rm (h:Heap) (f e:Bool) (b a:So):Heap:=(OM h f e b a).push {cls:= .type "zip",data:= .fields #[.none,.bool Sq,.bool Sq,.ref (Qe h f e b a).objs.size,.ref (PP h f e b a).objs.size]}
theorem re (e f:Bool) (a b:So) (xs ys:Array Sh):
  Meets (Builtin.«zip.__new__» ⟨[.type "zip",.ref a,.ref b],[]⟩) (fun _ R s=>sqAt e s.heap a xs/\sqAt f s.heap b ys/\R (.ok (.ret (.ref (OM s.heap e f a b).objs.size))) {s with heap:=Rm s.heap e f a b}):=
 .of_wp fun o w A R s h=>by
  obtain⟨q,g,d,n,p⟩:=s;obtain⟨j,i,h⟩:=h;have r:=sub_zip;have m:sqAt e (Sr.heap ⟨q,g,d,n,p⟩) a xs:=j;have l:sqAt f (Sr.heap ⟨q.push {cls:= .type (yK e),data:= .fields #[.ref a,.int 0 0]},g,d,n,p⟩) b ys:=sqAt.psh i _
  wp_walk using CW m,CW l
  exact⟨_,rfl,h⟩
section
variable {prog:S0} {w:Tn} {A:Tc} {E:Sh->Sr->Prop} {s:Sr}
theorem Ha (e:h.get? it=lD {cls:= .type (yK b),data:= .fields #[.ref l,.int 0 0]}):itAt b h it l 0:=by
 cases b with
 |true=>exact⟨_,e,rfl,rfl⟩
 |false=>exact⟨_,e,rfl,rfl⟩
theorem Di (l:sqAt b1 s.heap l1 xs) (j:sqAt b2 s.heap l2 ys)
  (q:∀h',aaN h' (s.heap.objs.size+4) (s.heap.objs.size+2) (s.heap.objs.size+3) .none->IsPair h' (s.heap.objs.size+2) (.ref s.heap.objs.size) (.ref (s.heap.objs.size+1))->
   IsPair h' (s.heap.objs.size+3) .none .none->itAt b1 h' s.heap.objs.size l1 0->itAt b2 h' (s.heap.objs.size+1) l2 0->(∀c o,s.heap.get? c=lD o->h'.get? c=lD o)->Q (.ref (s.heap.objs.size+4)) {s with heap:=h'}):
  wpAny (model prog w) A (call (.type "zip") [.ref l1,.ref l2]) Q E s:=by
 refine callType_new F.called_zip (by decide) (F.typeCall_zip_2 _ _) (F.newCall_zip_2 _ _) (fun obj=>F.args_object_init_3 obj _ _) F.entry_zip_new (re b1 b2 l1 l2 xs ys) ⟨l,j,?_⟩;have i:(Pa s.heap b1 l1).objs.size=s.heap.objs.size+1:=Heap.size_push ..;have h:(Qe s.heap b1 b2 l1 l2).objs.size=s.heap.objs.size+2:=by rw[Heap.size_push,i]
 have g:(PP s.heap b1 b2 l1 l2).objs.size=s.heap.objs.size+3:=by rw[Heap.size_push,h]
 have p:(OM s.heap b1 b2 l1 l2).objs.size=s.heap.objs.size+4:=by rw[Heap.size_push,g]
 have v:∀c o,s.heap.get? c=lD o->(Pa s.heap b1 l1).get? c=lD o:=fun c o e=>Heap.get?_push_of_some _ e;have n:∀c o,(Pa s.heap b1 l1).get? c=lD o->(Qe s.heap b1 b2 l1 l2).get? c=lD o:=fun c o e=>Heap.get?_push_of_some _ e;have f:∀c o,(Qe s.heap b1 b2 l1 l2).get? c=lD o->(PP s.heap b1 b2 l1 l2).get? c=lD o:=fun c o e=>Heap.get?_push_of_some _ e;have b:∀c o,(PP s.heap b1 b2 l1 l2).get? c=lD o->(OM s.heap b1 b2 l1 l2).get? c=lD o:=fun c o e=>Heap.get?_push_of_some _ e;have a:∀c o,(OM s.heap b1 b2 l1 l2).get? c=lD o->(Rm s.heap b1 b2 l1 l2).get? c=lD o:=fun c o e=>Heap.get?_push_of_some _ e;have m:(Rm s.heap b1 b2 l1 l2).get? (OM s.heap b1 b2 l1 l2).objs.size=lD _:=Heap.get?_push_size _ rfl;have r:=a _ _ (Heap.get?_push_size _ rfl);have t:=a _ _ (b _ _ (Heap.get?_push_size _ rfl));have u:=a _ _ (b _ _ (f _ _ (Heap.get?_push_size _ rfl)));have y:=a _ _ (b _ _ (f _ _ (n _ _ (Heap.get?_push_size _ rfl))));rw[h,g,p] at m;rw[i,h] at t;rw[g] at r;rw[i] at u;rw[p];exact⟨⟨_,m,rfl⟩,q _ m t r (Ha y) (Ha u) fun c o e=>a _ _ (b _ _ (f _ _ (n _ _ (v _ _ e))))⟩
end
end PySem
namespace L3
open PySem PySem.Spec PyProof.Rows L2
def D4 (b:Bool) (K:Ld) (H:Hp) (a:So) (xs:List V):Prop:=match b with
 |true=>WZ K H a xs
 |false=>Xa K H a xs
def Re (K:Ld) (e b:Bool) (a c:So):It:=
 ⟨fun i H=>∃xs ys x y,D4 e K H a xs/\D4 b K H c ys/\xs[i]? =lD x/\ys[i]? =lD y,
  fun i H v f=>∃p x y,H p=Sg/\v= .ref p/\(∀xs,D4 e K H a xs->xs[i]? =lD x)/\(∀ys,D4 b K H c ys->ys[i]? =lD y)/\f=bx H p (.tup [x,y]),
  fun i H=>∃xs ys,D4 e K H a xs/\D4 b K H c ys/\(xs.length<=i\/ys.length<=i)⟩
theorem JH (I:Inv X pins σ H s) (j:Xa X.K H a xs) (i:Xa X.K H a ys):xs=ys:=by
 obtain⟨f,h,⟨o,k,l,_,n,p⟩,_⟩:=I.list j;obtain⟨e,g,⟨r,u,b,_,t,m⟩,_⟩:=I.list i;rw[l] at b;cases b;have:f=e:=by
  have q:f.toArray=e.toArray:=by injection p.symm.trans m
  simpa using q
 subst this;exact h.inj g
theorem oK (I:Inv X pins σ H s) (h:D4 b X.K H a xs):∃Tt,Vals xs Tt/\sqAt b s.heap a Tt.toArray:=by
 cases b with
 |true=>obtain⟨Tt,rv,p,e⟩:=I.tuple h;exact⟨Tt,rv,p⟩
 |false=>obtain⟨Tt,rv,p,e⟩:=I.list h;exact⟨Tt,rv,p.isList⟩
theorem CU (I:Inv X pins σ H s) (f:D4 b X.K H a xs) (e:D4 b X.K H a ys):xs=ys:=by
 cases b with
 |true=>exact Jp I f e
 |false=>exact JH I f e
theorem DH {ch:List So} (I:Inv X pins σ H s) (g:∀b∈ch,mZ X pins H b)
  (k:∀b u,b∉ch->s.heap.get? b=lD u->h'.get? b=lD u):Inv X pins σ H {s with heap:=h',toks:=t'}:=by
 have f:∀b u,H b=lD u->b∉ch:=fun b u e z=>by rw[(g b z).1] at e;cases e
 refine I.step (fun b j=> ?_) (fun b u _ _ a e _=>k b u a e) (fun b u _ _ a e _=>⟨u.slots,k b u a e⟩) (fun _ _ _ _ n=>n)
  (fun b u a e=>⟨u,k b u a e⟩) (fun _ _ e=>e) (fun _ _ _ e=>e) (fun b ps e=>⟨#[],by rw[e];simp⟩) (fun m hm=> ?_) (fun b u e=> ?_) I.bare
 .obtain⟨_,t,_,p,o,l⟩:=g b j;exact⟨p,t,o,l⟩
 .obtain⟨h,w,y,i,r⟩:=hm;exact⟨h,w,y,k _ h (fun z=>(g _ z).2.1 rfl) i,r⟩
 .refine(I.T9 b u e).Xb (fun c v a q=>k c v ?_ q) (fun _ q=>q) fun _ _ q=>q
  rcases a with z|z
  .rw[z];exact f b u e
  .exact f c _ z
theorem E9 {K:Ld} {kk} (b1 b2:Bool) (z TI TO B A U T:So) (D:Zr z TI TO B A U T):
  Turn P w K (.Tuple elts kk tp) (Re K b1 b2 U T) [z,TI,TO,B,A] z (fun i h=>aaN h z TI TO .none/\IsPair h TI (.ref B) (.ref A)/\(∃a b,IsPair h TO a b)/\itAt b1 h B U i/\itAt b2 h A T i) where
 mem:=by simp
 obj:=fun i h f b e=>by
  obtain⟨l,g,⟨a,c,m⟩,r,p⟩:=f;simp only[SS,Ue,or_false] at e;rcases e with rfl|rfl|rfl|rfl|rfl
  .exact⟨_,l,fun v q=>by cases(show Data.fields _=Data.cell v from q)⟩
  .exact⟨_,g,fun v q=>by cases(show Data.seq _ _=Data.cell v from q)⟩
  .exact⟨_,m,fun v q=>by cases(show Data.seq _ _=Data.cell v from q)⟩
  .exact r.live
  .exact p.live
 keep:=fun i h h' f k=>by obtain⟨l,g,⟨a,c,m⟩,r,p⟩:=f;exact⟨k z (by simp) _ l,k TI (by simp) _ g,⟨a,c,k TO (by simp) _ m⟩,r.to fun o q=>k B (by simp) o q,p.to fun o q=>k A (by simp) o q⟩
 item:=by
  intro X hP hw hK hc i j s σ H E I M f hg;subst hP hw hK;obtain⟨l,g,⟨a,c,m⟩,r,p⟩:=f;obtain⟨xs,ys,x,y,J,G,hx,hy⟩:=hg;obtain⟨Tt,Q,S⟩:=oK I J;obtain⟨F,O,R⟩:=oK I G;obtain⟨u,hu,ru⟩:=Q.get hx;obtain⟨t,ht,rt⟩:=O.get hy;refine xF D l g m r p S R (by simpa using hu) (by simpa using ht) fun k z1 o1 g1 g2 pr sz L=>⟨_,rfl,?_⟩;refine wpAny_letOwnedTupleGo_zip z1 fun C z2 e2=> ?_;have Y:=Heap.lt_size l;have hIl:=Heap.lt_size g;have hOl:=Heap.lt_size m;have h1l:B<s.heap.objs.size:=by obtain⟨_,q,_⟩:=r.live;exact Heap.lt_size q
  have h2l:A<s.heap.objs.size:=by obtain⟨_,q,_⟩:=p.live;exact Heap.lt_size q
  have hn:=I.T9.fresh (Sw _);have kk:∀b o,b∉[z,TI,TO,B,A]->s.heap.get? b=lD o->C.get? b=lD o:=fun b o e q=>by simp only[SS,Ue,or_false,not_or] at e;exact(e2.2 b e.1).trans (L b o e.1 e.2.2.1 e.2.2.2.1 e.2.2.2.2 q)
  have hT2:=(e2.2 _ (TY Y)).trans pr
  have I2:Inv X j σ (bx H s.heap.objs.size (.tup [x,y])) {s with heap:=C}:=
   I.aaX M kk (Sw _) ⟨by show 2<=SD;decide,[u,t],.cons ru (.cons rt .nil),⟨_,hT2,⟨rfl,_,rfl⟩,rfl⟩⟩
  have N:∀b o,b≠z->k.get? b=lD o->C.get? b=lD o:=fun b o n q=>(e2.2 b n).trans q;refine⟨.ref s.heap.objs.size,_,I2,rfl,⟨_,x,y,hn,rfl,fun zs hs=>by rw[CU I hs J];exact hx,fun zs hs=>by rw[CU I hs G];exact hy,rfl⟩,
   ⟨z2,N _ _ D.TIz (L _ _ D.TIz D.TITO D.TIi1 D.TIi2 g),⟨_,_,N _ _ D.TOz o1⟩,g1.to fun o q=>N _ _ D.i1z q,g2.to fun o q=>N _ _ D.i2z q⟩,fun b e=> ?_⟩
  have hb2:b<s.heap.objs.size:=by simp only[SS,Ue,or_false] at e;rcases e with rfl|rfl|rfl|rfl|rfl<;>assumption
  rw[ay (S1 hb2)];exact(M b e).1
 done:=by
  intro X hP hw hK hc i j s σ H E I M f hg;subst hP hw hK;obtain⟨l,g,⟨a,c,m⟩,r,p⟩:=f;obtain⟨xs,ys,J,G,Z⟩:=hg;obtain⟨Tt,Q,S⟩:=oK I J;obtain⟨F,O,R⟩:=oK I G;have hl1:=Q.length;have hl2:=O.length;have hd:Tt.toArray[i]? =Sg\/F.toArray[i]? =Sg:=by
   rcases Z with q|q
   .exact .inl (by simp;omega)
   .exact .inr (by simp;omega)
  refine xV (I.ok.hd hc) D l g m r p S R hd fun k L=>⟨rfl,?_⟩;exact DH I M fun b o e q=>by simp only[SS,Ue,or_false,not_or] at e;exact L b o e.1 e.2.2.1 e.2.2.2.1 e.2.2.2.2 q
 self:=fun _ _ _ _ _ f h=>ae9 f.1 h
theorem DN (n b a:Nat) (f:b<n) (e:a<n):Zr (n+4) (n+2) (n+3) n (n+1) b a:=by constructor<;>(show(_:Nat)≠_;omega)
def Lk (K:Ld) (ta:TA):TI:=fun e H R=>ta e H fun vs b=>∃a c b1 b2,vs=[.ref a,.ref c]/\(∃xs,D4 b1 K b a xs)/\(∃ys,D4 b2 K b c ys)/\R (Re K b1 b2 a c) b
theorem Fy:T1 "zip"=lD (.type "zip"):=by left
theorem Mv {kk} (S:Gl X "zip") (hm:X.mg "zip"=Sg) (ha:PA X [l,m] ta) (O:SY [l,m] X.env=(Sq,eval l X.env)::SY [m] X.env:=by rfl) (P:(backTo pos (SY [m] X.env)).any (·.1)=Sq:=by rfl):
  PI X (.Tuple elts kk tp) (.Call (.Name "zip" p) [l,m] [] pos) (Lk X.K ta):=by
 intro f s y H R I h;refine Call_ (kW I S hm Fy (Us (cz (ha pos f s y H _ I h) fun us g ⟨vs,w,j,G,J⟩=> ?_) O P));obtain⟨a,c,Z,Y,e,⟨xs,E⟩,⟨ys,C⟩,q⟩:=J;subst e;obtain⟨u,t,rfl,F,rt⟩:=CG G;cases F;cases rt;obtain⟨Tt,rx,r⟩:=oK j E;obtain⟨N,ry,o⟩:=oK j C;have U:∀b∈[g.heap.objs.size+4,g.heap.objs.size+2,g.heap.objs.size+3,g.heap.objs.size,g.heap.objs.size+1],mZ X f w b:=fun b v=>by
  have i:g.heap.objs.size<=b:=by simp only[SS,Ue,or_false] at v;have T:=v;omega
  exact j.aax i (j.T9.fresh i)
 refine Di r o fun h1 n M L B A Q=> ?_;refine ae9 n ?_;exact⟨g.heap.objs.size+4,_,_,_,w,rfl,j.kept Q,E9 Z Y _ _ _ _ _ a c (DN _ _ _ r.lt o.lt),⟨n,M,⟨_,_,L⟩,B,A⟩,U,q⟩
def P3:TF->Bool
 | .Starred _ _=>Si
 |_=>Sq
theorem uu (e:TF) (es:List TF) (env:Env) (h:P3 e=Sq):SY (e::es) env=(Sq,eval e env)::SY es env:=by cases e<;>first|rfl|cases h
def l6:List D->List D->List D
 |x::r,y::q=> .tuple [x,y]::l6 r q
 |_,_=>[]
theorem yf:∀(xs ys:List D),(l6 xs ys).length=min xs.length ys.length
 |[],_=>by simp[l6]
 |_::_,[]=>by simp[l6]
 |_::r,_::q=>by simp only[l6,SJ,yf r q];omega
theorem xN:∀(xs ys:List D) (i:Nat),(l6 xs ys)[i]? =(xs[i]?).bind fun x=>(ys[i]?).map fun y=> .tuple [x,y]
 |[],_,_=>by simp[l6]
 |x::r,[],i=>by cases i<;>simp[l6]
 |x::r,y::q,0=>by simp[l6]
 |x::r,y::q,i+1=>by simp only[l6,aak];exact xN r q i
section
variable {K:Ld} {E:XK} {B O Z:cc} {H0 H H':Hp} {σ:L2.St} {ρ ρ':aY} {v:V}
def aau (b:Bool) (O:cc) (K:Ld) (H:Hp) (a:So) (xs:List V):Prop:=match b with
 |true=>XJ O K H a xs
 |false=>Y2 O K H a xs
theorem aau.ev (h:aau b O K H a xs) (e:Ev O H Z H'):aau b Z K H' a xs:=by
 cases b with
 |true=>exact XJ.ev h e
 |false=>exact Y2.ev h e
theorem aau.at (h:aau b O K H a xs):D4 b K H a xs:=by
 cases b with
 |true=>exact(show XJ O K H a xs from h).1
 |false=>exact(show Y2 O K H a xs from h).1.sq
theorem MU (h:aau b1 O K H a xs) (hd:Ur O K H xs ds) (g:aau b2 O K H c ys) (F:Ur O K H ys es):zP K (Re K b1 b2 a c) O H (l6 ds es):=by
 intro Z H' e n;have j:=h.ev e;have f:=hd.ev e;have m:=g.ev e;have l:=F.ev e;rw[yf];refine⟨fun i hi=> ?_,⟨xs,ys,j.at,m.at,?_⟩⟩
 .have w:i<ds.length:=by omega
  have u:i<es.length:=by omega
  obtain⟨x,C,dx⟩:=f.get (SI w);obtain⟨y,A,G⟩:=l.get (SI u);refine⟨⟨xs,ys,x,y,j.at,m.at,C,A⟩,?_⟩;rintro t I ⟨p,L,J,b,rfl,hx',hy',rfl⟩;have r:=hx' xs j.at;have o:=hy' ys m.at;rw[C] at r;rw[A] at o;cases r;cases o;refine⟨b4 b _,.tuple [ds[i],es[i]],?_,.tup ⟨WZ.of aG,fun q=>absurd q (n p b)⟩ (.cons (dx.ev (Ev.grow (b4 b _))) (.cons (G.ev (Ev.grow (b4 b _))) .nil))⟩;rw[xN,SI w,SI u];rfl
 .rw[hd.length,F.length];omega
theorem Lr (h:DV O K H v d) (q:fA d=lD ds):∃b a xs,v= .ref a/\aau b O K H a xs/\Ur O K H xs ds:=by
 cases h with
 |tup h e=>cases q;exact⟨Si,_,_,rfl,h,e⟩
 |lst h e=>cases q;exact⟨Sq,_,_,rfl,h,e⟩
 |_=>cases q
def Ed (fa:FA):FI:=fun ρ=>(fa ρ).bind fun a=>(Res.TB (pP a.2 a.1)).bind fun b=>match b.1 with
 |[d,e]=>(Res.TB (fA d)).bind fun ds=>(Res.TB (fA e)).bind fun f=> .ok (l6 ds f,b.2)
 |_=> .bad
theorem Nh (h:AO K E ta fa):IO K E (Lk K ta) (Ed fa):=by
 intro B H0 O σ H ρ P R w;refine h B H0 O σ H ρ _ R (w.bind.imp fun a b Q vs L r I m=> ?_);obtain⟨⟨ds,i⟩,q,b⟩:=b.TB;obtain⟨J,p,R2,t⟩:=rz I m q;dsimp only at b;cases t with
 |nil=>exact b.elim
 |cons o e=>
  cases e with
  |nil=>exact b.elim
  |cons e n=>
   cases n with
   |cons _ _=>exact b.elim
   |nil=>obtain⟨N,l,b⟩:=WR.TB b;obtain⟨fs,j,b⟩:=WR.TB b;obtain⟨C,G,xs,rfl,g,y⟩:=Lr o l;obtain⟨A,F,M,rfl,f,u⟩:=Lr e j;exact⟨G,F,C,A,rfl,⟨_,g.at⟩,⟨_,f.at⟩,b J _ L (r.trans p) R2 (MU g y f u)⟩
def j8 (d e:D):Option RV:=match d,e with
 | .str z,.int i=>if z.length<=1000000 then(l9 z.cps.toList i).map fun c=> .fz (.str ⟨#[c]⟩) else Sg
 |_,_=>Sg
theorem ve:nM K (QC K) j8:=by
 intro O H x y dx g rv Q n b a e q;unfold j8 at e;split at e
 .split at e
  .rename_i z i f
   cases qa:l9 z.cps.toList i with
   |none=>rw[qa] at e;cases e
   |some c=>rw[qa] at e;cases e;cases b;cases a;exact .inr (.inr ⟨z,i,c,rfl,rfl,sr f,qa,q.at (.str _)⟩)
  .cases e
 .cases e
def zM:List D->Option RV
 |[.str z]=>if z.length<=1000000 then lD (.fz (.int z.length)) else Sg
 |_=>Sg
theorem wc:Gf K (fun xs H Q=>∃x n,xs=[x]/\MR K x H n/\Q (.int n) H) zM:=by
 intro O H xs ds rv Q n a e q;unfold zM at e;split at e
 .split at e
  .rename_i z b
   cases e;cases a with
   |cons g f=>cases f;cases g;exact⟨_,z.length,rfl,⟨sr b,rfl⟩,q.at (.int _)⟩
  .cases e
 .cases e
end
end L3
namespace L3
open PySem L2
def RK (N C:aY->Prop) (T:RV->Prop):Res Fl->Prop
 | .ok (.nx ρ)=>N ρ
 | .ok (.ct ρ)=>C ρ
 | .ok (.rt v)=>T v
 |_=>False
structure Go (r:Res Fl) (N C:aY->Prop) (T:RV->Prop):Prop where
 out:RK N C T r
section
variable {ρ ρ1 Z ρ3:aY} {f g:FS} {fe:FE} {pv:PV} {d:D} {rv:RV} {ds:List D} {N C:aY->Prop} {T:RV->Prop}
theorem Go.eq (e:r=r') (h:Go r' N C T):Go r N C T:=by rw[e];exact h
theorem Go.imp (h:Go r N C T) (b:∀ρ,N ρ->N' ρ) (e:∀ρ,C ρ->C' ρ) (a:∀v,T v->T' v):Go r N' C' T':=by
 refine⟨?_⟩;have h:=h.out;cases r with
 |bad=>exact h
 |er x=>exact h
 |ok i=>
  cases i with
  |nx r=>exact b _ h
  |ct r=>exact e _ h
  |rt v=>exact a _ h
  |bk r=>exact h
theorem Aj (h:Go (f ρ) (fun r=>Go (g r) N C T) C T):Go (ck f g ρ) N C T:=by
 refine⟨?_⟩;have h:=h.out;unfold ck;cases q:f ρ with
 |bad=>rw[q] at h;exact h.elim
 |er x=>rw[q] at h;exact h.elim
 |ok a=>
  rw[q] at h;cases a with
  |nx r=>exact(show Go (g r) N C T from h).out
  |ct r=>exact h
  |rt v=>exact h
  |bk r=>exact h.elim
theorem LM (h:c ρ= .ok (b,ρ1)) (a:b=Si->Go (f ρ1) N C T) (e:b=Sq->Go (g ρ1) N C T):Go (nK c f g ρ) N C T:=by
 unfold nK;rw[h,Res.bind_ok];cases b with
 |true=>exact a rfl
 |false=>exact e rfl
theorem G9 (b:fe ρ= .ok (pv,ρ1)) (a:gt pv ρ1= .ok Z) (h:N Z):Go (fV fe gt ρ) N C T:= .eq (zh b a rfl) ⟨h⟩
theorem vf (a:fe ρ= .ok (pv,ρ1)) (h:N ρ1):Go (rS fe ρ) N C T:= .eq (Bz a) ⟨h⟩
theorem fJ (b:fe ρ= .ok (pv,ρ1)) (a:DM ρ1 pv=lD rv) (h:T rv):Go (eO fe ρ) N C T:= .eq (wD b a) ⟨h⟩
theorem BL (h:N ρ):Go (fO ρ) N C T:=⟨h⟩
theorem Bu (I:Nat->aY->Prop):∀(ds:List D) (k:Nat) (ρ:aY),I k ρ->(∀i d ρ,ds[i]? =lD d->I (k+i) ρ->∃ρ1,gt (.fz d) ρ= .ok ρ1/\Go (b ρ1) (I (k+i+1)) (I (k+i+1)) T)->Go (pE gt b ds ρ) (I (k+ds.length)) C T
 |[],k,ρ,h0,_=>⟨h0⟩
 |d::r,k,ρ,h0,hs=>by
  obtain⟨ρ1,o,a⟩:=hs 0 d ρ rfl h0;have a:=a.out;have l:∀j,I (k+1) j->Go (pE gt b r j) (I (k+(r.length+1))) C T:=fun j h=>by
   have e:k+(r.length+1)=k+1+r.length:=by omega
   rw[e];refine Bu I r (k+1) j h fun i t m hi n=> ?_;have e:k+1+i=k+(i+1):=by omega
   rw[e] at n⊢;exact hs (i+1) t m (by simpa using hi) n
  refine⟨?_⟩;show RK _ _ _ ((gt (.fz d) ρ).bind _);rw[o,Res.bind_ok];cases q:b ρ1 with
  |bad=>rw[q] at a;exact a.elim
  |er x=>rw[q] at a;exact a.elim
  |ok p=>
   rw[q] at a;cases p with
   |nx r=>exact(l _ a).out
   |ct r=>exact(l _ a).out
   |rt v=>exact a
   |bk r=>exact a.elim
theorem On (I:Nat->aY->Prop) (hi:fi ρ= .ok (ds,ρ1)) (j:I 0 ρ1) (a:∀i d ρ,ds[i]? =lD d->I i ρ->∃ρ1,gt (.fz d) ρ= .ok ρ1/\Go (b ρ1) (I (i+1)) (I (i+1)) T) (e:∀ρ',I ds.length ρ'->N ρ'):Go (tK fi gt b ρ) N C T:=by have:=Bu (C:=C) I ds 0 ρ1 j (by simpa using a);rw[UX] at this;exact .eq (Ay hi) (this.imp e (fun _ h=>h) fun _ h=>h)
theorem sM (a:ds.map (fun d=>lD (.fz d))++Sz (n - ds.length) Sg=ρ) (h:Go (g ρ) (fun _=>T (.fz .none)) (fun _=>False) T):∃rv,ic n g ds= .ok rv/\T rv:=by
 have h:=h.out;unfold ic;rw[a];cases q:g ρ with
 |bad=>rw[q] at h;exact h.elim
 |er x=>rw[q] at h;exact h.elim
 |ok b=>
  rw[q] at h;cases b with
  |nx r=>exact⟨_,rfl,h⟩
  |ct r=>exact h.elim
  |rt v=>exact⟨_,rfl,h⟩
  |bk r=>exact h.elim
theorem jE (a:ds.map (fun d=>lD (.fz d))++Sz (n - ds.length) Sg=ρ) (h:Go (g ρ) (fun _=>RV.fz .none=v) (fun _=>False) (fun r=>r=v)):ic n g ds= .ok v:=by obtain⟨rv,e,b⟩:=sM (T:=fun r=>r=v) a h;rw[e,b]
theorem di (b:fe ρ= .ok (pv,ρ1)) (a:gt pv ρ1= .ok Z) (hn:Z=ρ3) (h:Go (g ρ3) N C T):Go (ck (fV fe gt) g ρ) N C T:= .eq (G8 (zh b a hn)) h
theorem ki (b:fe ρ= .ok (pv,ρ1)) (a:DM ρ1 pv=lD rv) (h:T rv):Go (ck (eO fe) g ρ) N C T:= .eq (Gw (wD b a)) ⟨h⟩
theorem gj (h:Go (g ρ) N C T):Go (ck fO g ρ) N C T:= .eq rfl h
theorem oP (i:c ρ= .ok (b,ρ1)) (a:b=Si->Go (ck f1 g ρ1) N C T) (h:b=Sq->Go (ck f2 g ρ1) N C T):Go (ck (nK c f1 f2) g ρ) N C T:=by
 have e:ck (nK c f1 f2) g ρ=if b=Si then ck f1 g ρ1 else ck f2 g ρ1:=by unfold ck nK;rw[i,Res.bind_ok];cases b<;>rfl
 refine .eq e ?_;cases b with
 |true=>exact a rfl
 |false=>exact h rfl
theorem zG (I:Nat->aY->Prop) (hi:fi ρ= .ok (ds,ρ1)) (h:I 0 ρ1) (a:∀i d ρ,ds[i]? =lD d->I i ρ->∃ρ1,gt (.fz d) ρ= .ok ρ1/\Go (b ρ1) (I (i+1)) (I (i+1)) T) (e:∀ρ',I ds.length ρ'->Go (g ρ') N C T):Go (ck (tK fi gt b) g ρ) N C T:=
 Aj (On I hi h a e)
theorem uc (I:aY->Prop) (P:Nat->D->Prop):∀(ds:List D) (k:Nat) (ρ:aY) (a:List D),I ρ->a.length+ds.length<=1000000->(∀i d,ds[i]? =lD d->∀ρ,I ρ->∃x ρ',kF gt ft fe d ρ= .ok (lD x,ρ')/\I ρ'/\P (k+i) x)->
  ∃xs,dS gt ft fe ds ρ a= .ok (a++xs)/\xs.length=ds.length/\∀i x,xs[i]? =lD x->P (k+i) x
 |[],k,ρ,a,_,_,_=>⟨[],by show Res.ok a=_;simp,rfl,fun i x h=>by simp at h⟩
 |d::r,k,ρ,a,h0,hl,hs=>by
  obtain⟨x,ρ',o,n,m⟩:=hs 0 d rfl ρ h0;rw[SJ] at hl;obtain⟨xs,t,q,p⟩:=uc I P r (k+1) ρ' (a++[x]) n (by rw[Su];simp;omega) fun i u hi b l=>by
   have e:k+1+i=k+(i+1):=by omega
   rw[e];exact hs (i+1) u (by simpa using hi) b l
  refine⟨x::xs,?_,by rw[SJ,q,SJ],fun i y j=> ?_⟩
  .rw[sT o (by omega)];show dS gt ft fe r ρ' (a++[x])=_;rw[t,Tw];rfl
  .cases i with
   |zero=>cases(show lD x=lD y from j);exact m
   |succ i=>
    have e:k+(i+1)=k+1+i:=by omega
    rw[e];exact p i y (by simpa using j)
theorem mM (I:aY->Prop) (P:Nat->D->Prop) (e:I ρ) (b:ds.length<=1000000) (a:∀i d,ds[i]? =lD d->∀ρ,I ρ->∃x ρ',kF gt ft fe d ρ= .ok (lD x,ρ')/\I ρ'/\P i x):
  ∃xs,kJ (dS gt ft fe ds ρ [])= .ok xs/\xs.length=ds.length/\∀i x,xs[i]? =lD x->P i x:=by
 obtain⟨xs,l,j,h⟩:=uc I P ds 0 ρ [] e (by simpa using b) (by simpa using a);exact⟨xs,by rw[l];rfl,j,by simpa using h⟩
theorem mI {α:Type} {f:α->D} {Q:Nat->α->Prop}:∀(xs:List D) (k:Nat),(∀i x,xs[i]? =lD x->∃a,x=f a/\Q (k+i) a)->∃as:List α,xs=as.map f/\∀i a,as[i]? =lD a->Q (k+i) a
 |[],_,_=>⟨[],rfl,fun i a h=>by simp at h⟩
 |x::r,k,h=>by
  obtain⟨a,e,q⟩:=h 0 x rfl;obtain⟨as,n,l⟩:=mI (f:=f) (Q:=Q) r (k+1) fun i y m=>by
   have e:k+1+i=k+(i+1):=by omega
   rw[e];exact h (i+1) y (by simpa using m)
  refine⟨a::as,by rw[e,n];rfl,fun i b j=> ?_⟩;cases i with
  |zero=>cases(show lD a=lD b from j);exact q
  |succ i=>
   have e:k+(i+1)=k+1+i:=by omega
   rw[e];exact l i b (by simpa using j)
theorem P8 (ha:Sk.strOk a=Si) (e:Sk.strOk b=Si):cY (.str a) (.str b)=lD (.fz (.bool (a==b))):=by unfold cY;rw[show jv (.str a)=Si by unfold jv;rw[show Sk.canLay0 (.str a)=Si from ha];rfl,show Sk.canLay0 (.str b)=Si from e,T7,if_pos rfl];rfl
theorem K7 (ha:Sk.strOk a=Si):cY (.str a) (.str a)=lD (.fz (.bool Si)):=by rw[P8 ha ha,beq_self_eq_true]
theorem Cd (ha:Sk.strOk a=Si) (e:Sk.strOk b=Si) (h:(a==b)=Sq):cY (.str a) (.str b)=lD (.fz (.bool Sq)):=by rw[P8 ha e,h]
theorem wF {α:Type} {xs:List α} {i:Int} {v:α} (a:0<=i) (h:xs[i.toNat]? =lD v):l9 xs i=lD v:=Nb a h
theorem Pn (a:0<=i) (h:ds[i.toNat]? =lD d):bj (.list ds) (.int i)=lD (.fz d):=by show(l9 ds i).map RV.fz=_;rw[wF a h];rfl
theorem IE {s:List Nat} (e:s.Pairwise (·<·)) (h:∀k∈s,k<n):s.length<=n:=by
 have:∀(s:List Nat) (a:Nat),s.Pairwise (·<·)->(∀k∈s,a<=k/\k<n)->s.length<=n - a:=by
  intro s
  induction s with
  |nil=>intro a _ _;exact Th _
  |cons x r i=>intro a e h;obtain⟨l,j⟩:=Ub.mp e;have m:=h x Sv;have:=i (x+1) j fun k b=>⟨l k b,(h k (Sy _ b)).2⟩;rw[SJ];omega
 exact this s 0 e fun k b=>⟨Th _,h k b⟩
theorem BV (ha:fr ρ= .ok (ps,ρ1)) (hd:pP ρ1 ps=lD ([d,e],Z)) (b:fA d=lD es) (a:fA e=lD fs):Ed fr ρ= .ok (l6 es fs,Z):=by unfold Ed;rw[ha,Res.bind_ok,hd,aH,Res.bind_ok];dsimp only;rw[b,aH,Res.bind_ok,a,aH,Res.bind_ok]
theorem yF {f g:D->D->Option RV} (ha:fa ρ= .ok (pa,ρ)) (j:fb ρ= .ok (pb,ρ)) (i:fc ρ= .ok (pc,ρ)) (b:rX ρ (bS pa)=lD dx) (a:rX ρ (bS pb)=lD dy) (hz:rX ρ pc=lD dz) (h:f dx dy=lD (.fz (.bool b1))) (e:b1=Si->g dy dz=lD (.fz (.bool b2))):sd f g fa fb fc ρ= .ok (.fz (.bool (b1&&b2)),ρ):=by
 unfold sd;rw[ha,Res.bind_ok,j,Res.bind_ok];dsimp only;rw[b,aH,Res.bind_ok,a,aH,Res.bind_ok,h,aH,Res.bind_ok];cases b1 with
 |false=>rfl
 |true=>dsimp only;rw[i,Res.bind_ok];dsimp only;rw[a,aH,Res.bind_ok,hz,aH,Res.bind_ok,e rfl,aH,Res.bind_ok];rfl
end
end L3
namespace L3
open PySem PySem.Spec PyProof.Rows L2 PySem.Builtin PySem.Builtin.Str
section
variable {X:Cx}
theorem Ht {z:Str} {u:Sh} (h:RelV (.str z) u):∃t,u= .str z t:=h
theorem uV:∀{a:List Str} {b:List Sh},Vals (a.map V.str) b->∃l,b=strValues l/\l.map (·.1)=a
 |[],_,.nil=>⟨[],rfl,rfl⟩
 |z::r,_,.cons h t=>by obtain⟨k,rfl⟩:=Ht h;obtain⟨l,rfl,e⟩:=uV t;exact⟨(z,k)::l,rfl,by rw[SN,e]⟩
def Lw (K:Ld):V->List V->Hp->VK->Prop:=fun x xs H Q=>∃a l ts,x= .str a/\xs=[.ref l]/\Xa K H l (ts.map V.str)/\ab0 a ts=Si/\Q (.str (Txt.join a ts)) H
theorem w9:QJ X "str.join" (Lw X.K):=by
 rintro f s j H x xs v m Q I h b ⟨a,l,n,rfl,rfl,hq,T9,q⟩;obtain⟨t,rfl⟩:=Ht h;obtain⟨u,rfl,i⟩:=b.one;cases i;obtain⟨r,rv,pl,p⟩:=I.list hq;obtain⟨e,rfl,rfl⟩:=uV rv;have g:tooLong ((e.map (·.1)).toArray.foldl (·+·.length+a.length) 0)=Sq:=by unfold ab0 at T9;rwa [ab1] at T9
 exact Wt F.slot_str_join (aaK _ _ _) F.entry_str_join (F.args_str_join_2 _ _) (meets_str_join_list a t l e g) ⟨pl.isList,post_join e ⟨joinFit_length g,fun o k=>⟨.str _,H,I.tok k,⟨_,rfl⟩,q⟩⟩⟩
def P0:V->Option Int->Option Int->Hp->VK->Prop:=fun x lo hi H Q=>∃z,x= .str z/\z.length<=SD/\Q (.str (Txt.slice z lo hi)) H
theorem MZ:MF X P0:=by
 rintro b s h H x v p o lo hi r Q I n e pl g ⟨z,rfl,hz,q⟩;obtain⟨t,rfl⟩:=Ht n;refine⟨"str",_,F.slot_str_getitem.lookup,aaK _ _ _,?_⟩;have a:(Txt.slice z lo hi).length<=SD/\∀f k,EP X b h Q (.str (Txt.slice z lo hi) f) {s with toks:=k}:=⟨Tg (Txt.slice_le z _ _) hz,fun f k=>⟨.str _,H,I.tok k,⟨_,rfl⟩,q⟩⟩;cases pl with
 |none=>cases g with
  |none=>exact V6 (l:=Sg) (u:=Sg) (st:=Sg) e rfl (Yh a)
  |int j u=>exact V6 (l:=Sg) (u:=lD (j,u)) (st:=Sg) e rfl (Yh a)
 |int i u=>cases g with
  |none=>exact V6 (l:=lD (i,u)) (u:=Sg) (st:=Sg) e rfl (Yh a)
  |int j m=>exact V6 (l:=lD (i,u)) (u:=lD (j,m)) (st:=Sg) e rfl (Yh a)
end
section
variable {K:Ld} {E:XK} {B O O':cc} {Y H H':Hp} {Z:L2.St} {ρ ρ':aY} {v:V}
def CA:PV->Option Str
 | .fz (.str z)=>lD z
 |_=>Sg
theorem GF {pv:PV} {z:Str} (p:Xn K Y O Z H ρ v pv) (e:CA pv=lD z):v= .str z:=by
 unfold CA at e;split at e
 .cases e;cases(show DV O K H v (.str z) from p);rfl
 .cases e
def RI (K:Ld) (r:V->List V->Hp->VK->Prop) (f:Str->List D->Option RV):Prop:=∀(O:cc) (H:Hp) (z:Str) (xs:List V) (ds:List D) (rv:RV) (Q:VK),nI O H->Paired (DX O K H) xs ds->f z ds=lD rv->Fin O K H Q rv->r (.str z) xs H Q
def OL (f:Str->List D->Option RV) (fo:FE) (fa:FA):FE:=fun ρ=>(fo ρ).bind fun a=>(Res.TB (CA a.1)).bind fun z=>(fa a.2).bind fun b=>(Res.TB (tR b.2 b.1)).bind fun ds=>(Res.TB (f z ds)).bind fun rv=> .ok (rv.pv,b.2)
theorem E6 {r:V->List V->Hp->VK->Prop} {f:Str->List D->Option RV} {to:TE} {ta:TA} {fo:FE} {fa:FA} (o:RI K r f) (p:EO K E to fo) (ha:AO K E ta fa):EO K E (PL K "str" r to ta) (OL f fo fa):=by intro B Y O Z H ρ Q R w;refine p B Y O Z H ρ _ R (w.bind.imp fun a g G x L u A n=> ?_);obtain⟨z,h,g⟩:=g.TB;obtain rfl:=GF n h;refine⟨rfl,?_⟩;refine ha B Y G Z L a.2 _ A (g.bind.imp fun b e F xs J t R2 m=> ?_);obtain⟨ds,j,e⟩:=e.TB;obtain⟨rv,i,e⟩:=e.TB;exact o F J z xs ds rv Q R2.od (wj R2 m j) i (ko R2 fun C v I q y l=>e C v I (u.trans (t.trans q)) y l)
def vn:List D->Option (List Str)
 |[]=>lD []
 | .str b::r=>(vn r).map (b::·)
 |_=>Sg
theorem CZ {O:cc} {H:Hp}:∀{xs:List V} {ds:List D} {bs:List Str},Ur O K H xs ds->vn ds=lD bs->xs=bs.map V.str
 |_,_,_,.nil,e=>by cases e;rfl
 |_,_,bs,.cons (vs:=vs) (ds:=r) h t,e=>by
  cases h with
  |str b=>
   have a:(vn r).map (b::·)=lD bs:=e;cases q:vn r with
   |none=>rw[q] at a;cases a
   |some f=>rw[q] at a;cases a;rw[CZ t q];rfl
  |_=>cases e
theorem Ej (a:List Str):vn (a.map .str)=lD a:=by
 induction a with
 |nil=>rfl
 |cons n r b=>show(vn (r.map .str)).map (n::·)=_;rw[b];rfl
def uf (z:Str):List D->Option RV
 |[.list ds]=>(match vn ds with
  |some a=>if ab0 z a=Si then lD (.fz (.str (Txt.join z a))) else Sg
  |none=>Sg)
 |_=>Sg
theorem qK:RI K (Lw K) uf:=by
 intro O H z xs ds rv Q n h e q;unfold uf at e;split at e
 .rename_i j
  cases qs:vn j with
  |none=>rw[qs] at e;cases e
  |some g=>
   rw[qs] at e;dsimp only at e;split at e
   .rename_i i
    cases e;cases h with
    |cons f b=>cases b;obtain⟨a,l,rfl,f,b⟩:=Cl f;have:=CZ b qs;subst this;exact⟨z,a,g,rfl,rfl,f.sq,i,q.at (.str _)⟩
   .cases e
 .cases e
def xb:D->Option Int->Option Int->Option RV
 | .str z,lo,hi=>if z.length<=1000000 then lD (.fz (.str (Txt.slice z lo hi))) else Sg
 |_,_,_=>Sg
theorem Ig:Qx K P0 xb:=by
 intro O H x lo hi dx rv Q n a e q;unfold xb at e;split at e
 .split at e
  .rename_i b;cases e;cases a;exact⟨_,rfl,sr b,q.at (.str _)⟩
  .cases e
 .cases e
end
end L3
namespace PySem
open Sem (wp)
open AutoSeq1 (wpAny_loadPart')
open Builtin Builtin.Str
end PySem
namespace PySem
open Sem (wp)
open Builtin Builtin.Str
end PySem
namespace L3
open PySem PySem.Spec PyProof.Rows L2 PySem.Builtin
end L3
namespace L3
open PySem L2
end L3
namespace L2
open PySem PySem.Spec PyProof.Rows
end L2
namespace L3
open PySem PySem.Spec L2
end L3
namespace L2
open PySem PySem.Spec PyProof.Rows
section
variable {κ:Type} [DecidableEq κ]
def j9 (S4:List (κ×V)) (k:κ):Option V:=(S4.find? fun a=>decide (a.1=k)).map (·.2)
def jc (S4:List (κ×V)) (k:κ) (v:V):List (κ×V):=
 if(S4.any fun a=>decide (a.1=k))=Si then S4.map (fun a=>if a.1=k then(a.1,v) else a) else S4++[(k,v)]
def nr (S4:List (κ×V)) (k:κ):List (κ×V):=S4.filter fun a=>decide (a.1≠k)
theorem rF {k:κ} (e:p.1=k):j9 (p::r) k=lD p.2:=by simp[j9,Tu,e]
theorem qU {k:κ} (e:¬p.1=k):j9 (p::r) k=j9 r k:=by simp[j9,Tu,e]
theorem yO (k:κ):∀S4:List (κ×V),(S4.any fun kv=>decide (kv.1=k))=(j9 S4 k).isSome
 |[]=>rfl
 |p::r=>by
  rw[Wj];by_cases e:p.1=k
  .simp only[rF e,decide_eq_true e,U9,abf]
  .rw[qU e,decide_eq_false e,Wi];exact yO k r
theorem kY (S4:List (κ×V)) (k:κ) (v:V):(jc S4 k v).length<=S4.length+1:=by
 unfold jc;split
 .rw[Sj];omega
 .rw[Su,SJ,UM];omega
theorem WJ.XN (r:WJ o u):o.isSome=u.isSome:=by
 cases o with
 |none=>cases u with
  |none=>rfl
  |some _=>exact(show False from r).elim
 |some _=>cases u with
  |none=>exact(show False from r).elim
  |some _=>rfl
theorem KV.val {S4:List (κ×V)} {vs:List (κ×Sh)} (r:KV S4 vs) (k:κ):WJ (j9 S4 k) (valueAt vs k):=by
 unfold KV at r
 induction r with
 |nil=>exact True.intro
 | @cons p q ps qs h t ih=>
  obtain⟨f,g⟩:=h;by_cases e:p.1=k
  .have a:q.1=k:=f.symm.trans e
   have b:valueAt (q::qs) k=lD q.2:=by simp[valueAt,Tu,a]
   rw[rF e,b];exact g
  .have a:¬q.1=k:=fun z=>e (f.trans z)
   have b:valueAt (q::qs) k=valueAt qs k:=by simp[valueAt,Tu,a]
   rw[qU e,b];exact ih
theorem KV.any (r:KV S4 vs) (k:κ):(S4.any fun kv=>decide (kv.1=k))=vs.any fun kv=>decide (kv.1=k):=by
 unfold KV at r
 induction r with
 |nil=>rfl
 |cons h t a=>rw[Wj,Wj,a,h.1]
theorem KV.aep (r:KV S4 vs) (k:κ) (b:RelV y u):
  KV (S4.map fun kv=>if kv.1=k then(kv.1,y) else kv) (vs.map fun kv=>if kv.1=k then(kv.1,u) else kv):=by
 unfold KV at r⊢
 induction r with
 |nil=>exact .nil
 | @cons p q ps qs h t ih=>
  rw[SN,SN];refine .cons ?_ ih;obtain⟨a,f⟩:=h;by_cases e:p.1=k
  .rw[if_pos e,if_pos (a.symm.trans e)];exact⟨a,b⟩
  .rw[if_neg e,if_neg (fun z=>e (a.trans z))];exact⟨a,f⟩
theorem KV.put (r:KV S4 vs) (k:κ) (a:RelV y u):KV (jc S4 k y) (stored vs k u):=by
 unfold jc stored;rw[r.any k];by_cases e:(vs.any fun b=>decide (b.1=k))=Si
 .rw[if_pos e,if_pos e];exact r.aep k a
 .rw[if_neg e,if_neg e];exact Paired.snoc r ⟨rfl,a⟩
theorem KV.drop (r:KV S4 vs) (k:κ):KV (nr S4 k) (without vs k):=by
 unfold KV at r⊢;unfold nr without
 induction r with
 |nil=>exact .nil
 | @cons p q ps qs h t ih=>
  obtain⟨f,g⟩:=h;rw[We,We];by_cases e:p.1=k
  .have a:¬decide (p.1≠k)=Si:=by simp[e]
   have b:¬decide (q.1≠k)=Si:=by simp[f.symm.trans e]
   rw[if_neg a,if_neg b];exact ih
  .have i:¬q.1=k:=fun z=>e (f.trans z)
   have a:decide (p.1≠k)=Si:=by simp[e]
   have b:decide (q.1≠k)=Si:=by simp[i]
   rw[if_pos a,if_pos b];exact .cons ⟨f,g⟩ ih
theorem KV.keys {vs:List (κ×Sh)} (r:KV S4 vs):S4.map (·.1)=vs.map (·.1):=by
 unfold KV at r
 induction r with
 |nil=>rfl
 |cons h t a=>rw[SN,SN,a,h.1]
theorem KV.length (r:KV S4 vs):S4.length=vs.length:=Paired.length r
theorem G0 (S4:List (κ×V)) (k:κ):(nr S4 k).length<=S4.length:=Wc _ _
end
theorem uQ (r:RelV (kV k) u):(cP P w).is k u=Si:=by
 cases k with
 |inl i=>obtain⟨t,e⟩:=(show∃t,u=Sh.int i t from r);subst e;exact yW P w i t
 |inr x=>obtain⟨t,e⟩:=(show∃t,u=Sh.str x t from r);subst e;exact yc P w x t
theorem ui:∀{ks:List cJ} {us:List Sh},Vals (ks.map kV) us->ItemsAre (cP P w) ks us
 |[],_,r=>by rw[Wz] at r;cases r;exact .nil
 |k::ks,_,r=>by
  rw[SN] at r;cases r with
  |cons h t=>exact .cons (uQ h) (ui t)
abbrev KT (H:Hp):List (List cJ×V)->List (List cJ×So×Sh)->Prop:=Paired fun p q=>p.1=q.1/\H q.2.1=lD (.tup (p.1.map kV))/\RelV p.2 q.2.2
theorem KT.val (r:KT H S4 xs) (k:List cJ):WJ (j9 S4 k) ((atKey xs k).map (·.2)):=by
 induction r with
 |nil=>exact True.intro
 | @cons p q ps qs h t ih=>
  obtain⟨f,_,g⟩:=h;by_cases e:p.1=k
  .have a:=f.symm.trans e
   have b:atKey (q::qs) k=lD q.2:=by simp[atKey,Tu,a]
   rw[rF e,b];exact g
  .have a:¬q.1=k:=fun z=>e (f.trans z)
   have b:atKey (q::qs) k=atKey qs k:=by simp[atKey,Tu,a]
   rw[qU e,b];exact ih
theorem KT.aep (r:KT H S4 xs) (k:List cJ) (f:RelV y u):
  KT H (S4.map fun kv=>if kv.1=k then(kv.1,y) else kv) (xs.map (putAt k u)):=by
 induction r with
 |nil=>exact .nil
 | @cons p q ps qs h t ih=>
  rw[SN,SN];refine .cons ?_ ih;obtain⟨a,b,g⟩:=h;unfold putAt;by_cases e:p.1=k
  .rw[if_pos e,if_pos (a.symm.trans e)];exact⟨a,b,f⟩
  .rw[if_neg e,if_neg (fun z=>e (a.trans z))];exact⟨a,b,g⟩
theorem KT.put (r:KT H S4 xs) (k:List cJ) (g:H b=lD (.tup (k.map kV))) (a:RelV y u):
  KT H (jc S4 k y) (storedH xs k b u):=by
 have e:(S4.any fun f=>decide (f.1=k))=(atKey xs k).isSome:=by rw[yO,(r.val k).XN,Yz]
 unfold jc storedH;rw[e];by_cases q:(atKey xs k).isSome=Si
 .rw[if_pos q,if_pos q];exact r.aep k a
 .rw[if_neg q,if_neg q];exact Paired.snoc r ⟨rfl,g,a⟩
theorem KT.keeps (r:KT H S4 xs) (a:∀b ys,H b=lD (.tup ys)->H' b=lD (.tup ys)):KT H' S4 xs:=
 Paired.WK r fun _ _ z=>⟨z.1,a _ _ z.2.1,z.2.2⟩
section
variable {P:S0} {w:Tn} {H:Hp} {h:Heap} {a:So}
theorem LO (ok:XQ P w H h) (e:Rd H a u):ObjOk P w H h a u:=e.ok ok
theorem yN (ok:XQ P w H h) (e:Rd H a (.dK S4)):S4.length<=SD/\(a==UK)=Sq/\∃vs,KV S4 vs/\h.DictOf (cP P w) a vs:=
 show ObjOk P w H h a (.dK S4) from LO ok e
theorem xu (ok:XQ P w H h) (e:H a=lD (.dK S4)):S4.length<=SD/\(a==UK)=Sq/\∃vs,KV S4 vs/\h.DictOf (cP P w) a vs:=yN ok (.inl e)
theorem wZ {ks:List cJ} (ok:XQ P w H h) (e:H a=lD (.tup (ks.map kV))):(tupleKind (cP P w)).is h ks a:=by obtain⟨_,i,r,o,g,⟨f,n,b⟩,_⟩:=(show ObjOk P w H h a (.tup (ks.map kV)) from ok a _ e);exact⟨o,i.toArray,n,g,f,b,by simpa using ui r⟩
theorem xG (ok:XQ P w H h) (e:Rd H a (.dT S4)):S4.length<=SD/\(a==UK)=Sq/\
  ∃xs,KT H S4 xs/\h.DictOfH (tupleKind (cP P w)) a xs:=by
 obtain⟨z,y,xs,r,o,u,v,n,j,i,g,f⟩:=(show ObjOk P w H h a (.dT S4) from LO ok e);refine⟨z,y,xs,r,o,u,v,n,j,i,g,fun x b=> ?_,f⟩;have all:∀{l:List (List cJ×V)} {m:List (List cJ×So×Sh)},KT H l m->∀x∈m,(tupleKind (cP P w)).is h x.1 x.2.1:=by
  intro l m q
  induction q with
  |nil=>intro x b;exact nomatch b
  | @cons p q ps qs hq t ih=>
   intro x b;rcases SS.mp b with e|b
   .subst e;exact wZ ok (by rw[<-hq.1];exact hq.2.1)
   .exact ih x b
 exact all r x b
theorem Pd (ok:XQ P w H h) (e:H a=lD (.dT S4)):S4.length<=SD/\(a==UK)=Sq/\
  ∃xs,KT H S4 xs/\h.DictOfH (tupleKind (cP P w)) a xs:=xG ok (.inl e)
end
def ZX (H:Hp) (a:So) (y:V) (r:Option V):Prop:=
 (∃S4 k,Rd H a (.dK S4)/\y=kV k/\r=j9 S4 k)\/∃S4 k b,Rd H a (.dT S4)/\y= .ref b/\H b=lD (.tup (k.map kV))/\r=j9 S4 k
def ab8 (H:Hp) (a:So) (y v:V) (H':Hp):Prop:=
 (∃S4 k,H a=lD (.dK S4)/\y=kV k/\S4.length<SD/\H'=bx H a (.dK (jc S4 k v)))\/
 ∃S4 k b,H a=lD (.dT S4)/\y= .ref b/\H b=lD (.tup (k.map kV))/\S4.length<SD/\H'=bx H a (.dT (jc S4 k v))
theorem ZX.k {k:cJ} (e:H a=lD (.dK S4)):ZX H a (kV k) (j9 S4 k):= .inl ⟨S4,k,.inl e,rfl,rfl⟩
theorem ab8.k {k:cJ} (e:H a=lD (.dK S4)) (b:S4.length<SD):ab8 H a (kV k) v (bx H a (.dK (jc S4 k v))):= .inl ⟨S4,k,e,rfl,b,rfl⟩
section
variable {X:Cx} {Z:List (So×Obj)} {Y:St} {H:Hp} {s:Sr} {a:So} {y v:V} {u r:Sh} {o:Option V} {A:Tc} {E:Sh->Sr->Prop}
theorem Inv.big (I:Inv X Z Y H s):UK<s.heap.objs.size:=by have h:=(I.mod.glob.keeps I.bk).lt;exact V3 (by decide) h
theorem Df {Q:Sh->Sr->Prop} (t:A.units+1<cLine) (I:Inv X Z Y H s) (g:ZX H a y (lD v)) (q:RelV y u) (h:∀w' s',Inv X Z Y H s'->RelV v w'->Q w' s'):
  wpAny (model X.prog X.w) A (getItem (.ref a) u) Q E s:=by
 rcases g with⟨S4,k,e,n,l⟩|⟨S4,k,b,e,n,F,l⟩
 .subst n;obtain⟨z,C,vs,i,dd⟩:=yN I.T9 e;obtain⟨w',j,f⟩:=WJ.some_of (v:=v) (o:=valueAt vs k) (by rw[l];exact i.val k);exact wpAny_getItem_of (uQ q) dd.mapOf j (h w' _ (I.tok _) f)
 .subst n;cases(show u=Sh.ref b from q);obtain⟨z,C,xs,i,dd⟩:=xG I.T9 e;obtain⟨w',j,f⟩:=WJ.some_of (v:=v) (o:=(atKey xs k).map (·.2)) (by rw[l];exact i.val k);obtain⟨p,B,m⟩:=aac.mp j;refine adK (Zb t) (wZ I.T9 F) dd B ?_;rw[m];exact h w' _ (I.tok _) f
theorem Ri {Q:Sh->Sr->Prop} (n:A.units+1<cLine) (I:Inv X Z Y H s) (g:ZX H a y o) (m:RelV y u) (h:∀s',Inv X Z Y H s'->Q (.bool o.isSome) s'):
  wpAny (model X.prog X.w) A (Up .In u (.ref a)) Q E s:=by
 rcases g with⟨S4,k,e,j,l⟩|⟨S4,k,b,e,j,p,l⟩
 .subst j;obtain⟨z,i,vs,f,dd⟩:=yN I.T9 e;refine wpAny_in_of (uQ m) i dd.mapOf ?_;rw[<-(f.val k).XN,<-l];exact h _ (I.tok _)
 .subst j;cases(show u=Sh.ref b from m);obtain⟨z,i,xs,f,dd⟩:=xG I.T9 e;refine wpAny_in_heap (Zb n) (wZ I.T9 p) i dd ?_;have q:=(f.val k).XN;rw[Yz] at q;rw[<-q,<-l];exact h _ (I.tok _)
theorem qv {h':Heap} {t':Nat} {f:HO} (I:Inv X Z Y H s) (g:Ps (H a)) (h:Heap.SameBut a s.heap h') (i:∃q,h'.get? a=lD q) (new:ObjOk X.prog X.w (bx H a f) h' a f):
  Inv X Z Y (bx H a f) {s with heap:=h',toks:=t'}:=
 I.write (x:=a) (e:=a) g (.inl rfl) (fun b q j z=>(h.2 b j).trans z) i new
theorem zm (z:S4.length<=SD) (hd:(a==UK)=Sq) (b:KV S4 vs) (dd:h'.DictOf (cP P w) a vs):
  ObjOk P w H' h' a (.dK S4):=⟨z,hd,vs,b,dd⟩
theorem DA {H':Hp} {Q:Unit->Sr->Prop} (L:A.units+1<cLine) (I:Inv X Z Y H s) (g:ab8 H a y v H') (F:RelV y u) (rv:RelV v r) (h:∀s',Inv X Z Y H' s'->Q () s'):
  wpAny (model X.prog X.w) A (setItem (.ref a) u r) Q E s:=by
 rcases g with⟨S4,k,e,B,l,C⟩|⟨S4,k,b,e,B,K,l,C⟩
 .subst B C
  obtain⟨z,t,vs,f,dd⟩:=xu I.T9 e;have m:vs.length<=SD:=by rw[<-f.length];exact z
  have p:(jc S4 k v).length<=SD:=by have:=kY S4 k v;omega
  refine wpAny_setItem_pairs (hsz:=m) (uQ F) dd fun G i n=>h _ ?_;have M:∃q,G.get? a=lD q:=let⟨q,_,_,j,_⟩:=i;⟨q,j⟩
  exact qv I (by rw[e];exact True.intro) n M (zm p t (f.put k rv) i)
 .subst B C
  cases(show u=Sh.ref b from F);obtain⟨z,t,xs,f,dd⟩:=Pd I.T9 e;have m:xs.length<=SD:=by rw[<-Paired.length f];exact z
  have p:(jc S4 k v).length<=SD:=by have:=kY S4 k v;omega
  refine adL (hsz:=m) (Zb L) (wZ I.T9 K) dd fun G i n=>h _ ?_;obtain⟨q,S,T,j,R,P,O,_,N⟩:=i;refine qv I (by rw[e];exact True.intro) n ⟨q,j⟩ ⟨p,t,_,(f.put k K rv).keeps fun c U J=> ?_,q,S,T,j,R,P,O,N⟩;rw[ay (Qq J e (fun z=>nomatch z))];exact J
end
section
variable {X:Cx} {Z:List (So×Obj)} {σ:St} {H:Hp} {s:Sr} {a:So} {Y:List (cJ×V)} {k:cJ} {u:Sh} {A:Tc} {E:Sh->Sr->Prop}
theorem Po {v:V} {b:List Sh} {Q:Sh->Sr->Prop} (I:Inv X Z σ H s) (e:H a=lD (.dK Y)) (j:RelV (kV k) u) (l:j9 Y k=lD v) (hm:b=[]\/∃x,b=[x])
  (h:∀w' s',Inv X Z σ (bx H a (.dK (nr Y k))) s'->RelV v w'->Q w' s'):wpAny (model X.prog X.w) A (call (.builtin "dict.pop") (.ref a::u::b)) Q E s:=by
 obtain⟨z,B,vs,f,dd⟩:=xu I.T9 e;obtain⟨w',n,m⟩:=WJ.some_of (v:=v) (o:=valueAt vs k) (by rw[<-l];exact f.val k);have r:(keyPart u).isSome=Si:=by
  cases k with
  |inl i=>obtain⟨t,q⟩:=(show∃t,u=Sh.int i t from j);subst q;rfl
  |inr x=>obtain⟨t,q⟩:=(show∃t,u=Sh.str x t from j);subst q;rfl
 have ha:argsOk "dict.pop" ⟨.ref a::u::b,[]⟩:=by
  rcases hm with q|⟨x,q⟩
  .subst q;exact PySem.F.args_dict_pop_2 _ _
  .subst q;exact PySem.F.args_dict_pop_3 _ _ _
 refine call_meetsIn aad dd.typeIs PySem.F.entry_dict_pop ha (meets_dict_pop_there (cP X.prog X.w) a (uQ j) b hm r)
  ⟨vs,w',dd,by rw[<-f.length];exact z,n,fun C g p=>h w' _ ?_ m⟩
 have y:∃q,C.get? a=lD q:=let⟨q,_,_,hq,_⟩:=g;⟨q,hq⟩
 exact qv I (by rw[e];exact True.intro) p y (zm (Tg (G0 Y k) z) B (f.drop k) g)
end
def Nj (i:TF):Prop:=∀ov iv,subscripted i Sq ov iv=operate [ov,iv] (getItem ov iv)
theorem CS {T l:String}
  (n:typeLookup (.type T) "__getitem__"=pure (lD (.builtin l))) (m:Nj slice)
  (h:wpAny (model prog w) A (eval value env) (fun o s₁=>wpAny (model prog w) A (eval slice env) (fun i s₂=>s₂.TypeIs o T/\wpAny (model prog w) A (getItem o i) Q E s₂) E s₁) E s):
  wpAny (model prog w) A (eval (.Subscript value slice pos) env) Q E s:=by
 refine Subscript_ (wpAny_mono h (fun o s₁ g=>wpAny_mono g (fun i s₂ a=> ?_) fun _ _ x=>x) fun _ _ x=>x);obtain⟨j,a⟩:=a;unfold subscriptTail;refine Sf ?_;rw[getitemInPython_of_ne j.not_modules];refine Sf (Yi j n ?_);have e:wpAny (model prog w) A (subscripted slice Sq o i) (fun r b=>wpAny (model prog w) A (letTemporaryGo value o r>>=fun _=>pure r) Q E b) E s₂:=by rw[m o i];exact wpAny_operating (wpAny_mono a (fun r b f=>Sf (wpAny_letTemporaryGo (Ss f))) fun _ _ x=>x)
 first
  |exact Ss (Sf e)
  |exact Sf (Ss (Sf e))
  |exact Sf e
theorem yU (I:Inv X pins σ H s) (g:ZX H a y o):s.TypeIs (.ref a) "dict":=by
 rcases g with⟨S4,k,e,_,_⟩|⟨S4,k,b,e,_,_,_⟩
 .obtain⟨_,_,vs,_,dd⟩:=yN I.T9 e;exact dd.typeIs
 .obtain⟨_,_,xs,_,dd⟩:=xG I.T9 e;exact dd.typeIs
def Lp (f ty:TE):TE:=fun b H Q=>f b H fun x g=>ty b g fun y e=>∃a v,x= .ref a/\ZX e a y (lD v)/\Q v e
def Qr (ty f:TE):TE:=fun b H Q=>ty b H fun y g=>f b g fun x e=>∃a o,x= .ref a/\ZX e a y o/\Q (.bl o.isSome) e
def K8 (f ty e:TE):TS:=fun D b H=>e b H fun v i=>f b i fun x h=>ty b h fun y g=>∃a H4,x= .ref a/\ab8 g a y v H4/\D.nx b H4
section
variable {X:Cx} {o i e Z:TF} {pos Y ahT:Pos} {T U tv:TE}
theorem BF (t:X.A.units+1<cLine) (B:PE X o T) (hi:PE X i U) (w:Nj i):PE X (.Subscript o i pos) (Lp T U):=by intro b s j H Q I h;refine CS Zo.lookup w (cz (B b s j H _ I h) fun u m ⟨x,J,F,p,r⟩=>cz (hi b m j J _ F r) fun N M ⟨y,G,l,n,a,v,C,g,q⟩=> ?_);subst C;obtain rfl:=p;exact⟨yU l g,Df t l g n fun K L E f=>⟨v,G,E,f,q⟩⟩
theorem L6 (r:X.A.units+1<cLine) (hi:PE X i U) (t:PE X o T):PC X .In i o (Qr U T):=by intro b s f H Q I h;refine cz (hi b s f H _ I h) fun K j ⟨y,F,C,l,p⟩=>cz (t b j f F _ C p) fun u J ⟨x,E,B,m,a,q,v,g,n⟩=> ?_;subst v;obtain rfl:=m;exact Ri r B g l fun G w=>⟨.bl q.isSome,E,w,rfl,n⟩
theorem IH (B:X.A.units+1<cLine) (E:PE X o T) (hi:PE X i U) (w:PE X Z tv) (C:Uk Z (lD (.Subscript o i Y)) pos.line X.env=pure Sq):
  PS X (.Assign [.Subscript o i Y] Z pos) (K8 T U tv):=by
 intro b s f H D I h;refine ab2 (cz (w b s f H _ I h) fun r l ⟨v,O,L,rv,t⟩=>cz (E b l f O _ L t) fun u j ⟨x,N,K,n,q⟩=>cz (hi b j f N _ K q) fun R Q ⟨y,S,J,m,a,M,F,g,p⟩=> ?_) C;subst F;obtain rfl:=n;exact DA B J g m rv fun P G=>⟨f,M,G,p⟩
end
def nX (S4 a:List (cJ×V)):List (cJ×V):=a.foldl (fun b e=>jc b e.1 e.2) S4
theorem KV.merge:∀{a:List (cJ×V)} {b:List (cJ×Sh)} {S4:List (cJ×V)} {vs:List (cJ×Sh)},KV a b->KV S4 vs->KV (nX S4 a) (merged vs b):=by
 intro a b S4 vs r;unfold KV at r
 induction r generalizing S4 vs with
 |nil=>intro q;exact q
 | @cons p q ps qs h t ih=>
  intro r0;have e:KV (jc S4 p.1 p.2) (stored vs q.1 q.2):=by have:=r0.put p.1 h.2;rw[<-h.1];exact this
  exact ih e
theorem lP:∀(a S4:List (cJ×V)),(nX S4 a).length<=S4.length+a.length
 |[],S4=>by show S4.length<=S4.length+0;omega
 |p::r,S4=>by have e:=lP r (jc S4 p.1 p.2);have b:=kY S4 p.1 p.2;show(nX (jc S4 p.1 p.2) r).length<=_;rw[SJ];omega
structure M1 (X:Cx) (o:TF) (m:Str) (apos:Pos) (e:TF) (VQ:Pos):Prop where
 base:attributeBase o m X.env (eval o X.env)=eval o X.env
 few:((backTo VQ (SY [e] X.env)).all (fun x=> !x.1)&&(backToKw VQ (keywordEach [] X.env)).all (fun x=>x.1.isSome)
  &&decide (([e]:List TF).length+([]:List Zp).length+(if([]:List Zp).isEmpty then 0 else 1)<30))=Si
 line:(apos.endLine==VQ.line)=Si
 trees:backTo VQ (SY [e] X.env)=[(Sq,eval e X.env)]
structure M2 (X:Cx) (o:TF) (m:Str) (apos:Pos) (e f:TF) (VQ:Pos):Prop where
 base:attributeBase o m X.env (eval o X.env)=eval o X.env
 few:((backTo VQ (SY [e,f] X.env)).all (fun x=> !x.1)&&(backToKw VQ (keywordEach [] X.env)).all (fun x=>x.1.isSome)
  &&decide (([e,f]:List TF).length+([]:List Zp).length+(if([]:List Zp).isEmpty then 0 else 1)<30))=Si
 line:(apos.endLine==VQ.line)=Si
 trees:backTo VQ (SY [e,f] X.env)=[(Sq,eval e X.env),(Sq,eval f X.env)]
def RB (H:Hp) (a:So):Prop:=(∃S4,Rd H a (.dK S4))\/∃S4,Rd H a (.dT S4)
theorem OA (I:Inv X pins σ H s) (d:RB H a):
  s.TypeIs (.ref a) "dict"/\(∀b,Sh.ref a= .ref b->∃ob,s.heap.get? b=lD ob/\ob.dict=Sg)/\(a==UK)=Sq:=by
 rcases d with⟨S4,e⟩|⟨S4,e⟩
 .obtain⟨_,f,vs,_,dd⟩:=yN I.T9 e;refine⟨dd.typeIs,fun b q=> ?_,f⟩;cases q;obtain⟨ob,_,_,h,g,_⟩:=dd;exact⟨ob,h,g.2.1⟩
 .obtain⟨_,f,xs,_,dd⟩:=xG I.T9 e;refine⟨dd.typeIs,fun b q=> ?_,f⟩;cases q;obtain⟨ob,_,_,h,g,_⟩:=dd;exact⟨ob,h,g.2.1⟩
def Ei (g ty:TE):TE:=fun b H Q=>g b H fun x f=>∃a,x= .ref a/\RB f a/\ty b f fun y e=>∃S4 k v,e a=lD (.dK S4)/\y=kV k/\j9 S4 k=lD v/\Q v (bx e a (.dK (nr S4 k)))
section
variable {X:Cx} {o e f:TF} {Z VQ:Pos} {td ty tx:TE}
theorem EK (B:PE X o td) (C:PE X e ty) (m:M1 X o "pop" Z e VQ):PE X (.Call (.Attribute o "pop" Z) [e] [] VQ) (Ei td ty):=by intro b s i H Q I h;refine wpAny_Call_method m.base m.few m.line WX aad PySem.F.type_dict_pop (cz (B b s i H _ I h) fun u q ⟨x,M,j,t,a,G,d,A⟩=> ?_);subst G;obtain rfl:=t;obtain⟨p,n,_⟩:=OA j d;refine⟨p,n,?_⟩;rw[m.trees];refine Calls.callWith_builtin rfl (Calls.evalArgs_plain (Calls.spliced_cons (cz (C b q i M _ j A) fun R P ⟨y,S,L,r,S4,k,v,J,E,l,w⟩=>Calls.spliced_nil ?_)));subst E;exact Po L J r l (.inl rfl) fun N O K g=>⟨v,_,K,g,w⟩
end
end L2
namespace HT
open PySem PySem.Spec PyProof.Rows PySem.Calls
end HT
namespace L2
open PySem PySem.Spec PyProof.Rows
end L2
namespace PySem
open Sem (wp)
open Builtin
open AutoSeq1 (wpAny_loadPart')
end PySem
namespace L3
open PySem PySem.Spec PyProof.Rows L2
end L3
namespace L4
open PySem PySem.Spec PyProof.Rows L2 L3
def HV (h:Heap) (e:So) (c:Sh) (dx:Option So) (a:Sh) (hd:Option So):Prop:=
 ∃ob fs,h.get? e=lD ob/\ob.cls=c/\ob.dict=dx/\ob.data= .fields fs/\fs[0]? =lD a/\
  match hd with
  |none=>fs[1]? =lD .none
  |some T=>fs[1]? =lD (.ref T)/\T≠e/\∃oT ts,h.get? T=lD oT/\oT.data= .fields ts/\ts[3]? =lD .none
structure Lft (l:List Env) (e:So) (hd:Option So) (h h':Heap):Prop where
 keep:∀b o,h.get? b=lD o->b≠e->hd≠lD b->b∉yp l->h'.get? b=lD o
 slot:∀b o,h.get? b=lD o->b≠e->hd≠lD b->∃sl,h'.get? b=lD {o with slots:=sl}
 here:∀b o,h.get? b=lD o->∃o',h'.get? b=lD o'
section
variable {M:aaI} {A:Tc} {E:Sh->Sr->Prop} {s:Sr}
theorem jQ
  (I:A.frames=lD (env::outer)) (B:s.heap.FunFrames base (env::outer)) (H:env.frame=lD L) (C:s.heap.get? e=lD ob) (p:ob.data= .fields fs) (m:1<fs.size) (J:fs[0]? =lD a0)
  (k:∀h' T,s.heap.objs.size<=T->HV h' e ob.cls ob.dict a0 (lD T)->Lft (env::outer) e Sg s.heap h'->Q () {s with heap:=h'}):
  wpAny M A (frameOf env>>=fun fr=>entryPlaceOf L nx>>=fun pl=>EntryCells.newEntry hv fr .none (rawInt L) .none pl>>=fun b=>setField (.ref e) 1 b) (fun _ s'=>wpAny M A (setFlight (.ref e) Sg) Q E s') E s:=by
 have j:e∉(env::outer).filterMap (·.frame):=fun z=>by obtain⟨_,o,q,n⟩:=B.mem z;rw[C] at q;cases q;exact n fs p
 refine Sf (wpAny_frameOf_fun I B H fun a S=> ?_);refine Sf (wpAny_entryPlaceOf fun pl P=> ?_);unfold EntryCells.newEntry newFields;refine Sf (T5 ?_ (P.sizeOk5 _ _ _ _ _));have y:=(S.2.1 e j).trans C;generalize hN:({cls:= .type "traceback",dict:=Sg,data:= .fields ([hv,.ref L,.none,rawInt L,.none]++(if pl.isEmpty then Sz 6 Sh.none else pl)).toArray}:Obj)=N;have g:N.data= .fields ([hv,.ref L,.none,rawInt L,.none]++(if pl.isEmpty then Sz 6 Sh.none else pl)).toArray:=by rw[<-hN]
 have K:=Obj.isFreed_of_fields g;have w:=Heap.get?_push_of_some N y;refine Va w p m ?_;have l:=TY (Heap.lt_size y);have r:=Obj.data_mapFields p (·.setIfInBounds 1 (Sh.ref a.objs.size));have i:=Heap.get?_update_self (Obj.mapFields (·.setIfInBounds 1 (Sh.ref a.objs.size))) w (Obj.isFreed_of_fields r)
 have u:=
  (Heap.get?_update_other (a.push N) (Obj.mapFields (·.setIfInBounds 1 (Sh.ref a.objs.size))) l.symm).trans (Heap.get?_push_size a K)
 unfold setFlight;refine Sf (Tz i r (x:= .ref a.objs.size) (by simp[m]) ?_);rw[if_pos (show(Sh.ref a.objs.size !=Sh.none)=Si from by simp)];have t:3<([hv,.ref L,.none,rawInt L,.none]++(if pl.isEmpty then Sz 6 Sh.none else pl)).toArray.size:=by simp only[SE,Su,SJ,UM];omega
 refine Va u g t ?_;have v:=Heap.get?_update_other ((a.push N).update e (Obj.mapFields (·.setIfInBounds 1 (Sh.ref a.objs.size)))) (Obj.mapFields (·.setIfInBounds 3 ((Sg:Option So).elim Sh.none fun f=>rawInt f))) l;have F:=Heap.get?_update_self (Obj.mapFields (·.setIfInBounds 3 ((Sg:Option So).elim Sh.none fun f=>rawInt f))) u (Obj.isFreed_of_fields (Obj.data_mapFields g _));have Xb:∀b o,b≠e->a.get? b=lD o->(((a.push N).update e (Obj.mapFields (·.setIfInBounds 1 (Sh.ref a.objs.size)))).update a.objs.size (Obj.mapFields (·.setIfInBounds 3 ((Sg:Option So).elim Sh.none fun f=>rawInt f)))).get? b=lD o:=fun b o ne q=>by rw[Heap.get?_update_other _ _ (TY (Heap.lt_size q)),Heap.get?_update_other _ _ ne.symm];exact Heap.get?_push_of_some N q
 refine k _ a.objs.size (by rw[S.1];exact Sw _) ⟨_,_,v.trans i,Obj.cls_mapFields _ _,?_,r,?_,?_,l,_,_,F,Obj.data_mapFields g _,?_⟩ ⟨fun b o q ne _ G=>Xb b o ne ((S.2.1 b G).trans q),fun b o q ne _=> ?_,fun b o q=> ?_⟩
 .cases ob with
  |mk c d O h=>cases O<;>rfl
 .rw[YR (by decide)];exact J
 .simp[m]
 .rw[XM t];rfl
 .obtain⟨h,z⟩:=S.2.2 b o q;exact⟨h,Xb b _ ne z⟩
 .by_cases ne:b=e
  .subst ne;exact⟨_,v.trans i⟩
  .obtain⟨h,z⟩:=S.2.2 b o q;exact⟨_,Xb b _ ne z⟩
theorem C7
  (v:A.frames=lD (env::outer)) (u:s.heap.FunFrames base (env::outer)) (h:env.frame=lD L) (F:HV s.heap e c dx a0 hd)
  (k:∀h' T,s.heap.objs.size<=T->HV h' e c dx a0 (lD T)->Lft (env::outer) e hd s.heap h'->Q () {s with heap:=h'}):wpAny M A (leaving env (.ref e)) Q E s:=by
 obtain⟨N,fs,q,I,H,d,w,r⟩:=F;subst I H;cases hd with
 |none=>have r:=r;unfold leaving noteFrame;simp only[h];refine Sf (Sf (Tz q d r ?_));rw[if_neg (by decide)];exact jQ v u h q d (TN.mp r).1 w k
 |some T=>
  obtain⟨r,C,oT,B,g,dT,p⟩:=r;unfold leaving noteFrame;simp only[h];refine Sf (Sf (Tz q d r ?_));rw[if_pos (show(Sh.ref T !=Sh.none)=Si from by simp)];refine Sf (Tz g dT p ?_);rw[if_neg (show¬((Sh.none==rawInt L)=Si) from by simp[rawInt])];refine Sf (Va g dT (TN.mp p).1 ?_);have f:∀b,b≠T->(s.heap.update T (Obj.mapFields (·.setIfInBounds 3 Sh.none))).get? b=s.heap.get? b:=fun b ne=>Heap.get?_update_other _ _ ne.symm;have a:=Heap.get?_update_self (Obj.mapFields (·.setIfInBounds 3 Sh.none)) g (Obj.isFreed_of_fields (Obj.data_mapFields dT _));have m:∀b o,s.heap.get? b=lD o->(∀vs,o.data≠ .fields vs)->b≠T:=fun b o z n y=>by rw[y,g] at z;cases z;exact n B dT
  refine jQ v (u.of_keeps fun b o z n=>⟨o,(f b (m b o z n)).trans z,rfl⟩) h ((f e C.symm).trans q) d (TN.mp r).1 w fun h' J t K i=>k h' J (by rw[Heap.size_after_update] at t;exact t) K ⟨fun b o z l j G=> ?_,fun b o z l j=> ?_,fun b o z=> ?_⟩
  .exact i.keep b o ((f b fun y=>j (by rw[y])).trans z) l (by simp) G
  .exact i.slot b o ((f b fun y=>j (by rw[y])).trans z) l (by simp)
  .by_cases y:b=T
   .subst y;exact i.here b _ a
   .exact i.here b o ((f b y).trans z)
end
theorem Lft.T9 {P:S0} {w:Tn} {l:List Env} {e:So} {hd:Option So} {H:Hp} {h h':Heap} (L:Lft l e hd h h') (m:XQ P w H h) (ne:H e=Sg) (i:∀T,hd=lD T->H T=Sg) (j:∀b∈yp l,H b=Sg):XQ P w H h':=fun b u q=>by
 have free:∀c v,H c=lD v->c≠e/\hd≠lD c/\c∉yp l:=fun c v z=>⟨(fun y=>by rw[y,ne] at z;cases z),(fun y=>by rw[i c y] at z;cases z),(fun y=>by rw[j c y] at z;cases z)⟩;refine(m b u q).Xb (fun c v n z=> ?_) (fun _ z=>z) fun _ _ z=>z;rcases n with y|y
 .rw[y] at z⊢;obtain⟨g,f,a⟩:=free b u q;exact L.keep b v z g f a
 .obtain⟨g,f,a⟩:=free c _ y;exact L.keep c v z g f a
def jw (P:S0) (w:Tn):wg:=fun a H s E x b=>
 ∃e c dx a0 T H',x= .ref e/\s.heap.get? e=Sg/\s.heap.get? T=Sg/\HV b.heap e c dx a0 (lD T)/\H' e=Sg/\H' T=Sg/\
  b.os=s.os/\AllBare b.gens/\Un (yp a) [] H H' s.heap b.heap/\XQ P w H' b.heap/\E c dx H'
theorem Lq {P:S0} {w:Tn} {K:Ld} {mg:Str->Option Sh} {base:Heap} {N:List Str} {i:Str} {a:Wf} {f:So} {v:Sh} {A:Tc} {outer:List Env} {g:Sr} {G:Hp} {E:XK}
  {l:List (So×Obj)} {J:L2.St} {H:Hp} {s:Sr} {e:So} {c C:Sh} {dx hd:Option So} (I:L2.Inv (gb (jw P w) P w K mg base N i a f v A outer g G E) l J H s)
  (F:HV s.heap e c dx C hd) (u:g.heap.get? e=Sg) (S:∀T,hd=lD T->g.heap.get? T=Sg) (ne:H e=Sg) (Q:∀T,hd=lD T->H T=Sg) (q:E c dx H):
  (gb (jw P w) P w K mg base N i a f v A outer g G E).xe (.ref e) s:=by
 have Z:=I.ok.frames;have Y:=I.stack;refine C7 (L:=g.heap.objs.size) Z Y rfl F fun h' T t F' L=> ?_;have R:=L.T9 I.T9 ne Q I.Y8;have X:H T=Sg:=I.T9.fresh t;have p:∀b o,g.heap.get? b=lD o->b<g.heap.objs.size:=fun b o z=>Heap.lt_size z;have h:∀b o,g.heap.get? b=lD o->b≠e/\hd≠lD b:=fun b o z=>⟨(fun y=>by rw[y,u] at z;cases z),(fun y=>by rw[S b y] at z;cases z)⟩;have sz:=I.sz;refine⟨e,c,dx,C,T,H,rfl,u,Heap.get?_none_of_le (Tg sz t),F',ne,X,I.os,I.bare,?_,R,q⟩;have B:=I.base;refine⟨fun b o z n r _=> ?_,fun b o z n U _=> ?_,fun b o z n _=> ?_,fun b o z _=> ?_,B.YJ,B.Yu,B.YL⟩
 .have j:=B.keep b o z n r (fun y=>nomatch y)
  refine L.keep b o j (h b o z).1 (h b o z).2 fun y=> ?_;rcases SS.mp (I.YH b y) with y|y
  .have y:b=g.heap.objs.size:=y;exact absurd (p b o z) (by rw[y];exact Ul _)
  .exact r y
 .obtain⟨sl,j⟩:=B.slot b o z n U (fun y=>nomatch y);obtain⟨m,M⟩:=L.slot b _ j (h b o z).1 (h b o z).2;exact⟨m,M⟩
 .exact B.free b o z n (fun y=>nomatch y)
 .obtain⟨O,j⟩:=B.there b o z (fun y=>nomatch y);exact L.here b O j
theorem kG {P:S0} {w:Tn} {K:Ld} {mg:Str->Option Sh} {base:Heap} {N:List Str} {g:Str} {a:Wf} {f:So} {l:Sh} {A:Tc} {outer:List Env} {h:Sr} {p:Hp} {E:XK}:
  gc (jw P w) (gb (jw P w) P w K mg base N g a f l A outer h p E) E:=by
 rintro j r H s x t I ⟨e,c,dx,v,T,B,rfl,le,lT,F,ne,nT,os,bare,un,T9,q⟩;have n:=I.acd (ch:=[]) os un T9 bare (fun b z=>nomatch z);have old:∀b,s.heap.get? b=Sg->h.heap.get? b=Sg:=fun b z=>by
  cases y:h.heap.get? b with
  |none=>rfl
  |some o=>obtain⟨u,i⟩:=I.base.there b o y (fun y=>nomatch y);rw[z] at i;cases i
 exact Lq n F (old e le) (fun m z=>by cases z;exact old T lT) ne (fun m z=>by cases z;exact nT) q
theorem Om (x:ObjOk P w H h a o):∃ob,h.get? a=lD ob:=by
 cases o with
 |lst xs=>obtain⟨_,_,_,_,e⟩:=x;exact⟨_,e⟩
 |tup xs=>obtain⟨_,_,_,ob,e,_⟩:=x;exact⟨ob,e⟩
 |dK S4=>obtain⟨_,_,_,_,o,_,_,e,_⟩:=x;exact⟨o,e⟩
 |dT S4=>obtain⟨_,_,_,_,o,_,_,e,_⟩:=x;exact⟨o,e⟩
 |set S n=>obtain⟨o,_,_,_,e,_⟩:=x;exact⟨o,e⟩
 |ins C dx fs=>obtain⟨_,_,_,e,_⟩:=x;exact⟨_,e⟩
 |own y=>exact x
 |xd fs=>obtain⟨_,⟨o,_,_,e,_⟩,_⟩:=x;exact⟨o,e⟩
 |rng lo hi=>obtain⟨_,_,_,e⟩:=x;exact⟨_,e⟩
 |frz ob u=>exact⟨ob,x.1⟩
 |tbl ps=>exact⟨_,x⟩
 |met f y=>exact⟨_,x⟩
 |ext φ=>exact x.2.1
 |exw φ=>exact x.2.1
theorem yi (k:XQ P w H h) (n:h.get? a=Sg):H a=Sg:=by
 cases q:H a with
 |none=>rfl
 |some o=>obtain⟨b,z⟩:=Om (k a o q);rw[n] at z;cases z
section
variable {M:aaI} {A:Tc} {E:Sh->Sr->Prop} {s:Sr}
theorem Io {base:Heap} {env:Env} {outer:List Env} {L e:So} {c B:Sh} {dx hd:Option So} {Q:Unit->Sr->Prop}
  (v:A.frames=lD (env::outer)) (u:s.heap.FunFrames base (env::outer)) (h:env.frame=lD L) (F:HV s.heap e c dx B hd)
  (k:∀h' T,s.heap.objs.size<=T->HV h' e c dx B (lD T)->Lft (env::outer) e hd s.heap h'->Q () {s with heap:=h'}):
  wpAny M A (noteFrame (.ref e) env) (fun _ s2=>wpAny M A (setFlight (.ref e) Sg) Q E s2) E s:=by
 obtain⟨O,fs,q,J,I,d,w,r⟩:=F;subst J I;cases hd with
 |none=>have r:fs[1]? =lD .none:=r;unfold noteFrame;simp only[h];refine Sf (Tz q d r ?_);rw[if_neg (by decide)];exact jQ v u h q d (TN.mp r).1 w k
 |some T=>
  obtain⟨r,G,oT,C,g,dT,p⟩:=r;unfold noteFrame;simp only[h];refine Sf (Tz q d r ?_);rw[if_pos (show(Sh.ref T !=Sh.none)=Si from by simp)];refine Sf (Tz g dT p ?_);rw[if_neg (show¬((Sh.none==rawInt L)=Si) from by simp[rawInt])];refine Sf (Va g dT (TN.mp p).1 ?_);have f:∀b,b≠T->(s.heap.update T (Obj.mapFields (·.setIfInBounds 3 Sh.none))).get? b=s.heap.get? b:=fun b ne=>Heap.get?_update_other _ _ ne.symm;have a:=Heap.get?_update_self (Obj.mapFields (·.setIfInBounds 3 Sh.none)) g (Obj.isFreed_of_fields (Obj.data_mapFields dT _));have m:∀b o,s.heap.get? b=lD o->(∀vs,o.data≠ .fields vs)->b≠T:=fun b o z n y=>by rw[y,g] at z;cases z;exact n C dT
  refine jQ v (u.of_keeps fun b o z n=>⟨o,(f b (m b o z n)).trans z,rfl⟩) h ((f e G.symm).trans q) d (TN.mp r).1 w fun h' K t N i=>k h' K (by rw[Heap.size_after_update] at t;exact t) N ⟨fun b o z l j H=> ?_,fun b o z l j=> ?_,fun b o z=> ?_⟩
  .exact i.keep b o ((f b fun y=>j (by rw[y])).trans z) l (by simp) H
  .exact i.slot b o ((f b fun y=>j (by rw[y])).trans z) l (by simp)
  .by_cases y:b=T
   .subst y;exact i.here b _ a
   .exact i.here b o ((f b y).trans z)
theorem Ml {e T:So} {c j:Sh} {dx:Option So} {Q:Unit->Sr->Prop} (F:HV s.heap e c dx j (lD T))
  (k:∀h',HV h' e c dx j (lD T)->(∀b,b≠T->h'.get? b=s.heap.get? b)->(∃o,h'.get? T=lD o)->Q () {s with heap:=h'}):wpAny M A (setFlight (.ref e) Sg) Q E s:=by
 obtain⟨n,fs,q,t,p,d,u,r,i,oT,v,h,dT,m⟩:=F;unfold setFlight;refine Sf (Tz q d r ?_);rw[if_pos (show(Sh.ref T !=Sh.none)=Si from by simp)];have g:=(TN.mp m).1;refine Va h dT g ?_;have l:∀b,b≠T->(s.heap.update T (Obj.mapFields (·.setIfInBounds 3 ((Sg:Option So).elim Sh.none fun f=>rawInt f)))).get? b=s.heap.get? b:=fun b ne=>Heap.get?_update_other _ _ ne.symm;have a:=Heap.get?_update_self (Obj.mapFields (·.setIfInBounds 3 ((Sg:Option So).elim Sh.none fun f=>rawInt f))) h (Obj.isFreed_of_fields (Obj.data_mapFields dT _));refine k _ ⟨n,fs,(l e i.symm).trans q,t,p,d,u,r,i,_,_,a,Obj.data_mapFields dT _,?_⟩ l ⟨_,a⟩;rw[XM g];rfl
end
section
variable {P:S0} {w:Tn} {K:Ld} {mg:Str->Option Sh} {base:Heap} {N:List Str} {qual:Str} {scope:Wf} {f:So} {cd:Sh} {A:Tc} {outer:List Env} {s0:Sr} {H0:Hp} {E:XK} {CX:wg}
  {σ:L2.St} {H:Hp} {s:Sr} {h':Heap} {X:Cx}
theorem xj (I:L2.Inv X [] σ H s) (S:So->Prop) (L:X.ex=[]) (F:∀p∈X.pn,¬S p.1) (keep:∀b o,s.heap.get? b=lD o->¬S b->b∉yp X.stack->h'.get? b=lD o)
  (a:∀b o,s.heap.get? b=lD o->¬S b->∃sl,h'.get? b=lD {o with slots:=sl}) (t:∀b o,s.heap.get? b=lD o->∃o',h'.get? b=lD o')
  (Y:∀b,S b->X.s₀.heap.get? b=Sg) (R:¬S X.env.locals) (U:∀x c,X.env.cells.lookup x=lD c->¬S c) (T:∀b,S b->H b=Sg):L2.Inv X [] σ H {s with heap:=h'}:=by
 have O:∀b o,X.s₀.heap.get? b=lD o->¬S b:=fun b o z y=>by rw[Y b y] at z;cases z
 have j:∀b,b∉X.ex:=fun b z=>by rw[L] at z;cases z
 have B:=I.base;have e:∀x c,X.env.cells.lookup x=lD c->∀v,s.heap.IsCell c v->h'.IsCell c v:=fun x c z v ⟨o,J,M⟩=>by obtain⟨sl,q⟩:=a c o J (U x c z);exact⟨_,q,M⟩
 refine⟨I.ok,I.os,I.bare,⟨fun b o z n h _=> ?_,fun b o z n hf _=> ?_,fun b o z n x=>B.free b o z n x,fun b o z x=> ?_,B.YJ,B.Yu,B.YL⟩,?_,fun x c z=> ?_,I.free,I.V1,fun p G=> ?_,fun b u q=> ?_,I.len⟩
 .have g:=B.keep b o z n h (j b)
  refine keep b o g (O b o z) fun y=> ?_;rcases SS.mp (I.YH b y) with y|y
  .rw[y] at z;exact absurd (Heap.lt_size z) (Nat.not_lt_of_le I.ok.above)
  .exact h y
 .obtain⟨sl,g⟩:=B.slot b o z n hf (j b);obtain⟨C,Q⟩:=a b _ g (O b o z);exact⟨C,Q⟩
 .obtain⟨o',g⟩:=B.there b o z x;exact t b o' g
 .obtain⟨m,hn,Z⟩:=I.loc
  obtain⟨o,es,ep,J,M,r⟩:=hn;obtain⟨sl,q⟩:=a _ o J R;refine⟨m,⟨_,es,ep,q,M,r⟩,fun i x v a1 a2 a3=> ?_⟩;obtain⟨u,rv,l⟩:=Z i x v a1 a2 a3;refine⟨u,rv,?_⟩;rcases l with l|⟨kd,c,z,y⟩
  .exact .inl l
  .exact .inr ⟨kd,c,z,e x c z _ y⟩
 .obtain⟨v,y⟩:=I.cell x c z;exact⟨v,e x c z v y⟩
 .obtain⟨z,n,ne,h,dd⟩:=I.pin p G
  rw[S8] at G;refine⟨keep p.1 p.2 z (F p G) (fun y=> ?_),n,ne,h,dd⟩;rcases SS.mp (I.YH _ y) with y|y
  .exact ne y
  .exact h y
 .have free:∀c v,H c=lD v->¬S c/\c∉yp X.stack:=fun c v z=>⟨(fun y=>by rw[T c y] at z;cases z),(fun y=>by rw[I.Y8 c y] at z;cases z)⟩
  refine(I.T9 b u q).Xb (fun c v hc z=> ?_) (fun _ z=>z) fun _ _ z=>z;rcases hc with y|y
  .rw[y] at z⊢;exact keep b v z (free b u q).1 (free b u q).2
  .exact keep c v z (free c _ y).1 (free c _ y).2
end
section
variable {M:aaI} {A:Tc} {E:Sh->Sr->Prop} {h:Heap} {g:Array XS} {d:abJ} {t:Nat} {os:aaB}
theorem HF {C U e:So} {j:Obj} {B w y v:Str} {N1 N2:So} {b1 l b2 a:List Sh} {d1 Z:Bool} {u r:List Str} {q p:List Sh} {a1 a2:Bool} {c1 c2:Option Bool} {o n:Option So} {P O N L K J I H G F:Option Sh} {f b:String} {Q:Bool->Sr->Prop}
  (Y:h.get? C=lD (excClassObj B w C N1 b1 l d1 u q a1 c1 o P O N L K f)) (m:h.get? U=lD (excClassObj y v U N2 b2 a Z r p a2 c2 n J I H G F b)) (S:h.get? e=lD j) (T:j.cls= .ref C)
  (X:a.contains (.type "BaseException")=Si) (hm:(Sh.ref C::l).contains (.ref U)=Si) (R:Q Si ⟨h,g,d,t,os⟩):wpAny M A (excMatches (.ref e) (.ref U)) Q E ⟨h,g,d,t,os⟩:=by
 have i:(Sh.ref U::a).contains (.type "BaseException")=Si:=by rw[WE,X,WA]
 have ft:=tc_notTuple;unfold excMatches
 repeat (first|(specialize UC S ?_;rw[T])|specialize UC m ?_|(specialize VP m ?_;rw[i])|(specialize VP Y ?_;rw[hm])|wp_step)
 exact R
end
abbrev Cx.marked (X:Cx) (e:So):Cx:={X with A:=X.A.mark (lD (.ref e)),calm:=Sq,xe:=fun _ _=>False}
section
variable {X:Cx} {Z:L2.St} {H:Hp} {s:Sr} {h':Heap} {e:So}
theorem rh (I:L2.Inv X [] Z H s) (e:So):L2.Inv (Cx.marked X e) [] Z H s:=
 ⟨⟨I.ok.mod,I.ok.kind,I.ok.glob,I.ok.blt,I.ok.above,I.ok.inj,I.ok.has,I.ok.cab,(fun z=>nomatch z),I.ok.frames,I.ok.stk,I.ok.exf,I.ok.bs,I.ok.bsz,I.ok.aas,I.ok.aay,I.ok.Ya,I.ok.frf⟩,I.os,I.bare,I.base,I.loc,I.cell,I.free,I.V1,I.pin,I.T9,I.len⟩
theorem sj (ok:X.Ok) (I:L2.Inv (Cx.marked X e) [] Z H s):L2.Inv X [] Z H s:=
 ⟨ok,I.os,I.bare,I.base,I.loc,I.cell,I.free,I.V1,I.pin,I.T9,I.len⟩
theorem D1 (I:L2.Inv X [] Z H s) {g:Obj} (h:∀p∈X.pn,p.1≠e) (q:s.heap.get? e=lD g) (ne:H e=Sg) (t:X.s₀.heap.get? e=Sg) (l:e≠X.env.locals) (m:∀x c,X.env.cells.lookup x=lD c->c≠e):L2.Inv X [] Z (bx H e (.frz g (.own e))) s:=by
 have j:∀b o,X.s₀.heap.get? b=lD o->b≠e:=fun b o z y=>by rw[y,t] at z;cases z
 have a:∀b o,H b=lD o->b≠e:=fun b o z y=>by rw[y,ne] at z;cases z
 have B:=I.base;refine⟨I.ok,I.os,I.bare,⟨B.keep,B.slot,fun b o z n x=> ?_,B.there,fun b xs z=> ?_,fun b o u z=> ?_,fun b ps z=> ?_⟩,I.loc,I.cell,?_,fun x c z=> ?_,fun p i=> ?_,fun b u z=> ?_,I.len⟩
 .rw[ay (j b o z)];exact B.free b o z n x
 .have:=B.YJ b xs z;rw[ay (a b _ this)];exact this
 .have:=B.Yu b o u z;rw[ay (a b _ this)];exact this
 .obtain⟨f,y⟩:=B.YL b ps z;exact⟨f,by rw[ay (a b _ y)];exact y⟩
 .rw[ay l.symm];exact I.free
 .rw[ay (m x c z)];exact I.V1 x c z
 .obtain⟨z,n,r⟩:=I.pin p i;rw[S8] at i;exact⟨z,by rw[ay (h p i)];exact n,r⟩
 .by_cases y:b=e
  .subst y;rw[aG] at z;cases z;exact⟨q,g,q⟩
  .rw[ay y] at z;exact(I.T9 b u z).Xb (fun _ _ _ y=>y) (fun c y=>by rw[ay (a c _ y)];exact y) fun c xs y=>by rw[ay (a c _ y)];exact y
theorem uT {M:aaI} {A:Tc} {E:Sh->Sr->Prop} (I:L2.Inv X [] Z H s) {n:Str} {i:Nat} {pos:Pos} {Q:Unit->Sr->Prop} (hN:X.N.Nodup) (hi:X.N[i]? =lD n) (hlo:X.env.kindOf n=lD .local)
  (k:∀s',L2.Inv X [] (Z.set i Sg) H s'->Q () s'):wpAny M A (do bindName X.env n .none;unbindBehindTheSuite X.env n pos) Q E s:=by
 obtain⟨m,hn,hl⟩:=id I.loc;have aer:(X.env.scope.kind== .class||(X.env.scope.kind== .module&&X.env.locals !=X.env.globals))=Sq:=by rw[I.ok.kind];rfl
 refine wpAny_nameGoes_keeps hlo hn aer fun h2 v hm S=>k _ ?_;have B:=I.base;have cne:=I.cne;have old:∀b o,X.s₀.heap.get? b=lD o->h2.get? b=s.heap.get? b:=fun b o z=>S.2 b (S1 (SX (Heap.lt_size z) I.ok.above));have iσ:i<Z.length:=by rw[I.len];exact(Sl.mp hi).1
 refine⟨I.ok,I.os,I.bare,⟨fun b o z n nf x=>(old b o z).trans (B.keep b o z n nf x),fun b o z n hf x=> ?_,B.free,fun b o z x=> ?_,B.YJ,B.Yu,B.YL⟩,⟨_,hm,fun j y v' a1 a2 a3=> ?_⟩,fun y c z=> ?_,I.free,I.V1,fun p hp=> ?_,fun b u z=> ?_,by rw[TZ];exact I.len⟩
 .obtain⟨sl,y⟩:=B.slot b o z n hf x;exact⟨sl,(old b o z).trans y⟩
 .obtain⟨o',y⟩:=B.there b o z x;exact⟨o',(old b o z).trans y⟩
 .by_cases hj:j=i
  .subst hj;rw[TV iσ] at a2;cases a2
  .rw[Ts (Ne.symm hj)] at a2
   obtain⟨u',r',q⟩:=hl j y v' a1 a2 a3;refine⟨u',r',?_⟩;rcases q with⟨kd,z⟩|⟨kd,c,z,w⟩
   .refine .inl ⟨kd,?_⟩;have:y≠n:=fun z=>hj (qX hN a1 (z▸hi));simp[this,z]
   .exact .inr ⟨kd,c,z,w.sameBut S (cne y c z)⟩
 .obtain⟨w,y'⟩:=I.cell y c z;exact⟨w,y'.sameBut S (cne y c z)⟩
 .obtain⟨z,n,ne,r⟩:=I.pin p hp;exact⟨(S.2 p.1 ne).trans z,n,ne,r⟩
 .have free:∀c u,H c=lD u->c≠X.env.locals:=fun c u z y=>by rw[y,I.free] at z;cases z
  refine(I.T9 b u z).Xb (fun c w hc y=>(S.2 c ?_).trans y) (fun _ y=>y) fun _ _ y=>y;rcases hc with y'|y'
  .rw[y'];exact free b u z
  .exact free c _ y'
end
def CT (K:Ld) (C:So) (m:List Sh):Prop:=∃nm q N bs hd sn sub ab col dd k0 k1 k2 k3 k5 id,K.lookup C=lD (excClassObj nm q C N bs m hd sn sub ab col dd k0 k1 k2 k3 k5 id)
structure Apart (X:Cx) (a:So):Prop where
 n0:X.s₀.heap.get? a=Sg
 nL:a≠X.env.locals
 nC:∀y c,X.env.cells.lookup y=lD c->c≠a
 nP:∀p∈X.pn,p.1≠a
theorem sI (I:L2.Inv X pins σ H s) (e:X.ex=[]) (n:s.heap.get? a=Sg):Apart X a:=by
 have ne:∀b o,s.heap.get? b=lD o->b≠a:=fun b o z y=>by rw[y,n] at z;cases z
 refine⟨?_,?_,fun y c z=> ?_,fun p h=> ?_⟩
 .cases z:X.s₀.heap.get? a with
  |none=>rfl
  |some o=>obtain⟨g,y⟩:=I.base.there a o z (by rw[e];simp);exact absurd rfl (ne a g y)
 .obtain⟨m,⟨o,_,_,z,_⟩,_⟩:=I.loc;exact(ne _ o z).symm
 .obtain⟨v,o,f,_⟩:=I.cell y c z;exact ne c o f
 .exact ne _ _ (I.pin p (Ud _ h)).1
abbrev Cx.pinned (X:Cx) (l:List (So×Obj)):Cx:={X with pn:=l}
theorem Ji (I:L2.Inv X pins σ H s):L2.Inv (Cx.pinned X (X.pn++pins)) [] σ H s:=
 ⟨⟨I.ok.mod,I.ok.kind,I.ok.glob,I.ok.blt,I.ok.above,I.ok.inj,I.ok.has,I.ok.cab,I.ok.hd,I.ok.frames,I.ok.stk,I.ok.exf,I.ok.bs,I.ok.bsz,I.ok.aas,I.ok.aay,I.ok.Ya,I.ok.frf⟩,I.os,I.bare,I.base,I.loc,I.cell,I.free,I.V1,(fun p a=>I.pin p (by rw[S8] at a;exact a)),I.T9,I.len⟩
theorem g8 (ok:X.Ok) (I:L2.Inv (Cx.pinned X (X.pn++pins)) [] σ H s):L2.Inv X pins σ H s:=
 ⟨ok,I.os,I.bare,I.base,I.loc,I.cell,I.free,I.V1,(fun p a=>I.pin p (by rw[S8];exact a)),I.T9,I.len⟩
end L4
namespace L4
open PySem PySem.Spec L2 L3
end L4
namespace L4
open PySem PySem.Spec PySem.W PyProof.Rows L2 L3
section
variable {prog:S0} {w:Tn} {A:Tc} {E:Sh->Sr->Prop} {h:Heap} {g:Array XS} {d:abJ} {t:Nat} {os:aaB} {a C:So} {o:Obj} {K:Ld}
  {n1 q1:Str} {N1:So} {b1 Z:List Sh} {d1:Bool} {s1:List Str} {u1:List Sh} {a1:Bool} {c1:Option Bool} {x1:Option So} {i0 i1 i2 i3 i5:Option Sh} {Y:String}
theorem zX {M:aaI} {b:Sh} {Q:Unit->Sr->Prop} (j:h.get? C=lD (excClassObj n1 q1 C N1 b1 Z d1 s1 u1 a1 c1 x1 i0 i1 i2 i3 i5 Y)) (i:Z.contains (.type "BaseException")=Si)
  (e:h.get? a=lD o) (f:o.cls= .ref C) (k:Q () ⟨h,g,d,t,os⟩):wpAny M A (checkBuiltinCall "BaseException.__getattribute__" ⟨[.ref a,b],[]⟩) Q E ⟨h,g,d,t,os⟩:=by
 have n:builtinKind "BaseException.__getattribute__"=lD .slot:=by left
 have m:splitId "BaseException.__getattribute__"=lD ("BaseException","__getattribute__"):=by left
 have l:(Sh.ref C::Z).contains (.type "BaseException")=Si:=by rw[WE,i,WA]
 have p:=F.args_bexc_ga (.ref a) b;simp only[checkBuiltinCall,n,m];refine Sf ?_;unfold isInstance
 repeat (first|(specialize UC e ?_;rw[f])|(specialize VP j ?_;rw[l])|wp_step)
 exact k
structure aa5 (K:Ld) (C:So) (m:List Sh):Prop where
 cl:CT K C m
 be:m.contains (.type "BaseException")=Si
 ga:findIn K (.ref C) "__getattribute__"=lD (lD (.builtin "BaseException.__getattribute__"))
 gt:findIn K (.ref C) "__getattr__"=lD Sg
 cs:findIn K (.ref C) "__class__"=lD (lD (.builtin "object.__class__"))
 ob:mroIn K C (.type "object")=lD Si
end
end L4
namespace L4
open PySem PySem.SeqAt PySem.Spec PySem.W PyProof.Rows L2 L3
end L4
namespace L4
open PySem PySem.Spec PySem.W PyProof.Rows L2 L3
end L4
namespace PySem
open Sem (wp)
open PyProof.Rows
end PySem
namespace L3
open PySem PySem.Spec PyProof.Rows L2
end L3
namespace HT
open PySem PySem.Spec PyProof.Rows
section
variable {prog:S0} {w:Tn} {A:Tc} {E:Sh->Sr->Prop} {s:Sr}
theorem getItem_tuple_all {t b:So} {items:Array Sh} {l j:Sh} {lo hi:Option Int} {Q:Sh->Sr->Prop} (a:IsTup s.heap t items) (o:s.heap.IsSliceOf b l j .none) (pl:YE l lo) (p:YE j hi)
  (n:sIx items.size 0 lo=0/\sIx items.size items.size hi=items.size) (h:Q (.ref t) s):wpAny (model prog w) A (getItem (.ref t) (.ref b)) Q E s:=by
 obtain⟨q,e,f,r⟩:=id o;have g:s.TypeIs (.ref b) "slice":=⟨q,e,f⟩;unfold getItem
 try specialize Uo ?_
 first|refine Sf (Ss ?_)|skip
 refine Sf (aev a.typeIs (by decide) ?_);refine Sf (UA (name:=Str.ofString "__getitem__") a.typeIs T3
  (UI T3 a.typeIs entry_tuple_getitem ?_ (args_tuple_getitem _ _)))
 show wpAny _ _ (Builtin.Tuple.tupleItemsOf (.ref t)>>=_) _ _ s;refine Sf (tupleItemsOf_ a ?_);refine Sf (Wh g ?_);rw[if_pos (by decide)];refine Sf (jt o pl p ?_);have i:((((sIx items.size 0 lo:Nat):Int)==0&&(1:Int)==1&&(sIx items.size items.size hi - sIx items.size 0 lo)==items.size)=Si):=by rw[n.1,n.2];simp
 show wpAny _ _ (if(((sIx items.size 0 lo:Nat):Int)==0&&(1:Int)==1&&(sIx items.size items.size hi - sIx items.size 0 lo)==items.size)=Si then _ else _) _ _ s;rw[if_pos i];refine Sf (m:=Builtin.Tuple.tupleIsExact _) ?_;unfold Builtin.Tuple.tupleIsExact;refine Sf (Wh a.typeIs (Ss ?_));rw[if_pos (by decide)];refine Sf (X6 ?_);exact Ss ⟨_,rfl,Ss h⟩
end
end HT
namespace L3
open PySem PySem.Spec PyProof.Rows L2
def Pq (K:Ld):V->Option Int->Option Int->Hp->VK->Prop:=fun x lo hi H Q=>∃(a:So) (xs:List V),x= .ref a/\WZ K H a xs/\(HT.sIx xs.length 0 lo=0/\HT.sIx xs.length xs.length hi=xs.length)/\Q (.ref a) H
theorem FC {X:Cx}:MF X (Pq X.K):=by
 intro e s o H x v t p lo hi u Q I g m pl i h;obtain⟨a,xs,rfl,j,l,q⟩:=h;cases g;obtain⟨n,r,f,w⟩:=I.tuple j;have b:n.toArray.size=xs.length:=by rw[SE];exact r.length.symm
 refine⟨"tuple",_,T3.lookup,f.typeIs,?_⟩;exact HT.getItem_tuple_all f m pl i (by rw[b];exact l) ⟨.ref a,H,I,rfl,q⟩
def Qc (K:Ld):V->Option Int->Option Int->Hp->VK->Prop:=fun x lo hi H Q=>Od K x lo hi H Q\/Pq K x lo hi H Q
theorem IJ {X:Cx}:MF X (Qc X.K):=by
 intro a s b H x v f e lo hi g Q I h j pl i q;rcases q with q|q
 .exact zE a s b H x v f e lo hi g Q I h j pl i q
 .exact FC a s b H x v f e lo hi g Q I h j pl i q
def QZ:D->Option Int->Option Int->Option RV
 | .list ds,lo,hi=>lD (.ow (oB ds lo hi))
 | .tuple ds,lo,hi=>lD (.fz (.tuple (oB ds lo hi)))
 |_,_,_=>Sg
theorem Ky {ds:List D} {lo hi:Option Int} (h:HT.sIx ds.length 0 lo=0/\HT.sIx ds.length ds.length hi=ds.length):oB ds lo hi=ds:=by unfold oB;rw[h.1,h.2,ZI,aaO,Vu]
theorem Ql {K:Ld}:Qx K (Qc K) QZ:=by
 intro O H x lo hi dx rv Q n b e q;cases dx with
 |list ds=>exact .inl (qA O H x lo hi _ rv Q n b e q)
 |tuple ds=>
  cases e;by_cases f:HT.sIx ds.length 0 lo=0/\HT.sIx ds.length ds.length hi=ds.length
  .obtain⟨a,xs,rfl,h,g⟩:=D7 b;rw[Ky f] at q;refine .inr ⟨a,xs,rfl,h.1,by rw[g.length];exact f,q.at (.tup h g)⟩
  .refine .inl (qA O H x lo hi (.tuple ds) _ Q n b ?_ q)
   show(if kH ds.length lo hi=Si then Sg else lD (RV.fz (.tuple (oB ds lo hi))))=_;have z:kH ds.length lo hi=Sq:=by unfold kH;exact decide_eq_false f
   rw[z,if_neg SH]
 |_=>cases e
section
variable {K:Ld} {E:XK}
open Classical in
end
end L3
namespace L9
open PySem PySem.Spec PyProof.Rows
section
variable {M:aaI} {A:Tc} {E:Sh->Sr->Prop} {env:Env}
variable {nm q:Str} {C N:So} {bs Z:List Sh} {hdct:Bool} {sn:List Str} {sub:List Sh} {ab:Bool} {col:Option Bool} {dd:Option So} {k0 k1 k2 k3 k5:Option Sh} {newId:String}
theorem iV (r:Z.contains (.type "BaseException")=Si) (n:A.handled=Sg)
  (h:wpAny M A x (fun v s₁=>∃e ob,v= .ref e/\s₁.heap.get? C=lD (excClassObj nm q C N bs Z hdct sn sub ab col dd k0 k1 k2 k3 k5 newId)/\s₁.heap.get? e=lD ob/\ob.cls= .ref C/\(∃fs,ob.data= .fields fs/\fs[1]? =lD Sh.none)/\E (.ref e) s₁) E s):
  wpAny M A (raiseStmt env (lD x) Sg) Q E s:=by
 have f:(Sh.ref C::Z).contains (.type "BaseException")=Si:=by rw[WE,r,WA]
 unfold raiseStmt;refine Sf (wpAny_mono h (fun v s₁ a=> ?_) fun _ _ x=>x);obtain⟨e,ob,rfl,l,o,j,⟨fs,i,b⟩,p⟩:=a;obtain⟨y,w,m⟩:=ob;dsimp only at j i;subst j i;obtain⟨B,g,d,t,u⟩:=s₁
 repeat (first|specialize UC o ?_|specialize UC l ?_|(specialize VP l ?_;rw[f])|wp_step)
 rw[b]
 repeat wp_step
 exact adn n p
end
section
variable {prog:S0} {w:Tn} {A:Tc} {E:Sh->Sr->Prop} {h:Heap} {g:Array XS} {d:abJ} {t:Nat} {os:aaB}
variable {nm q:Str} {C N:So} {bs S Z:List Sh} {hdct:Bool} {sn:List Str} {sub:List Sh} {ab:Bool} {col:Option Bool} {dd:Option So} {k0 k1 k2 k3 k5:Option Sh} {B R newId Y Yf X:String} {U:List Sh}
theorem pR (y:Wk R newId X U) (j:Z.contains (.type R)=Si) (F:Wk B Y Yf Z) (T:aex h Z S)
  (i:h.get? C=lD (excClassObj nm q C N bs S hdct sn sub ab col dd k0 k1 k2 k3 k5 newId)) (hn:h.Ns N mN) (hi:mN "__init__"=lD (.ref fI)) (p:h.get? fI=lD oI) (n:oI.cls= .type "function")
  (H:∀h' e,Heap.MadeExcOf h h' e (.ref C) rest->wpAny (model prog w) A (call (.ref fI) (.ref e::rest)) (fun r s'=>r= .none/\Q (.done (.ret (.ref e))) s') E ⟨h',g,d,t,os⟩) (hrest:rest.length<=SD):
  wpAny (model prog w) A (Builtin.«type.__call__» ⟨.ref C::rest,[]⟩) Q E ⟨h,g,d,t,os⟩:=by
 repeat (first|specialize UC i ?_|specialize wpAny_madeBy_exc i ?_|wp_step)
 refine codeAny_call_builtin_code (aaJ.quiet_builtin _ y.quiet) (wpAny_check_new_subU y j T i ?_);refine codeAny_exc_new_subU y j F T i ?_ hrest
 have a:=Heap.get?_push_of_some {cls:= .ref C,data:= .fields #[.ref h.objs.size,.none,.none,.none,.bool Sq,.none]}
  (Heap.get?_push_of_some {cls:= .type "tuple",data:= .seq rest.toArray} i)
 have v:=Heap.get?_push_of_some {cls:= .ref C,data:= .fields #[.ref h.objs.size,.none,.none,.none,.bool Sq,.none]}
  (Heap.get?_push_of_some {cls:= .type "tuple",data:= .seq rest.toArray} p)
 have f:((h.push {cls:= .type "tuple",data:= .seq rest.toArray}).push {cls:= .ref C,data:= .fields #[.ref h.objs.size,.none,.none,.none,.bool Sq,.none]}).Ns N mN:=
  let⟨o,es,ep,e,r⟩:=hn;⟨o,es,ep,Heap.get?_push_of_some _ (Heap.get?_push_of_some _ e),r⟩
 have l:((h.push {cls:= .type "tuple",data:= .seq rest.toArray}).push
   {cls:= .ref C,data:= .fields #[.ref h.objs.size,.none,.none,.none,.bool Sq,.none]}).get? (h.objs.size+1)=lD
   {cls:= .ref C,data:= .fields #[.ref h.objs.size,.none,.none,.none,.bool Sq,.none]}:=by heap_get
 have u:(Sh.ref C::S).contains (.ref C)=Si:=by simp
 have m:=T.keeps (h':=(h.push {cls:= .type "tuple",data:= .seq rest.toArray}).push {cls:= .ref C,data:= .fields #[.ref h.objs.size,.none,.none,.none,.bool Sq,.none]})
  fun b o e=>Heap.get?_push_of_some _ (Heap.get?_push_of_some _ e)
 unfold isInstance
 repeat (first|specialize UC l ?_|(specialize VP a ?_;rw[u])|wp_step)
 refine wpAny_typeLookup_tail a f m F.mroIs F.init.lookup ?_;rw[hi];refine Uo (Sf ?_);unfold bindSpecial;refine Sf (Wh ⟨_,v,n⟩ ?_);rw[if_pos (by decide)];refine Ss (Sf (wpAny_mono (H _ (h.objs.size+1) ⟨fun b o I=>Heap.get?_push_of_some _ (Heap.get?_push_of_some _ I),Heap.get?_none_of_le (W0 _),h.objs.size,l,Heap.get?_none_of_le (Sw _),?_⟩) (fun r s' G=> ?_) fun _ _ x=>x))
 .exact Heap.get?_push_of_some _ (Heap.get?_push_at rfl rfl)
 .obtain⟨rfl,J⟩:=G
  wp_walk
  exact J
theorem zW (l:Wk R newId X U) (i:Z.contains (.type R)=Si) (F:Wk B Y Yf Z) (T:aex h Z S)
  (a:h.get? C=lD (excClassObj nm q C N bs S hdct sn sub ab col dd k0 k1 k2 k3 k5 newId)) (hn:h.Ns N mN) (hi:mN "__init__"=lD (.ref fI)) (f:h.get? fI=lD oI) (b:oI.cls= .type "function")
  (j:∀h' e,Heap.MadeExcOf h h' e (.ref C) rest->wpAny (model prog w) (A.under (.builtin "type.__call__" ⟨.ref C::rest,[]⟩)) (call (.ref fI) (.ref e::rest)) (fun r s'=>r= .none/\Q (.ref e) s') E ⟨h',g,d,t,os⟩) (hrest:rest.length<=SD):
  wpAny (model prog w) A (call (.ref C) rest) Q E ⟨h,g,d,t,os⟩:=by
 have o:=tc_lookup;have n:=tc_bind (.ref C);have m:(⟨h,g,d,t,os⟩:Sr).TypeIs (.ref C) "type":=⟨_,a,rfl⟩;refine W7 (codeAny_of_tree ?_)
 repeat (any_goals (first|assumption|specialize UC a ?_|wp_step))
 refine⟨rfl,?_⟩;refine codeAny_call_builtin_at (aaJ.quiet_builtin _ (by left)) entry_typeCall (wpAny_check_type_call_sub a (pR (hrest:=hrest) l i F T a hn hi f b fun h' e hm=> ?_));exact j h' e hm
end
section
variable {prog:S0} {w:Tn} {A:Tc} {E:Sh->Sr->Prop} {s:Sr} {env:Env}
variable {nm q:Str} {C N:So} {bs Y Z:List Sh} {hdct:Bool} {sn:List Str} {sub:List Sh} {ab:Bool} {col:Option Bool} {dd:Option So} {k0 k1 k2 k3 k5:Option Sh} {B Bn newId X Yf U:String} {S:List Sh}
theorem yg (Fn:Wk Bn newId U S) (t:Z.contains (.type Bn)=Si) (F:Wk B X Yf Z)
  (y:Y.contains (.type "BaseException")=Si) (o:A.handled=Sg) (u:(backTo VQ (SY args env)).any (·.1)=Sq) (hi:mN "__init__"=lD (.ref fI)) (p:oI.cls= .type "function")
  (h:wpAny (model prog w) A (eval (.Name x np) env) (fun f s₁=>f= .ref C/\wpAny (model prog w) A (evalArgs (.ref C) Si (backTo VQ (SY args env)) [])
   (fun a s₂=>a.kw=[]/\a.pos.length<=SD/\s₂.heap.get? C=lD (excClassObj nm q C N bs Y hdct sn sub ab col dd k0 k1 k2 k3 k5 newId)/\s₂.heap.Ns N mN/\s₂.heap.get? fI=lD oI/\aex s₂.heap Z Y/\
    ∀h' e,Heap.MadeExcOf s₂.heap h' e (.ref C) a.pos->wpAny (model prog w) (A.under (.builtin "type.__call__" ⟨.ref C::a.pos,[]⟩)) (call (.ref fI) (.ref e::a.pos)) (fun r s'=>r= .none/\∃ob,s'.heap.get? C=lD (excClassObj nm q C N bs Y hdct sn sub ab col dd k0 k1 k2 k3 k5 newId)/\s'.heap.get? e=lD ob/\ob.cls= .ref C/\(∃fs,ob.data= .fields fs/\fs[1]? =lD Sh.none)/\E (.ref e) s') E {s₂ with heap:=h'}) E s₁) E s):
  wpAny (model prog w) A (exec (.Raise (lD (.Call (.Name x np) args [] VQ)) Sg pos) env) Q E s:=by
 rw[arm_exec_Raise]
 first
  |refine Sf (U4 (iV y o (Sf (wpAny_mono (Zs (wpAny_mono h (fun f s₁ i=> ?_) fun _ _ x=>x)) (fun v l b=>Sf (U4 (Ss b))) fun _ _ x=>x))))
  |(simp only[evalOpt,Option.map];refine Sf (U4 (iV (C:=C) (nm:=nm) (q:=q) (N:=N) (bs:=bs) (hdct:=hdct) (sn:=sn) (sub:=sub) (ab:=ab) (col:=col) (dd:=dd) (k0:=k0) (k1:=k1) (k2:=k2) (k3:=k3) (k5:=k5) (newId:=newId) y o (Sf (wpAny_mono (Zs (wpAny_mono h (fun f s₁ i=> ?_) fun _ _ x=>x)) (fun v l b=>Sf (U4 (Ss b))) fun _ _ x=>x)))))
  |(refine Sf (U4 (iV y o ?_));refine Sf (wpAny_mono (Zs (wpAny_mono h (fun f s₁ i=> ?_) fun _ _ x=>x)) (fun v l b=>Sf (U4 (Ss b))) fun _ _ x=>x))
 obtain⟨rfl,i⟩:=i;unfold callWith;refine Sf (Uo (wpAny_mono i (fun a s₂ j=>Sf (U4 ?_)) fun _ _ x=>x));obtain⟨H,R⟩:=a;obtain⟨n,m,G,hn,J,T,j⟩:=j;obtain rfl:=n;obtain⟨hp,g,d,tk,os⟩:=s₂;simp only[u];refine Sf (wpAny_keeperOf_exc G ?_);refine Sf (zW (hrest:=m) Fn t F T G hn hi J p fun h' e hm=>wpAny_mono (j h' e hm) (fun r s' ⟨I,ob,P,O,M,L,K⟩=>⟨I,Sf (Uo (wpAny_point (Ss ?_)))⟩) fun _ _ x=>x);exact⟨e,ob,rfl,P,O,M,L,K⟩
end
end L9
namespace L9
open PySem PySem.W PyProof.Rows Builtin Builtin.ObjectAttr
abbrev HQ:List Sh:=[.type "ValueError",.type "Exception",.type "BaseException",.type "object"]
section
variable {prog:S0} {w:Tn} {A:Tc} {K:Frag} {B C x:So} {s:Sr} {R:YD->Sr->Prop} {Z:ClassData} {name:Str} {Y:Tok} {v:Sh} {fs:Array Sh}
theorem Kr (X:K.In s.heap) (E:clsIn K C=lD Z) (hm:Z.mro= .ref C:: .ref B::HQ) (hd:Z.hasDict=Si) (hn:findIn K (.ref C) name=lD Sg) (i:s.heap.get? x=lD ⟨.ref C,Sg,.fields fs,#[]⟩)
  (J:∀h' tk',h'.get? x=lD ⟨.ref C,lD s.heap.objs.size,.fields fs,#[]⟩->h'.Ns1 s.heap.objs.size (fun y=>if y=name then lD v else Sg)->(∀b o,b≠x->s.heap.get? b=lD o->h'.get? b=lD o)->R (.ok (.ret .none)) {s with heap:=h',toks:=tk'}):
  codeAny (model prog w) A (.call (.builtin "object.__setattr__") ⟨[.ref x,.str name Y,v],[]⟩) R s:=by
 have I:InstAt s.heap x ⟨.ref C,Sg,.fields fs,#[]⟩ C Sg:=⟨i,rfl,rfl,True.intro⟩;have m:=PySem.F.store_object;have sub:Looks (model prog w) s.heap (isInstance (.ref x) (.type "object")) Si:=I.type.andThen (looks_mroIn X (by unfold mroIn;rw[E,Option.bind_some,hm,if_neg (by simp)];simp));refine VF m.slot.plain m.entry (@check_slot (model prog w) _ _ s "object.__setattr__" "object" "__setattr__" (.ref x) [.str name Y,v] [] _ m.kind m.split sub (m.args (.ref x) (.str name Y) v) ?_);have l:Looks (model prog w) s.heap (mroOf (.ref C)) Z.mro:=(looks_clsIn X E).andThen .now;rw[osa_eq,refuse_eq];refine Sf (Sf (I.type.here (Sf (l.here ?_))));rw[hm,ahq,ahq,PySem.F.store_ValueError.passes];refine Ss (Sf (I.type.here (Sf ((looks_findIn X hn).here (Sf (Ss ?_))))));unfold storeInOwnDict;refine Sf (Ss (Sf ?_));unfold ownDictForStores instanceDict;refine Sf (ahj i (Sf ((looks_clsIn X E).here ?_)));rw[hd,if_neg (by decide)];show wpAny _ _ (if(!Si|| !typeHasDict (.ref C))=Si then pure Sg else(do
        let d<-alloc {cls:=Sh.type "dict",data:=Data.dict #[]}
        update x fun o=>{cls:=o.cls,dict:=lD d,data:=o.data,slots:=o.slots}
        dictMade (.ref C) x d)) _ _ _
 rw[if_neg (by simp[typeHasDict])];obtain⟨h,g,d,t,os⟩:=s;dsimp only at X i J I sub l⊢;have f:(h.push {cls:= .type "dict",data:= .dict #[]}).get? x=lD ⟨.ref C,Sg,.fields fs,#[]⟩:=Heap.get?_push_of_some _ i;have a:=S1 (Heap.lt_size i);refine Sf (wpAny_alloc' ?_);refine Sf (wpAny_update' f ?_);refine Ss ?_
 have q:((h.push {cls:= .type "dict",data:= .dict #[]}).update x fun o=>{cls:=o.cls,dict:=lD h.objs.size,data:=o.data,slots:=o.slots}).get? h.objs.size
   =lD {cls:= .type "dict",data:= .dict #[]}:=
  (Heap.get?_update_ne _ _ _ _ a.symm).trans (Heap.get?_push_at rfl rfl)
 have p:((h.push {cls:= .type "dict",data:= .dict #[]}).update x fun o=>{cls:=o.cls,dict:=lD h.objs.size,data:=o.data,slots:=o.slots}).Ns h.objs.size (fun _=>Sg):=
  ⟨_,#[],_,q,rfl,fun e N=>absurd N (by simp),fun _=>rfl⟩
 unfold storeInDict newKeyGuard;refine Sf (Ss (Sf (wpAny_nsSet1 (Heap.Ns1.of_empty p) fun h' j H=> ?_)));obtain⟨oD,P,S,n,r,u⟩:=j.count (Within.cons name v Within.nil);refine Sf (ae3 n (by rw[r];exact ae4 (Tg u (by rw[SJ,UM,Vd];omega))) ?_);refine Ss (J h' _ ?_ ?_ fun b ob G L=> ?_)
 .exact(H.2 x a).trans (Heap.get?_update_self _ f rfl)
 .obtain⟨M,Q,T,e1,e2,e3,O,U⟩:=j;exact⟨M,Q,T,e1,e2,e3,O,fun y=>by rw[U y]⟩
 .exact(H.2 b (S1 (Heap.lt_size L))).trans ((Heap.get?_update_ne _ _ _ _ G).trans (Heap.get?_push_of_some _ L))
theorem Jz (X:K.In s.heap) (g:clsIn K C=lD Z) (hm:Z.mro= .ref C:: .ref B::HQ) (hd:Z.hasDict=Si) (a:findIn K (.ref C) "__setattr__"=lD (lD (.builtin "object.__setattr__"))) (hn:findIn K (.ref C) name=lD Sg) (e:s.heap.get? x=lD ⟨.ref C,Sg,.fields fs,#[]⟩)
  (f:∀h' tk',h'.get? x=lD ⟨.ref C,lD s.heap.objs.size,.fields fs,#[]⟩->h'.Ns1 s.heap.objs.size (fun y=>if y=name then lD v else Sg)->(∀b o,b≠x->s.heap.get? b=lD o->h'.get? b=lD o)->Q () {s with heap:=h',toks:=tk'}):
  wpAny (model prog w) A (setAttr (.ref x) name v) Q E s:=
 set_plain X (⟨e,rfl,rfl,True.intro⟩:InstAt s.heap x ⟨.ref C,Sg,.fields fs,#[]⟩ C Sg) a (Kr X g hm hd hn e f)
end
section
variable {prog:S0} {w:Tn} {A:Tc} {E:Sh->Sr->Prop} {h:Heap} {g:Array XS} {d:abJ} {t:Nat} {os:aaB}
variable {nm q:Str} {C N:So} {bs bm Z:List Sh} {hdct:Bool} {sn:List Str} {sub:List Sh} {ab:Bool} {col:Option Bool} {dd:Option So} {k0 k1 k2 k3 k5:Option Sh} {B newId Y Yf:String}
theorem DS (F:Wk B Y Yf Z) (T:aex h Z bm)
  (p:h.get? C=lD (excClassObj nm q C N bs bm hdct sn sub ab col dd k0 k1 k2 k3 k5 newId)) (j:h.get? e=lD ⟨.ref C,Sg,.fields fs,#[]⟩) (l:fs[0]? =lD (.ref t0))
  (m:∀h' fs',h'.get? e=lD ⟨.ref C,Sg,.fields fs',#[]⟩->fs'[0]? =lD (.ref h.objs.size)->(∀i,i≠0->fs'[i]? =fs[i]?)->(∀b o,b≠e->h.get? b=lD o->h'.get? b=lD o)->Q .none ⟨h',g,d,t,os⟩) (hrest:rest.length<=SD):
  wpAny (model prog w) A (call (.builtin Yf) (.ref e::rest)) Q E ⟨h,g,d,t,os⟩:=by
 refine W7 (VF F.init.plain F.initEntry (wpAny_check_init_subU F T p j rfl ?_));unfold Builtin.«BaseException.__init__»;dsimp only;rw[if_neg (by simp)];unfold newTuple Builtin.BaseException.bexcPut;have f:=(TN.mp l).1;have a:(h.push {cls:= .type "tuple",data:= .seq rest.toArray}).get? e=lD ⟨.ref C,Sg,.fields fs,#[]⟩:=Heap.get?_push_of_some _ j;refine Sf (T5 (Sf (Sf (Tz a rfl l (Sf (Va a rfl f ?_))))) (by show rest.toArray.size<=SD;rw[SE];exact hrest));refine VD (Ss (m _ (fs.setIfInBounds 0 (.ref h.objs.size)) ?_ (by simp[f]) (fun i hi=>by rw[YR (Ne.symm hi)]) fun b o n z=> ?_))
 .exact Heap.get?_update_self (Obj.mapFields (·.setIfInBounds 0 (.ref h.objs.size))) a rfl
 .exact(Heap.get?_update_other _ _ (Ne.symm n)).trans (Heap.get?_push_of_some _ z)
end
end L9
namespace L9
open PySem PySem.Spec PyProof.Rows L2
def QS (v:V):Prop:=v= .UT\/∃i:Int,v= .int i/\i.natAbs.log2<1920
theorem Ko {i:Int} (h:i.natAbs.log2<1920):(Str.ofString (toString i)).length<=5000:=by have e:=int_text_length_le (by decide) h;rw[PySem.ofString_length];omega
theorem Mg (I:Inv X pins σ H s) (r:RelV v u) (f:QS v)
  (h:∀(y:Str) (t:Tok) (a:Sr),y.length<=5000->Inv X pins σ H a->Q (.str y t) a):wpAny (model X.prog X.w) A (formatField u Str.empty) Q E s:=by
 rcases f with rfl|⟨i,rfl,hi⟩
 .obtain rfl:=r;exact wpAny_formatField_none (h _ _ _ (by decide) (I.tok _))
 .obtain⟨t,rfl⟩:=r;exact formatField_int_small hi (h _ _ _ (Ko hi) (I.tok _))
def PJ (X:Cx) (es:List TF) (n:Nat) (t:L2.St->Hp->(Hp->Prop)->Prop):Prop:=
 ∀(a:List (So×Obj)) (s:Sr) (e:L2.St) (H:Hp) (b:Str) (Q:Hp->Prop),Inv X a e H s->b.length+n<=1000000->t e H Q->
  wpAny (model X.prog X.w) X.A (joinParts b (evalEach es X.env)) (fun v h=>∃(y:Str) (g:Tok) (f:Hp),v= .str y g/\Inv X a e f h/\Q f) X.xe s
section
variable {X:Cx} {e:TF} {es:List TF} {n:Nat} {te:TE} {t:L2.St->Hp->(Hp->Prop)->Prop} {pos:Pos}
theorem L5:PJ X [] 0 (fun _ H Q=>Q H):=by intro a s f H b Q I g h;exact joinParts_nil ⟨_,_,H,rfl,I.tok _,h⟩ (by rw[Vd];omega)
theorem M6 (i:x.length<=5000) (g:PJ X es n t):PJ X (.Constant (.str x) k pos::es) (n+5000) t:=by intro a s f H b Q I j h;refine joinParts_consE (joinParts_cons (Calls.Constant_str ?_));have e:=ajh b x;exact⟨by rw[Vd];omega,g a _ f H (b++x) Q (I.tok _) (by omega) h⟩
theorem MM (i:PE X e te) (g:PJ X es n t):PJ X (.FormattedValue e (-1) Sg pos::es) (n+5000) (fun σ H Q=>te σ H fun v H1=>QS v/\t σ H1 Q):=by intro a s σ H b Q I A h;refine joinParts_consE (joinParts_cons (FormattedValue_plain (cz (i a s σ H _ I h) fun u o ⟨v,H1,j,r,f,q⟩=> ?_)));refine Mg j r f fun y m p w l=> ?_;have e:=ajh b y;exact⟨by rw[Vd];omega,g a _ σ H1 (b++y) Q l (by omega) q⟩
theorem JP (h:PJ X (g::e2::es) n t) (hn:n<=900000):PE X (.JoinedStr (g::e2::es) pos) (fun σ H Q=>t σ H fun H1=>∀y:Str,Q (.str y) H1):=by intro a s σ H Q I b;refine JoinedStr_many (cz (h a s σ H Str.empty _ I (by show 0+n<=1000000;omega) b) fun v l ⟨y,j,H1,f,i,q⟩=> ?_);subst f;exact⟨.str y,H1,i,⟨_,rfl⟩,q y⟩
end
def Kv (C e:So):Heap->Prop:=fun h=>∃fs t0,h.get? e=lD ⟨.ref C,Sg,.fields fs,#[]⟩/\fs[0]? =lD (.ref t0)/\fs[1]? =lD .none
def Pf (C e p:So):Heap->Prop:=fun h=>∃fs a0,h.get? e=lD ⟨.ref C,lD p,.fields fs,#[]⟩/\fs[0]? =lD a0/\fs[1]? =lD .none
structure XC (K:Ld) (C B fI:So):Prop where
 obj:∃nm q N bs sn sub ab col dd k0 k1 k2 k3 k5,K.lookup C=lD (excClassObj nm q C N bs (.ref B::HQ) Si sn sub ab col dd k0 k1 k2 k3 k5 "ValueError.__new__")/\Zc K N=Si/\SU K N "__init__"=lD (lD (.ref fI))
 base:X0 K B HQ "ValueError.__new__"=Si
 sa:Ti K (.ref C) "__setattr__"=lD (lD (.builtin "object.__setattr__"))
theorem xC {K:Ld} (q:X0 K B HQ n=Si):Xx K HQ (.ref B::HQ)=Si:=by
 unfold X0 at q;split at q
 .rename_i dd f e b
  split at q
  .simp only[S2,beq_iff_eq,ab1] at q;obtain⟨⟨⟨⟨⟨_,_⟩,_⟩,_⟩,T9⟩,a⟩:=q;unfold Xx;dsimp only;rw[b];dsimp only;rw[T9,a,show Xx K HQ HQ=Si from by unfold Xx;rw[beq_self_eq_true,U9],beq_self_eq_true,T7,T7,WA]
  .cases q
 .cases q
section
variable {X:Cx} {B C fI:So} {pos S U:Pos} {Y:TF} {Z:List TF} {t:TA} {b:Str}
theorem E5 (h:H a=lD o):bx H a o=H:=by
 funext c;by_cases z:c=a
 .rw[z,aG,h]
 .rw[ay z]
def Nf (C:So) (t:TA):TE:=fun f H Q=>t f H fun vs a=>∃e y,vs=[.ref e,.str y]/\a e=lD (.ext (Kv C e))/\Q .UT a
theorem G1 {pl:Sem Bool} (hg:Gl X b) (hm:X.mg b=lD (.ref B)) (hr:YZ X.K B (.type "type")=Si) (hf:Y0 X.K (.ref B) (.type "type") "__init__"=lD (.val (.builtin "ValueError.__init__")))
  (hs:VN X.K (.ref B) "__getattribute__"=lD (lD (.builtin "type.__getattribute__"))) (v:XC X.K C B fI) (ha:PA X (Y::Z) t)
  (dJ:SY (Y::Z) X.env=(Sq,eval Y X.env)::SY Z X.env:=by rfl) (YT:(backTo pos (SY Z X.env)).any (·.1)=Sq:=by rfl) (ZD:(b==("__debug__":Str))=Sq:=by decide)
  (ht:eval (.Call (.Attribute (.Name b S) "__init__" U) (Y::Z) [] pos) X.env=(do
   let ov<-eval (.Name b S) X.env
   standAt U.atName
   let(f,first)<-holding [ov] (getMethod ov "__init__" pl)
   callWith pos f first (backTo pos (SY (Y::Z) X.env)) (backToKw pos (keywordEach [] X.env))):=by rfl):
  PE X (.Call (.Attribute (.Name b S) "__init__" U) (Y::Z) [] pos) (Nf C t):=by
 intro a s F H Q I h;refine Xj (pl:=pl) (jy I hg hm ?_ ZD) ht;refine PySem.W.method_cls I.XH hs (PySem.W.cls_value I.XH hr hf (by decide) ?_);have A:=ha pos a {s with toks:=s.toks+1} F H _ (I.tok _) h;rw[dJ] at A⊢;refine Calls.callWith_builtin (by show(Sq||(backTo pos (SY Z X.env)).any (·.1))=Sq;rw[YT]<;>rfl) (Calls.evalArgs_plain (cz A fun us p ⟨vs,E,i,r,e,y,ev,l,q⟩=> ?_));subst ev;obtain⟨M,u2,rfl,R,P⟩:=CG r;obtain rfl:M= .ref e:=R;obtain⟨tk,rfl⟩:=P;obtain⟨⟨fs,t0,g1,g2,g3⟩,_,gk⟩:=(show ObjOk X.prog X.w E p.heap e (.ext (Kv C e)) from i.T9 e _ l);obtain⟨nm,q',N,bs,sn,sub,ab,col,dd,k0,k1,k2,k3,k5,lk,T9,hin⟩:=v.obj;have T:=aaP i.XH (xC v.base);obtain⟨h2,g,d,j,os⟩:=p;refine DS Vg T (i.XH _ _ lk) g1 g2 (fun h' m n e2 e3 e4=> ?_) (by show 1<=SD;decide);refine⟨.UT,E,?_,rfl,q⟩;have w:=i.write (x:=e) (e:=e) (o:= .ext (Kv C e)) (h':=h') (t':=j) (by rw[l];exact True.intro) (.inl rfl) (fun b u hb z=>e4 b u hb z) ⟨_,n⟩ ⟨⟨m,_,n,e2,by rw[e3 1 (by decide)];exact g3⟩,⟨_,n⟩,fun h1 h2 ⟨f1,O,L,J,G⟩ hk=>⟨f1,O,hk _ L,J,G⟩⟩;rw[E5 l] at w;exact w
def Pr (C:So) (f:Str) (ta h:TE):TS:=fun D a H=>h a H fun v i=>ta a i fun x g=>∃e,x= .ref e/\g e=lD (.ext (Kv C e))/\∀p,g p=Sg->p≠e->D.nx a (bx (bx g e (.ext (Pf C e p))) p (.xd [(f,v)]))
theorem JT (Q:XC X.K C B fI) (hn:Ti X.K (.ref C) f=lD Sg) (ha:PE X o ta) (hv:PE X value tv) (hs:Uk value (lD (.Attribute o f pos')) pos.line X.env=pure Sq):PS X (.Assign [.Attribute o f pos'] value pos) (Pr C f ta tv):=by
 intro l s G H D I h;refine ZE (cz (hv l s G H _ I h) fun u s1 ⟨v,H1,I1,rv,q⟩=>cz (ha l s1 G H1 _ I1 q) fun ov p ⟨x,T,A,rx,e,ex,j,q2⟩=> ?_) hs;subst ex;obtain rfl:=rx;obtain⟨⟨fs,t0,R,g2,g3⟩,_,gk⟩:=(show ObjOk X.prog X.w T p.heap e (.ext (Kv C e)) from A.T9 e _ j);obtain⟨nm,q',N,bs,sn,sub,ab,col,dd,k0,k1,k2,k3,k5,lk,T9,hin⟩:=Q.obj;obtain⟨F,hc,L,M⟩:∃F,acJ X.K C=lD F/\F.mro= .ref C:: .ref B::HQ/\F.hasDict=Si:=by unfold acJ;rw[lk];exact⟨_,rfl,rfl,rfl⟩
 refine Jz A.XH hc L M Q.sa hn R fun h' tk' O e2 E=> ?_;have pe:=TY (Heap.lt_size R);have r:=A.T9.fresh (Sw _);refine⟨G,_,?_,q2 p.heap.objs.size r pe⟩;have m:∀b o,p.heap.get? b=lD o->b≠p.heap.objs.size:=fun b o z=>S1 (Heap.lt_size z);refine A.un ⟨fun b o z n _ _=>E b o (fun y=>by rw[y,j] at n;cases n) z,fun b o z n _ _=>⟨o.slots,E b o (fun y=>by rw[y,j] at n;cases n) z⟩,fun b o z n _=> ?_,fun b o z _=> ?_,fun b xs z=> ?_,fun b o u z=> ?_,fun b ps z=>⟨#[],?_⟩⟩ ?_
 .rw[ay (m b o z),ay (fun y=>by rw[y,j] at n;cases n)];exact n
 .by_cases y:b=e
  .subst y;exact⟨_,O⟩
  .exact⟨o,E b o y z⟩
 .rw[ay (fun y=>by rw[y,r] at z;cases z),ay (fun y=>by rw[y,j] at z;cases z)];exact z
 .rw[ay (fun y=>by rw[y,r] at z;cases z),ay (fun y=>by rw[y,j] at z;cases z)];exact z
 .rw[ay (fun y=>by rw[y,r] at z;cases z),ay (fun y=>by rw[y,j] at z;cases z),z];simp
 .intro a o z
  by_cases P:a=p.heap.objs.size
  .subst P
   rw[aG] at z;cases z;refine⟨_,e2,fun g=> ?_⟩;show WJ (match g==f with|true=>lD v|false=>U7 g []) (if g=f then lD u else Sg);cases i:g==f with
   |true=>rw[if_pos (beq_iff_eq.mp i)];exact rv
   |false=>rw[if_neg (fun w=>by rw[beq_iff_eq.mpr w] at i;cases i)];exact True.intro
  .rw[ay P] at z
   by_cases J:a=e
   .subst J;rw[aG] at z;cases z;exact⟨⟨fs,_,O,g2,g3⟩,⟨_,O⟩,fun h1 h2 ⟨f1,t1,z1,z2,z3⟩ hk=>⟨f1,t1,hk _ z1,z2,z3⟩⟩
   .rw[ay J] at z
    have own:∀b,T b=lD (.own a)->b≠e/\b≠p.heap.objs.size:=fun b y=>⟨(fun k=>by rw[k,j] at y;cases y),(fun k=>by rw[k,r] at y;cases y)⟩;refine(A.T9 a o z).Xb (fun b w i y=>E b w (fun k=> ?_) y) (fun b y=>by rw[ay (own b y).2,ay (own b y).1];exact y) fun b xs y=>by rw[ay (fun k=>by rw[k,r] at y;cases y),ay (fun k=>by rw[k,j] at y;cases y)];exact y
    rcases i with i|i
    .exact J (i.symm.trans k)
    .exact(own b i).1 k
end
end L9
namespace L9
open PySem PySem.Spec PyProof.Rows L2 L4
def OV (H:Hp) (e:So):Hp:=fun a=>if a=e then Sg else H a
theorem rE:OV H e e=Sg:=if_pos rfl
theorem jN (h:a≠e):OV H e a=H a:=if_neg h
theorem zw {K:Ld} (X:K.In h) (G:h.Ns N mg) (e:SU K N n=lD (lD v)):mg n=lD v:=by
 obtain⟨o,p,q,f,j,_,g⟩:=G;unfold SU at e;split at e
 .rename_i l m b a
  have:=(X _ _ a).symm.trans f;cases this;cases j;split at e
  .rename_i r i;cases e;rw[<-g];unfold nsFind findBy;rw[<-abr,i];rfl
  .split at e<;>cases e
 .cases e
theorem NP {K:Ld} (i:Vk K (.ref f)=Si) (l:K.lookup f=lD o):o.cls= .type "function":=by unfold Vk abX at i;dsimp only at i;rw[l] at i;exact SM (beq_iff_eq.mp i)
section
variable {X:Cx} {Z:List (So×Obj)} {Y:L2.St} {H:Hp} {s:Sr} {h':Heap} {e:So} {o:HO}
theorem IB (I:L2.Inv X Z Y H s) (k:∀b u,s.heap.get? b=lD u->h'.get? b=lD u) (n:s.heap.get? e=Sg) (new:ObjOk X.prog X.w (bx H e o) h' e o):L2.Inv X Z Y (bx H e o) {s with heap:=h',toks:=t'}:=by
 have hn:=yi I.T9 n;have ne:∀b u,s.heap.get? b=lD u->b≠e:=fun b u z y=>by rw[y,n] at z;cases z
 refine I.un ⟨fun b u z _ _ _=>k b u z,fun b u z _ _ _=>⟨u.slots,k b u z⟩,fun b u z q _=>by rw[ay (ne b u z)];exact q,fun b u z _=>⟨u,k b u z⟩,fun b xs z=> ?_,fun b u v z=> ?_,fun b ps z=>⟨#[],?_⟩⟩ ?_
 .rw[ay (fun y=>by rw[y,hn] at z;cases z)];exact z
 .rw[ay (fun y=>by rw[y,hn] at z;cases z)];exact z
 .rw[ay (fun y=>by rw[y,hn] at z;cases z),z];simp
 .intro a u z
  by_cases y:a=e
  .subst y;rw[aG] at z;cases z;exact new
  .rw[ay y] at z;refine(I.T9 a u z).Xb (fun b w _ q=>k b w q) (fun b q=>by rw[ay (fun w=>by rw[w,hn] at q;cases q)];exact q) fun b xs q=>by rw[ay (fun w=>by rw[w,hn] at q;cases q)];exact q
theorem KM (I:L2.Inv X Z Y H s) (f:H e=lD (.ext φ)):L2.Inv X Z Y (OV H e) s:=by
 have:=I.un (t':=s.toks) (H':=OV H e) ⟨fun b u z _ _ _=>z,fun b u z _ _ _=>⟨u.slots,z⟩,fun b u z q _=> ?_,fun b u z _=>⟨u,z⟩,fun b xs z=> ?_,fun b u v z=> ?_,fun b ps z=>⟨#[],?_⟩⟩ ?_
 .exact this
 .by_cases y:b=e
  .rw[y];exact rE
  .rw[jN y];exact q
 .rw[jN (fun y=>by rw[y,f] at z;cases z)];exact z
 .rw[jN (fun y=>by rw[y,f] at z;cases z)];exact z
 .rw[jN (fun y=>by rw[y,f] at z;cases z),z];simp
 .intro a u z
  have y:a≠e:=fun y=>by rw[y,rE] at z;cases z
  rw[jN y] at z;exact(I.T9 a u z).Xb (fun b w _ q=>q) (fun b q=>by rw[jN (fun w=>by rw[w,f] at q;cases q)];exact q) fun b xs q=>by rw[jN (fun w=>by rw[w,f] at q;cases q)];exact q
end
def B0 (C:So) (sp:Sp) (E:XK) (ta:TA):TS:=fun _ f H=>ta f H fun vs b=>vs.length<=SD/\∀e,b e=Sg->sp (.ref e::(vs++[])) (bx b e (.ext (Kv C e))) (fun v a=>v= .UT/\∃p,a e=lD (.ext (Pf C e p))/\E (.ref C) (lD p) (OV a e)) E0
theorem DB {K:Ld}
  (Y:XC K C B fI) (R:K.lookup fI=lD oI) (iI:Vk K (.ref fI)=Si) (FI:FnOk P w K mg base dG k fI fdI ps sp) (bI:Binds K fdI ps [])
  (hr:UP (k+1) (gb (jw P w) P w K mg base N qual scope f cd A outer s0 H0 E).A)
  (hg:Gl (gb (jw P w) P w K mg base N qual scope f cd A outer s0 H0 E) x) (hm:mg x=lD (.ref C)) (ha:PA (gb (jw P w) P w K mg base N qual scope f cd A outer s0 H0 E) (e0::es) ta)
  (ZD:(x==("__debug__":Str))=Sq:=by decide)
  (U:SY (e0::es) (gb (jw P w) P w K mg base N qual scope f cd A outer s0 H0 E).env=(Sq,eval e0 (gb (jw P w) P w K mg base N qual scope f cd A outer s0 H0 E).env)::SY es (gb (jw P w) P w K mg base N qual scope f cd A outer s0 H0 E).env:=by rfl)
  (YT:(backTo VQ (SY es (gb (jw P w) P w K mg base N qual scope f cd A outer s0 H0 E).env)).any (·.1)=Sq:=by rfl):
  PS (gb (jw P w) P w K mg base N qual scope f cd A outer s0 H0 E) (.Raise (lD (.Call (.Name x np) (e0::es) [] VQ)) Sg pos) (B0 C sp E ta):=by
 intro l s σ H D I h;obtain⟨nm,qn,Nn,bs,sn,sub,ab,col,dd,k0,k1,k2,k3,k5,Q,T9,F⟩:=Y.obj;have a:=I.ok.mod.kin;have oC:=a _ _ Q;have O:=Heap.Ns.of_isNs (PySem.W.isNs_of_in a T9);have ni:=zw a O F;have oF:=a _ _ R;have T:=aaP a (xC Y.base);refine yg (nm:=nm) (q:=qn) (N:=Nn) (bs:=bs) (hdct:=Si) (sn:=sn) (sub:=sub) (ab:=ab) (col:=col) (dd:=dd) (k0:=k0) (k1:=k1) (k2:=k2) (k3:=k3) (k5:=k5) Vg (by left) Vg (T.hasType Vg.hasBase) (I.ok.hd rfl)
  (by rw[U];exact(Wi _).trans YT) ni (NP iI R) (jy I hg hm ⟨rfl,?_⟩ ZD)
 have go:=ha VQ l s σ H _ I h;rw[U] at go⊢;refine Calls.evalArgs_plain (cz go fun g j ⟨vs,H1,i,r,hl,q⟩=> ?_);refine⟨rfl,by rw[<-r.length];exact hl,i.bk _ _ oC,O.keeps i.bk,i.bk _ _ oF,T.keeps i.bk,fun h' e m=> ?_⟩;obtain⟨t,y,y2,y3⟩:=m.there;have hn:=yi i.T9 m.new;have S:=q e hn;have J:=IB (t':=j.toks) (o:= .ext (Kv C e)) i m.keeps m.new ⟨⟨_,t,y,rfl,rfl⟩,⟨_,y⟩,fun h1 h2 ⟨f1,t1,z1,z2,z3⟩ hk=>⟨f1,t1,hk _ z1,z2,z3⟩⟩;have M:Vals (V.ref e::(vs++[])) (Sh.ref e::(g++[])):= .cons rfl (r.append .nil);have n:(Sh.ref e::g++[]).length=ps.length:=by have z:=M.length;rw[FI.len _ _ _ _ S] at z;exact z.symm
 have old:s0.heap.get? e=Sg:=by
  cases z:s0.heap.get? e with
  |none=>rfl
  |some o=>obtain⟨o',L⟩:=i.base.there e o z (fun y=>nomatch y);rw[m.new] at L;cases L
 have bi:=bI {heap:=h',gens:=j.gens,drawn:=j.drawn,toks:=j.toks,os:=j.os} (Sh.ref e::g) J.XH n;rw[acK] at bi;refine W7 (WU (FI.run _ (gb (jw P w) P w K mg base N qual scope f cd A outer s0 H0 E).stack _ _ ⟨Sh.ref e::g,[]⟩ (Sh.ref e::(g++[])) _ _ E0 (hr.make C g []) (J.ade.make C g []) bi M S) fun r s' b=> ?_);cases r with
 |error e=>exact b.elim
 |ok fl=>
  cases fl with
  |ret u=>obtain⟨v,H',G,rv,ev,p,X,q3⟩:=J.after b;subst ev;obtain⟨⟨fs,a0,g1,g2,Z⟩,_,_⟩:=(show ObjOk _ _ H' s'.heap e (.ext (Pf C e p)) from G.T9 e _ X);refine⟨rv,_,G.XH _ _ Q,g1,rfl,⟨fs,rfl,Z⟩,?_⟩;exact Lq (hd:=Sg) (KM G X) ⟨_,_,g1,rfl,rfl,rfl,g2,Z⟩ old (fun T z=>nomatch z) rE (fun T z=>nomatch z) q3
  |next=>exact False.elim b
  |brk=>exact False.elim b
  |cont=>exact False.elim b
end L9
namespace L9
open PySem PySem.Spec PySem.W PyProof.Rows L2 L3 L4
section
variable {prog:S0} {w:Tn} {A:Tc} {E:Sh->Sr->Prop} {h:Heap} {g:Array XS} {d:abJ} {t:Nat} {os:aaB} {a C:So} {o:Obj} {K:Ld} {Z:Option Obj} {name:Str} {v:Sh}
  {n1 q1:Str} {N1:So} {b1 m1:List Sh} {d1:Bool} {s1:List Str} {u1:List Sh} {a1:Bool} {c1:Option Bool} {x1:Option So} {i0 i1 i2 i3 i5:Option Sh} {Y:String}
theorem Aa (X:K.In h) (I:Xs h a o C Z) (b:findObj K C Z name=lD (.value v))
  (k:Q (.done (.ret v)) ⟨h,g,d,t,os⟩):wpAny (model prog w) A (Builtin.«object.__getattribute__» ⟨[.ref a,.str name tk],[]⟩) Q E ⟨h,g,d,t,os⟩:=by
 have f:=I.type (M:=model prog w);have e:=looks_find (M:=model prog w) X I b;refine Sf (Ss (Sf (Ss (Sf (f.at (Sf (e.at ?_)))))));exact Ss k
theorem Dc (X:K.In h) (I:Xs h a o C Z) (n:h.get? C=lD (excClassObj n1 q1 C N1 b1 m1 d1 s1 u1 a1 c1 x1 i0 i1 i2 i3 i5 Y)) (m:m1.contains (.type "BaseException")=Si)
  (f:findIn K (.ref C) "__getattribute__"=lD (lD (.builtin "BaseException.__getattribute__"))) (e:findIn K (.ref C) "__getattr__"=lD Sg) (l:findObj K C Z name=lD (.value v)) (j:handedIn v=Si)
  (k:Q v ⟨h,g,d,t+1,os⟩):wpAny (model prog w) A (getAttr (.ref a) name expr) Q E ⟨h,g,d,t,os⟩:=by
 have y:=Y6.ga.bind (.ref a);have b:(Sh.builtin "BaseException.__getattribute__"==Sh.builtin "object.__getattribute__")=Sq:=by left
 have u:(onTheHeap (Sh.ref C)&&Sh.builtin "BaseException.__getattribute__"==Sh.builtin "object.__getattribute__")=Sq:=by rw[b];rfl
 have r:=I.type (M:=model prog w);have q:=looks_findIn (M:=model prog w) X f;have p:=looks_findIn (M:=model prog w) X e;unfold getAttr getAttrBy
 repeat (any_goals (first|assumption|specialize r.at ?_|specialize q.at ?_|specialize p.at ?_|wp_step))
 rw[show(expr&&onTheHeap (Sh.builtin "BaseException.__getattribute__"))=Sq from by cases expr<;>rfl,if_neg SH];unfold boundAndCalled
 repeat (any_goals (first|assumption|wp_step))
 refine VF Y6.ga.plain F.entry_bexc_ga (zX n m I.at_ I.cls (Aa X I l ?_));have i:=handedOut_of j;show wpAny _ _ (handedOut v) _ _ _;rw[i];exact Ss k
end
def K4 (K:Ld) (ta:TE) (f:Str):TE:=fun b H Q=>ta b H fun x a=>∃e ob C m p fs v,x= .ref e/\a e=lD (.frz ob (.own e))/\ob.cls= .ref C/\ob.dict=lD p/\notCls ob=Si/\aa5 K C m/\hasDictIn K C=Si/\findIn K (.ref C) f=lD Sg/\
 a p=lD (.xd fs)/\fs.lookup f=lD v/\Q v a
theorem Iu (S:PE X o ta) (Y:attributeBase o f X.env (eval o X.env)=eval o X.env):PE X (.Attribute o f pos) (K4 X.K ta f):=by intro a s A H Q I h;refine B1 Y (cz (S a s A H _ I h) fun u n ⟨x,y,b,B,e,F,C,m,p,fs,v,Z,ea,U,T,hn,L,R,ha,N,l,q⟩=> ?_);subst Z;obtain rfl:=B;have z:=(b.T9 e _ ea).1;obtain⟨mA,G,i⟩:=(show ObjOk X.prog X.w y n.heap p (.xd fs) from b.T9 p _ N);obtain⟨u',M,r⟩:=WJ.some_of (by rw[<-l];exact i f);obtain⟨E,O,P⟩:=tU G;obtain⟨_,_,_,_,_,_,_,_,_,_,_,_,_,_,_,_,J⟩:=L.cl;obtain⟨j,g,d,t,os⟩:=n;exact Dc b.XH (⟨z,U,hn,by rw[T];exact O⟩:Xs j e F C (lD E)) (b.XH _ _ J) L.be L.ga L.gt (findObj_own R ha rfl (by rw[P,M])) (uH r) ⟨v,y,b.tok _,r,q⟩
def xa (C:So) (f:Str):Sp:=fun vs H Q _=>∃e v,vs=[.ref e,v]/\QS v/\H e=lD (.ext (Kv C e))/\∀p,H p=Sg->p≠e->Q .UT (bx (bx H e (.ext (Pf C e p))) p (.xd [(f,v)]))
def PB:D->Bool
 | .none=>Si
 | .int i=>decide (i.natAbs.log2<1920)
 |_=>Sq
end L9
namespace L3
open PySem PySem.Spec PyProof.Rows L2
mutual
def Ru:Sk->Bool
 | .tuple ds=>M5 ds
 | .int _=>Si
 | .str _=>Si
 | .bool _=>Si
 | .none=>Si
 |_=>Sq
def M5:List Sk->Bool
 |[]=>Si
 |d::r=>Ru d&&M5 r
end
section
variable {K:Ld} {E:XK} {B:cc} {H0:Hp} {O Z:cc} {σ:L2.St} {H H':Hp} {ρ:aY}
theorem Jh (h:WZ K H a xs) (l:H a=lD (.lst ys)):WZ K (fun _=>Sg) a xs:=by
 rcases h with(h|⟨o,h⟩)|h
 .rw[l] at h;cases h
 .rw[l] at h;cases h
 .exact .inr h
mutual
theorem JU (f:∀b,O b->¬Z b->∃ys,H b=lD (.lst ys)):∀{v:V} {d:D},DV Z K H v d->Ru d=Si->DV O K H v d
 |_,_,.UT,_=> .UT
 |_,_,.bl b,_=> .bl b
 |_,_,.int i,_=> .int i
 |_,_,.str x,_=> .str x
 |_,_,.tup (a:=a) h hs,e=> .tup ⟨h.1,fun z=>by
   by_cases y:Z a
   .exact h.2 y
   .obtain⟨ys,q⟩:=f a z y;exact Jh h.1 q⟩ (xZ f hs e)
 |_,_,.lst h hs,e=>by cases e
theorem xZ (a:∀b,O b->¬Z b->∃ys,H b=lD (.lst ys)):∀{vs:List V} {ds:List D},Ur Z K H vs ds->M5 ds=Si->Ur O K H vs ds
 |_,_,.nil,_=> .nil
 |_,_,.cons h hs,e=>by have f:=Bool.and_eq_true_iff.mp e;exact .cons (JU a h f.1) (xZ a hs f.2)
end
end
end L3
namespace PySem
end PySem
namespace PyProof.Rows
open PySem
section
variable {prog:S0} {w:Tn} {A:Tc} {E:Sh->Sr->Prop} {s:Sr}
theorem sN (b:h.get? a=lD (seqObj "list" vs.toArray n)):∃e,(sortedHeap h a vs out).get? a=lD (seqObj "list" out e):=by have f:=get?_update_seq b (fun _=> #[]);exact⟨_,get?_update_seq (Heap.get?_push_of_some _ (Heap.get?_push_of_some _ f)) _⟩
theorem pk (f:b≠a) (e:h.get? b=lD o):(sortedHeap h a vs out).get? b=lD o:=
 (Heap.get?_update_other _ _ (Ne.symm f)).trans (Heap.get?_push_of_some _ (Heap.get?_push_of_some _ ((Heap.get?_update_other _ _ (Ne.symm f)).trans e)))
theorem z5 {l:So} {vs:List Sh} {j:List Int} {Q:Sh->Sr->Prop} (p:s.heap.IsTuple l vs.toArray) (y:IntsAre vs j) (i:vs.length<64)
  (h:∀(a h':Heap) (out:Array Sh) (e:Nat) (f:List Int),(∀b o,s.heap.get? b=lD o->a.get? b=lD o)->h'.get? a.objs.size=lD (seqObj "list" out e)->(∀b o,a.get? b=lD o->h'.get? b=lD o)->IntsAre out.toList f->f.Perm j->f.Pairwise (·<=·)->Q (.ref a.objs.size) {s with heap:=h'}):
  wpAny (model prog w) A (call (.builtin "sorted") [.ref l]) Q E s:=by
 obtain⟨o,q,v,n,u⟩:=p;refine Calls.call_function_entry kind_sorted plain_sorted entry_sorted (args_sorted1 _) (Sf (m:=checkCount "sorted" 1 1 _) (Ss (Sf (wpAny_collect_seq l (.inr rfl) q v u (fun a r=>Sf (aji ?_)) (by rw[SE,Vd];omega)))));have g:(a.push (seqObj "list" vs.toArray 0)).get? a.objs.size=lD (seqObj "list" vs.toArray 0):=Heap.get?_push_size _ rfl;refine Sf (Uo (UI slot_list_sort ⟨_,g,rfl⟩ entry_list_sort (list_sort_tree g y i fun out f F C B=>⟨_,rfl,Ss ⟨_,rfl,?_⟩⟩) (args_list_sort _)));obtain⟨e,t⟩:=sN (out:=out) g;exact h a _ out e f r t (fun b G z=>pk (S1 (Heap.lt_size z)) (Heap.get?_push_of_some _ z)) F C B
end
end PyProof.Rows
namespace L9
open PySem PySem.Spec PyProof.Rows L2 L3
section
variable {K:Ld} {E:XK}
theorem vi:VR X (.builtin "sorted") (fun xs H Q=>∃(p:So) (f:List Int),xs=[.ref p]/\WZ X.K H p (f.map V.int)/\f.length<64/\∀(l:So) (a:List Int),H l=Sg->a.Perm f->a.Pairwise (·<=·)->Q (.ref l) (bx H l (.lst (a.map V.int)))):=by
 intro j s F H xs G Q I r h;obtain⟨p,f,rfl,v,B,q⟩:=h;obtain⟨u,rfl,o⟩:=lU r;cases o;obtain⟨M,rv,pl,J⟩:=I.tuple v;have w:=rv.length;rw[Sj] at w;refine z5 pl (mi rv) (by omega) fun C L g e a y A i hi m t=> ?_;have b:=m.length_eq;have n:=I.kept (t':=s.toks) y;refine⟨.ref C.objs.size,_,n.laid i (Sw _) ?_,rfl,q _ a (n.T9.fresh (Sw _)) m t⟩;refine⟨?_,g.toList,e,jq hi,A⟩;rw[Sj,b];have:(64:Nat)<=SD:=by decide
 omega
theorem vq:VR X (.builtin "sorted") (fun xs H Q=>(∃(p:So) (a:List Int),xs=[.ref p]/\Xa X.K H p (a.map V.int)/\a.length<64/\∀(l:So) (b:List Int),H l=Sg->b.Perm a->b.Pairwise (·<=·)->Q (.ref l) (bx H l (.lst (b.map V.int))))\/
  (∃(p:So) (a:List Int),xs=[.ref p]/\WZ X.K H p (a.map V.int)/\a.length<64/\∀(l:So) (b:List Int),H l=Sg->b.Perm a->b.Pairwise (·<=·)->Q (.ref l) (bx H l (.lst (b.map V.int))))):=L2.VR.or xW vi
def gR:List D->Option RV
 |[.tuple ds]=>(match oG ds with
  |some a=>if a.length<64 then lD (.ow ((kX a).map .int)) else Sg
  |none=>Sg)
 |ds=>vp ds
theorem AG:Gf K (fun xs H Q=>(∃(p:So) (b:List Int),xs=[.ref p]/\Xa K H p (b.map V.int)/\b.length<64/\∀(l:So) (f:List Int),H l=Sg->f.Perm b->f.Pairwise (·<=·)->Q (.ref l) (bx H l (.lst (f.map V.int))))\/
  (∃(p:So) (b:List Int),xs=[.ref p]/\WZ K H p (b.map V.int)/\b.length<64/\∀(l:So) (f:List Int),H l=Sg->f.Perm b->f.Pairwise (·<=·)->Q (.ref l) (bx H l (.lst (f.map V.int))))) gR:=by
 intro O H xs ds rv Q n h e q;unfold gR at e;split at e
 .split at e
  .rename_i b j
   split at e
   .rename_i hn
    cases e;cases h with
    |cons r o=>cases o;obtain⟨a,vs,rfl,i,t⟩:=D7 r;rw[qM t j] at i;refine .inr ⟨a,b,rfl,i.1,hn,fun l f m g dJ=> ?_⟩;have u:=k8 (g.trans (fq b).symm) dJ (eG b);subst u;exact q.new (tm _) l m
   .cases e
  .cases e
 .exact .inl (ur O H xs ds rv Q n h e q)
end
end L9
namespace L9
open PySem PySem.W PyProof.Rows Builtin Builtin.ObjectAttr
open PySem.Spec L2
open L3 L4
end L9
namespace LD
open PySem PyProof.Rows L2 L3
mutual
def kd:Sk->Bool
 | .none=>Si
 | .int _=>Si
 | .str x=>Sk.strOk x
 | .tuple xs=>kds xs
 |_=>Sq
def kds:List Sk->Bool
 |[]=>Si
 |x::r=>kd x&&kds r
end
def keyD:Sk->Bool
 | .tuple xs=>kds xs&&decide ((Sk.tuple xs).depth<=8)
 |_=>Sq
mutual
theorem kd_lay:∀d:Sk,kd d=Si->d.canLay0=Si
 | .none,_=>rfl
 | .int _,_=>rfl
 | .str x,h=>by unfold Sk.canLay0;unfold kd at h;exact h
 | .tuple xs,h=>by unfold Sk.canLay0;unfold kd at h;exact BM xs h
 | .bool _,h| .list _,h| .dict _,h=>by simp[kd] at h
theorem BM:∀xs:List Sk,kds xs=Si->Sk.canLayAll0 xs=Si
 |[],_=>rfl
 |x::r,h=>by unfold kds at h;rw[S2] at h;unfold Sk.canLayAll0;rw[kd_lay x h.1,BM r h.2];rfl
end
mutual
theorem kd_eqv:∀d e:Sk,kd d=Si->kd e=Si->Sk.eqv d e=Si->d=e
 | .none,e,_,h,q=>by cases e<;>simp_all [kd,Sk.eqv]
 | .int i,e,_,h,q=>by cases e<;>simp_all [kd,Sk.eqv]
 | .str x,e,_,h,q=>by cases e<;>simp_all [kd,Sk.eqv]
 | .tuple xs,e,g,h,q=>by
  cases e with
  |tuple a=>rw[Sk.eqv] at q;unfold kd at g h;rw[Cf xs a g h q]
  |_=>simp_all [kd,Sk.eqv]
 | .bool _,_,h,_,_| .list _,_,h,_,_| .dict _,_,h,_,_=>by simp[kd] at h
theorem Cf:∀xs ys:List Sk,kds xs=Si->kds ys=Si->Sk.eqvAll xs ys=Si->xs=ys
 |[],[],_,_,_=>rfl
 |[],_::_,_,_,q=>by simp[Sk.eqvAll] at q
 |_::_,[],_,_,q=>by simp[Sk.eqvAll] at q
 |x::xs,y::ys,g,h,q=>by unfold kds at g h;rw[Sk.eqvAll] at q;rw[S2] at g h q;rw[kd_eqv x y g.1 h.1 q.1,Cf xs ys g.2 h.2 q.2]
end
theorem Hw [Decidable (d=e)] (hd:kd d=Si) (a:kd e=Si):Sk.eqv d e=decide (d=e):=by
 by_cases q:d=e
 .subst q;rw[decide_eq_true rfl];exact SeqAt.eqv_refl d (kd_lay d hd)
 .rw[decide_eq_false q]
  cases z:Sk.eqv d e with
  |false=>rfl
  |true=>exact absurd (kd_eqv d e hd a z) q
theorem keyD_kd (h:keyD d=Si):kd d=Si/\d.depth<=8:=by
 cases d with
 |tuple xs=>unfold keyD at h;rw[S2] at h;exact⟨by unfold kd;exact h.1,of_decide_eq_true h.2⟩
 |_=>simp[keyD] at h
mutual
def sC (w:Tn):Sk->Int
 | .none=>reduceHash 0xFCA86420
 | .int i=>hashInt i
 | .str x=>hashStr w x
 | .tuple xs=>reduceHash (Builtin.Tuple.tupleHashOf (tf w xs))
 |_=>0
def tf (w:Tn):List Sk->List Int
 |[]=>[]
 |x::r=>sC w x::tf w r
end
mutual
def QI:Sk->Nat
 | .tuple xs=>IA xs+1
 |_=>1
def IA:List Sk->Nat
 |[]=>0
 |x::r=>QI x+IA r
end
section
variable {prog:S0} {w:Tn} {E:Sh->Sr->Prop}
mutual
theorem B3:∀(d:Sk) (v:Sh) (f:List So) (A:Tc) (s:Sr) (Q:Int->Sr->Prop),kd d=Si->acU s.heap v d f->A.units+d.depth<cLine->Q (sC w d) {s with toks:=s.toks+QI d}->wpAny (model prog w) A (pyHash v) Q E s
 | .none,_,_,A,s,Q,_,r,hu,h=>by cases r;exact aaC (T:= "NoneType") rfl F.slot_NoneType_hash F.entry_NoneType_hash (F.args_NoneType_hash_1 _) (afa _) (.inr (by omega)) (Sf (Ss (Sf (wpAny_mkInt (Ss ⟨_,_,rfl,h⟩)))))
 | .int i,_,_,A,s,Q,_,r,_,h=>by cases r;exact aeW h
 | .str x,_,_,A,s,Q,_,r,_,h=>by cases r;exact aeX h
 | .tuple xs,_,_,A,s,Q,hk,r,hu,h=>by
  cases r with
  | @tuple a o vs n _ _ h1 h2 h3 h4=>
   refine aaC (T:= "tuple") ⟨_,h1,h2⟩ F.slot_tuple_hash F.entry_tuple_hash (F.args_tuple_hash_1 _) (afa _) (.inr (by omega)) ?_;show wpAny _ _ (Builtin.Tuple.tupleItemsOf (.ref a)>>=_) _ _ s;refine Sf (wpAny_tupleItemsOf h1 h3 ?_);refine Sf ?_;rw[<-abv];unfold kd at hk;refine uy xs vs.toList _ A.in1 s #[] _ hk h4 (by simp only[Sk.depth,Tc.in1_units] at hu⊢;omega) fun b e=> ?_;show wpAny _ _ (retInt (Builtin.Tuple.tupleHashOf b.toList)) _ _ _;rw[e];refine Sf (wpAny_mkInt (Ss ⟨_,_,rfl,?_⟩));unfold sC QI at h
   simpa [YA] using h
 | .bool _,_,_,_,_,_,h,_,_,_| .list _,_,_,_,_,_,h,_,_,_| .dict _,_,_,_,_,_,h,_,_,_=>by simp[kd] at h
theorem uy:∀(xs:List Sk) (vs:List Sh) (g:List So) (A:Tc) (s:Sr) (b:Array Int) (Q:Array Int->Sr->Prop),kds xs=Si->aaM s.heap vs xs g->A.units+Sk.depthAll xs<cLine->
  (∀b':Array Int,b'.toList=b.toList++tf w xs->Q b' {s with toks:=s.toks+IA xs})->
  wpAny (model prog w) A (forIn vs b fun x r=>do let h<-pyHash x;pure PUnit.unit;pure (ForInStep.yield (r.push h))) Q E s
 |[],_,_,A,s,b,Q,_,x,_,h=>by cases x;exact Ss (h b (by simp[tf]))
 |k::xs,_,_,A,s,b,Q,hk,x,hu,h=>by
  cases x with
  |cons e a=>
   unfold kds at hk;simp only[S2,Sk.depthAll] at hk hu;rw[Xv];refine Sf (Sf (B3 k _ _ A s _ hk.1 e (by omega) ?_));refine Sf (Ss (Ss ?_));refine uy xs _ _ A _ _ Q hk.2 a (by omega) fun b' f=> ?_;have:=h b' (by simp[f,tf]);unfold IA at this
   simpa [YA] using this
end
theorem xq:∀(n:Nat) (d:Sk) (v:Sh) (j:List So) (A:Tc) (s:Sr) (Q:Bool->Sr->Prop),kd d=Si->acU s.heap v d j->d.depth<=n->Q Si s->wpAny (model prog w) A (eqIsQuiet n v) Q E s
 |n,.none,_,_,A,s,Q,_,r,_,h=>by cases r;rw[Zt _ rfl];exact Ss h
 |n,.int i,_,_,A,s,Q,_,r,_,h=>by cases r;rw[Zt _ rfl];exact Ss h
 |n,.str i,_,_,A,s,Q,_,r,_,h=>by cases r;rw[Zt _ rfl];exact Ss h
 |0,.tuple xs,_,_,A,s,Q,hk,r,hn,h=>by simp only[Sk.depth] at hn;omega
 |n+1,.tuple xs,_,_,A,s,Q,hk,r,hn,h=>by
  cases r with
  | @tuple a o vs m _ _ h1 h2 h3 h4=>
   have g:s.TypeIs (.ref a) "tuple":=⟨_,h1,h2⟩;simp only[Sk.depth] at hn;unfold eqIsQuiet;refine Sf (Yi g F.slot_tuple_eq.lookup ?_);refine Sf (XW g isSubtype_tuple_tuple ?_);simp only[aae,U8,if_false];refine Sf (Uc h1 h3 ?_);refine Sf ?_;rw[<-abv];unfold kd at hk;refine wpAny_forIn_list _ (fun b r e=>r.1=Sg/\e=s/\∃ys bs,kds ys=Si/\aaM s.heap b ys bs/\Sk.depthAll ys<=n) _ ?_ ?_ _ _ ⟨rfl,rfl,xs,_,hk,h4,by omega⟩
   .rintro v b r e ⟨f,rfl,ys,bs,k1,k2,k3⟩
    cases k2 with
    | @cons _ _ y ys' _ _ g1 g2=>unfold kds at k1;simp only[S2,Sk.depthAll] at k1 k3;refine Sf (xq n y v _ A e _ k1.1 g1 (by omega) ?_);simp only[aae,U8,if_false];exact Ss ⟨rfl,rfl,ys',_,k1.2,g2,by omega⟩
   .rintro⟨p,l⟩ e ⟨f,rfl,_⟩;simp only at f;subst f;exact Ss h
 |_,.bool _,_,_,_,_,_,h,_,_,_|_,.list _,_,_,_,_,_,h,_,_,_|_,.dict _,_,_,_,_,_,h,_,_,_=>by simp[kd] at h
end
mutual
theorem uM {h h':Heap} {x:So} {b:Obj} {es:Array V5} {j:Nat} (e:h.get? x=lD b) (g:b.data= .dict es j) (f:Heap.SameBut x h h'):∀(d:Sk) (v:Sh) (i:List So),kd d=Si->acU h v d i->acU h' v d i
 | .none,_,_,_,r=>by cases r;exact .none
 | .int _,_,_,_,r=>by cases r;exact .int _ _
 | .str _,_,_,_,r=>by cases r;exact .str _ _
 | .tuple xs,_,_,k,r=>by
  cases r with
  | @tuple a o vs n _ _ h1 h2 h3 h4=>
   have l:a≠x:=by rintro rfl;rw[e] at h1;cases h1;rw[g] at h3;exact nomatch h3
   unfold kd at k;exact .tuple ((f.2 a l).trans h1) h2 h3 (rj e g f xs _ _ k h4)
 | .bool _,_,_,h,_| .list _,_,_,h,_| .dict _,_,_,h,_=>by simp[kd] at h
theorem rj {h h':Heap} {x:So} {a:Obj} {es:Array V5} {l:Nat} (b:h.get? x=lD a) (f:a.data= .dict es l) (e:Heap.SameBut x h h'):∀(ds:List Sk) (vs:List Sh) (g:List So),kds ds=Si->aaM h vs ds g->aaM h' vs ds g
 |[],_,_,_,r=>by cases r;exact .nil
 |d::ds,_,_,k,r=>by
  cases r with
  |cons j i=>unfold kds at k;rw[S2] at k;exact .cons (uM b f e d _ _ k.1 j) (rj b f e ds _ _ k.2 i)
end
abbrev KD:={d:Sk//keyD d=Si}
noncomputable instance kdDec:DecidableEq KD:=fun _ _=>Classical.propDecidable _
def ie (prog:S0) (w:Tn):HeapKind prog w KD where
 is:=fun h k a=>∃as,acU h (.ref a) k.1 as
 hash:=fun k=>sC w k.1
 draws:=fun k=>QI k.1
 room:=fun A=>A.units+8<cLine
 inj:=fun⟨_,r⟩ ⟨_,f⟩=>Subtype.ext (acU.unique r _ _ f).1
 keeps:=fun{h h' k a d o es ep} ⟨as,r⟩ ho hd hs=>⟨as,uM ho hd hs k.1 _ _ (keyD_kd k.2).1 r⟩
 pyHash:=fun{A E s k a Q} hu ⟨as,r⟩ q=>B3 k.1 _ as A s Q (keyD_kd k.2).1 r (by have:=(keyD_kd k.2).2;omega) q
 eqBool:=fun{A E s x y a b Q} hu ⟨as,r⟩ ⟨bs,f⟩ q=>SeqAt.eqAt_reads x.1 y.1 A s _ _ as bs r f (kd_lay _ (keyD_kd x.2).1) (kd_lay _ (keyD_kd y.2).1) (by have:=(keyD_kd x.2).2;omega) prog w E Q (by
  haveI:Decidable (x.1=y.1):=Classical.propDecidable _
  rw[Hw (keyD_kd x.2).1 (keyD_kd y.2).1];by_cases e:x=y
  .rw[decide_eq_true e] at q;rw[decide_eq_true (congrArg Subtype.val e)];exact q
  .rw[decide_eq_false e] at q;rw[decide_eq_false fun z=>e (Subtype.ext z)];exact q)
 quiet:=fun{A E s k a Q} ⟨as,r⟩ q=>xq 8 k.1 _ as A s Q (keyD_kd k.2).1 r (keyD_kd k.2).2 q
def RO (a:So) (xs:List (KD×So×V)) (w:Tn) (h:Heap):Prop:=
 (xs.length<=SD/\(a==UK)=Sq/\(xs.map (·.1)).Nodup)/\∃o es ep,h.get? a=lD o/\o.ExactDict/\o.data= .dict es ep/\Paired (fun(x:KD×So×V) (e:V5)=>e.hash=sC w x.1.1/\e.key= .ref x.2.1/\RelV x.2.2 e.val) xs es.toList
abbrev DkO (a:So) (xs:List (KD×So×V)):HO:= .exw (RO a xs)
abbrev PrD (O:cc) (K:Ld) (H:Hp):List (KD×So×V)->List (D×D)->Prop:=
 Paired fun x a=>x.1.1=a.1/\L3.DV O K H (.ref x.2.1) a.1/\L3.DV O K H x.2.2 a.2
end LD
namespace L10
open PySem L2 L3
inductive AV where
 |fz (d:D)
 |rf (i:Nat)
inductive SV where
 |fz (d:D)
 |rf (i:Nat)
 |tp (l:List AV)
def AV.sv:AV->SV
 | .fz d=> .fz d
 | .rf i=> .rf i
inductive Cell where
 |lst (xs:List SV)
 |Yw (S4:List (cJ×SV))
 |obj (C:Str) (fs:List (Str×SV))
 |dd (S4:List (D×D))
 |dead
abbrev aV:=List Cell
abbrev bf:=List (Option SV)
inductive RS (α:Type) where
 |ok (a:α) (Z:aV)
 |er (x:Xc) (Z:aV)
 |bad
def RS.bind (r:RS α) (f:α->aV->RS β):RS β:=match r with
 | .ok a Z=>f a Z
 | .er x Z=> .er x Z
 | .bad=> .bad
def RS.TB (Z:aV):Option α->RS α
 |some a=> .ok a Z
 |none=> .bad
theorem RS.bind_ok (a:α) (Z:aV) (f:α->aV->RS β):(RS.ok a Z).bind f=f a Z:=rfl
def Lv (α:List So) (Z:aV):cc:=fun b=>∃(i:Nat) (c:Cell),α[i]? =lD b/\Z[i]? =lD c/\c≠Cell.dead
def ow (B:cc) (α:List So) (Z:aV):cc:=fun b=>B b\/Lv α Z b
section
variable (O:cc) (K:Ld) (H:Hp) (Z:List So)
def AOk (v:V):AV->Prop
 | .fz d=>DV O K H v d
 | .rf i=>∃a,Z[i]? =lD a/\v= .ref a
def VU (v:V):SV->Prop
 | .fz d=>DV O K H v d
 | .rf i=>∃a,Z[i]? =lD a/\v= .ref a
 | .tp l=>∃a xs,v= .ref a/\XJ O K H a xs/\Paired (AOk O K H Z) xs l
abbrev Vr:List V->List SV->Prop:=Paired (VU O K H Z)
def COk (a:So):Cell->Prop
 | .lst xs=>∃vs,H a=lD (.lst vs)/\Vr O K H Z vs xs
 | .Yw S4=>∃ws:List (cJ×V),H a=lD (.dK ws)/\Paired (fun(p:cJ×V) (q:cJ×SV)=>p.1=q.1/\VU O K H Z p.2 q.2) ws S4
 | .obj C fs=>∃Ca dx ws,SU K SK C=lD (lD (.ref Ca))/\H a=lD (.ins Ca dx ws)/\Paired (fun(p:Str×V) (q:Str×SV)=>p.1=q.1/\VU O K H Z p.2 q.2) ws fs
 | .dd S4=>∃xs,H a=lD (LD.DkO a xs)/\LD.PrD O K H xs S4
 | .dead=>True
def VJ (a:L2.St) (ρ:bf):Prop:=a.length=ρ.length/\∀(i:Nat) (x:SV),ρ[i]? =lD (lD x)->∃v,a[i]? =lD (lD v)/\VU O K H Z v x
end
structure Td (B:cc) (K:Ld) (H:Hp) (α:List So) (Z:aV):Prop where
 len:α.length=Z.length
 nd:∀(i j:Nat) (a:So),α[i]? =lD a->α[j]? =lD a->i=j
 bn:∀a,B a->H a≠Sg
 ba:∀a,B a->∀i:Nat,α[i]?≠lD a
 al:∀(i:Nat) (a:So),α[i]? =lD a->H a≠Sg
 ZL:∀(i:Nat) (a:So) (c:Cell),α[i]? =lD a->Z[i]? =lD c->COk (ow B α Z) K H α a c
structure UD (α:List So) (Z:aV) (H:Hp) (α':List So) (Z':aV) (H':Hp):Prop where
 pre:∀(i:Nat) (a:So),α[i]? =lD a->α'[i]? =lD a
 kp:∀b o,H b=lD o->¬Lv α Z b->H' b=lD o
 lv:∀b,Lv α' Z' b->Lv α Z b\/H b=Sg
section
variable {B O Q:cc} {K:Ld} {E:XK} {H H' R N:Hp} {Y X U S:List So} {Z T Z1 M:aV} {σ:L2.St} {ρ:bf} {v:V}
theorem UD.refl:UD Y Z H Y Z H:=⟨fun _ _ h=>h,fun _ _ h _=>h,fun _ h=> .inl h⟩
theorem UD.trans (a:UD Y Z H U Z1 R) (b:UD U Z1 R S M N):UD Y Z H S M N:=by
 have e:∀b o,H b=lD o->¬Lv Y Z b->¬Lv U Z1 b:=fun b o h n z=>(a.lv b z).elim n fun q=>by rw[h] at q;cases q
 refine⟨fun i p h=>b.pre i p (a.pre i p h),fun p o h n=>b.kp p o (a.kp p o h n) (e p o h n),fun p h=> ?_⟩;rcases b.lv p h with h|h
 .exact a.lv p h
 .cases q:H p with
  |none=>exact .inr rfl
  |some o=>refine .inl (Classical.byContradiction fun n=> ?_);rw[a.kp p o q n] at h;cases h
theorem UD.same (s:Uw H H'):UD Y Z H Y Z H':=⟨fun _ _ h=>h,fun b o h _=>s b o h,fun _ h=> .inl h⟩
theorem UD.ev (e:UD Y Z H X T H'):Ev (ow B Y Z) H (ow B X T) H':=fun b o h n=>
 ⟨e.kp b o h fun z=>n (.inr z),fun z=>z.elim (fun q=>n (.inl q)) fun q=>(e.lv b q).elim (fun q=>n (.inr q)) fun q=>by rw[h] at q;cases q⟩
theorem AOk.ev (e:Ev O H Q H') (p:∀(i:Nat) (a:So),Y[i]? =lD a->X[i]? =lD a) (h:AOk O K H Y v x):AOk Q K H' X v x:=by
 cases x with
 |fz d=>exact DV.ev e h
 |rf i=>obtain⟨a,f,b⟩:=h;exact⟨a,p i a f,b⟩
theorem VU.ev (e:Ev O H Q H') (p:∀(i:Nat) (a:So),Y[i]? =lD a->X[i]? =lD a) (h:VU O K H Y v x):VU Q K H' X v x:=by
 cases x with
 |fz d=>exact DV.ev e h
 |rf i=>obtain⟨a,f,b⟩:=h;exact⟨a,p i a f,b⟩
 |tp l=>obtain⟨a,xs,f,b,g⟩:=h;exact⟨a,xs,f,b.ev e,Paired.WK g fun _ _ q=>q.ev e p⟩
theorem VU.Vh (e:UD Y Z H X T H') (h:VU (ow B Y Z) K H Y v x):VU (ow B X T) K H' X v x:=h.ev e.ev e.pre
theorem Vr.Vh (e:UD Y Z H X T H') (h:Vr (ow B Y Z) K H Y vs xs):Vr (ow B X T) K H' X vs xs:=Paired.WK h fun _ _ q=>q.Vh e
theorem VJ.Vh (e:UD Y Z H X T H') (h:VJ (ow B Y Z) K H Y σ ρ):VJ (ow B X T) K H' X σ ρ:=⟨h.1,fun i x q=>let⟨v,h1,h2⟩:=h.2 i x q;⟨v,h1,h2.Vh e⟩⟩
theorem COk.ev (e:Ev O H Q H') (p:∀(i:Nat) (a:So),Y[i]? =lD a->X[i]? =lD a) (ha:∀o,H a=lD o->H' a=lD o) (h:COk O K H Y a c):COk Q K H' X a c:=by
 cases c with
 |lst xs=>obtain⟨vs,f,b⟩:=h;exact⟨vs,ha _ f,Paired.WK b fun _ _ q=>q.ev e p⟩
 |Yw S4=>obtain⟨ws,f,b⟩:=h;exact⟨ws,ha _ f,Paired.WK b fun _ _ q=>⟨q.1,q.2.ev e p⟩⟩
 |obj C fs=>obtain⟨Ca,dx,ws,g,f,b⟩:=h;exact⟨Ca,dx,ws,g,ha _ f,Paired.WK b fun _ _ q=>⟨q.1,q.2.ev e p⟩⟩
 |dd S4=>obtain⟨xs,f,b⟩:=h;exact⟨xs,ha _ f,Paired.WK b fun _ _ q=>⟨q.1,q.2.1.ev e,q.2.2.ev e⟩⟩
 |dead=>trivial
theorem Td.noO (s:Td B K H Y Z):nI (ow B Y Z) H:=fun a h z=>z.elim (fun q=>s.bn a q h) fun⟨i,c,q,_⟩=>s.al i a q h
theorem Td.owd (s:Td B K H Y Z):∀a,ow B Y Z a->H a≠Sg:=fun a z h=>s.noO a h z
theorem Td.grow (s:Td B K H Y Z) (e:Uw H H'):Td B K H' Y Z:=by have n:∀a,H a≠Sg->H' a≠Sg:=fun a h z=>h (e.free z);exact⟨s.len,s.nd,fun a h=>n a (s.bn a h),s.ba,fun i a h=>n a (s.al i a h),fun i a c f b=>(s.ZL i a c f b).ev (Ev.grow e) (fun _ _ h=>h) fun o h=>e _ _ h⟩
theorem Td.at (s:Td B K H Y Z) {i:Nat} (h:Z[i]? =lD c):∃a,Y[i]? =lD a:=by have:i<Z.length:=(Sl.mp h).1;rw[<-s.len] at this;exact⟨_,SI this⟩
theorem Td.ac6 (s:Td B K H Y Z) {i:Nat} (h:Y[i]? =lD a):¬B a:=fun z=>s.ba a z i h
theorem zi {i:Nat} {c m:Cell} (h:Z[i]? =lD c) (n:c≠ .dead) (g:m≠ .dead) {b:So}:Lv Y (Z.set i m) b↔Lv Y Z b:=by
 constructor
 .rintro⟨j,d,f,a,l⟩
  rcases cy a with⟨rfl,rfl⟩|⟨_,a⟩
  .exact⟨j,c,f,h,n⟩
  .exact⟨j,d,f,a,l⟩
 .rintro⟨j,d,f,a,l⟩
  by_cases e:j=i
  .subst e;exact⟨j,m,f,by rw[TV (Sl.mp h).1],g⟩
  .exact⟨j,d,f,by rw[Ts (fun z=>e z.symm)];exact a,l⟩
theorem Mj (h:Z[i]? =lD c) (e:c≠ .dead) (a:c'≠ .dead):ow B Y (Z.set i c')=ow B Y Z:=by funext b;exact propext ⟨fun z=>z.imp id (zi h e a).mp,fun z=>z.imp id (zi h e a).mpr⟩
theorem UD.put (ha:Y[i]? =lD a) (h:Z[i]? =lD c) (g:c≠ .dead) (f:c'≠ .dead):UD Y Z H Y (Z.set i c') (bx H a o):=
 ⟨fun _ _ h=>h,fun b j q n=>by have z:b≠a:=fun e=>n ⟨i,c,by rw[e];exact ha,h,g⟩;rw[ay z];exact q,fun b z=> .inl ((zi h g f).mp z)⟩
theorem Td.put (s:Td B K H Y Z) (ha:Y[i]? =lD a) (h:Z[i]? =lD c) (m:c≠ .dead) (f:c'≠ .dead) (new:COk (ow B Y Z) K (bx H a o) Y a c'):Td B K (bx H a o) Y (Z.set i c'):=by
 have e:UD Y Z H Y (Z.set i c') (bx H a o):=UD.put ha h m f;have n:∀b,H b≠Sg->bx H a o b≠Sg:=fun b h=>by
  by_cases z:b=a
  .subst z;rw[aG];simp
  .rw[ay z];exact h
 refine⟨by rw[TZ];exact s.len,s.nd,fun b h=>n b (s.bn b h),s.ba,fun j b h=>n b (s.al j b h),fun j b d g l=> ?_⟩;rcases cy l with⟨rfl,rfl⟩|⟨p,l⟩
 .rw[ha] at g;cases g;rw[Mj h m f];exact new
 .exact(s.ZL j b d g l).ev e.ev e.pre fun u q=>by rw[ay (fun z=>p (s.nd j i a (by rw[<-z];exact g) ha))];exact q
theorem rG {i:Nat} {a:So} {c:Cell} {o:HO} (ha:Y[i]? =lD a) (h:Z[i]? =lD c) (b:c≠ .dead):Ev (ow B Y Z) H (ow B Y Z) (bx H a o):=Ev.mut (.inr ⟨i,c,ha,h,b⟩) o
theorem cw {Y:Type} {l:List Y} {x y:Y} {i:Nat} (h:(l++[x])[i]? =lD y):l[i]? =lD y\/(i=l.length/\y=x):=by
 by_cases hi:i<l.length
 .rw[SG hi] at h;exact .inl h
 .rw[Tb (by omega)] at h
  cases q:i - l.length with
  |zero=>rw[q] at h;cases h;exact .inr ⟨by omega,rfl⟩
  |succ n=>rw[q] at h;cases h
theorem ia {Y:Type} {l:List Y} {x y:Y} {i:Nat} (h:l[i]? =lD y):(l++[x])[i]? =lD y:=by rw[SG (Sl.mp h).1];exact h
theorem bc:(l++[x])[l.length]? =lD x:=by simp
theorem uX (g:Y.length=Z.length) (h:Lv (Y++[p]) (Z++[c]) b):Lv Y Z b\/b=p:=by
 obtain⟨i,d,a,e,f⟩:=h;rcases cw a with a|⟨e1,e2⟩
 .rcases cw e with e|⟨e1,e2⟩
  .exact .inl ⟨i,d,a,e,f⟩
  .have:=(Sl.mp a).1;omega
 .exact .inr e2
theorem UD.ZA (g:Y.length=Z.length) (s:Uw H H') (f:H p=Sg):UD Y Z H (Y++[p]) (Z++[c]) H':=
 ⟨fun i a h=>ia h,fun b u q _=>s b u q,fun b z=>(uX g z).imp id fun e=>by rw[e];exact f⟩
theorem Td.ZA (s:Td B K H Y Z) (e:Uw H H') (l:H p=Sg) (m:H' p≠Sg) (new:COk (ow B (Y++[p]) (Z++[c])) K H' (Y++[p]) p c):Td B K H' (Y++[p]) (Z++[c]):=by
 have ev:UD Y Z H (Y++[p]) (Z++[c]) H':=UD.ZA s.len e l;have n:∀b,H b≠Sg->H' b≠Sg:=fun b h z=>h (e.free z);refine⟨by rw[Su,Su,s.len];rfl,fun i j a f g=> ?_,fun a h=>n a (s.bn a h),fun a h i q=> ?_,fun i a h=> ?_,fun i a d f g=> ?_⟩
 .rcases cw f with g1|⟨e1,e2⟩<;>rcases cw g with g2|⟨e3,e4⟩
  .exact s.nd i j a g1 g2
  .exact absurd (by rw[e4];exact l) (s.al i a g1)
  .exact absurd (by rw[e2];exact l) (s.al j a g2)
  .omega
 .rcases cw q with q|⟨_,e2⟩
  .exact s.ba a h i q
  .subst e2;exact s.bn a h l
 .rcases cw h with h|⟨_,e2⟩
  .exact n a (s.al i a h)
  .subst e2;exact m
 .rcases cw g with g|⟨e1,e2⟩
  .rcases cw f with f|⟨e1,_⟩
   .exact(s.ZL i a d f g).ev ev.ev ev.pre fun o q=>e _ _ q
   .have:=(Sl.mp g).1;have:=s.len;omega
  .rcases cw f with f|⟨_,e3⟩
   .have:=(Sl.mp f).1;have:=s.len;omega
   .subst e2 e3;exact new
def WS (K:Ld) (E:XK) (B:cc) (H:Hp) (Y:List So) (Z:aV) (P:A->List So->aV->Hp->Prop):RS A->Prop
 | .ok a T=>∀X H',UD Y Z H X T H'->Td B K H' X T->P a X T H'
 | .er x T=>∀c dx X H',UD Y Z H X T H'->Td B K H' X T->XOk K (ow B X T) H' c dx x->E c dx H'
 | .bad=>False
theorem WS.from (e:UD Y Z H U Z1 R) (h:WS K E B H Y Z P r):WS K E B R U Z1 P r:=by
 cases r with
 |ok a M=>exact fun S N f b=>h S N (e.trans f) b
 |er x M=>exact fun c dx S N f b=>h c dx S N (e.trans f) b
 |bad=>exact h
theorem WS.bind (h:WS K E B H Y Z P (r.bind k)):WS K E B H Y Z (fun a U Z1 R=>WS K E B R U Z1 P (k a Z1)) r:=by
 cases r with
 |ok a Z1=>exact fun U R b _=>WS.from b h
 |er x Z1=>exact h
 |bad=>exact h
theorem WS.TB (h:WS K E B H Y Z P ((RS.TB Z o).bind k)):∃a,o=lD a/\WS K E B H Y Z P (k a Z):=by
 cases o with
 |none=>exact h.elim
 |some a=>exact⟨a,rfl,h⟩
theorem WS.imp (h:WS K E B H Y Z P r) (g:∀a X T H',UD Y Z H X T H'->Td B K H' X T->P a X T H'->P' a X T H'):WS K E B H Y Z P' r:=by
 cases r with
 |ok a Z1=>exact fun U R e b=>g a U Z1 R e b (h U R e b)
 |er x Z1=>exact h
 |bad=>exact h
theorem WS.now (s:Td B K H Y Z) (h:WS K E B H Y Z P (.ok a Z)):P a Y Z H:=h Y H .refl s
end
abbrev dH:=bf->aV->RS SV
abbrev xi:=bf->aV->RS Bool
abbrev uS:=bf->aV->RS (List SV)
def cZ (K:Ld) (E:XK) (t:TE) (f:dH):Prop:=
 ∀(B:cc) (b:L2.St) (H:Hp) (α:List So) (Z:aV) (ρ:bf) (Q:VK),Td B K H α Z->VJ (ow B α Z) K H α b ρ->WS K E B H α Z (fun x a g e=>∀v,VU (ow B a g) K e a v x->Q v e) (f ρ Z)->t b H Q
def yL (K:Ld) (E:XK) (t:TT) (f:xi):Prop:=
 ∀(B:cc) (a:L2.St) (H:Hp) (α:List So) (Z:aV) (ρ:bf) (Q:Bool->Hp->Prop),Td B K H α Z->VJ (ow B α Z) K H α a ρ->WS K E B H α Z (fun b _ _ e=>Q b e) (f ρ Z)->t a H Q
def vJ (K:Ld) (E:XK) (t:TA) (f:uS):Prop:=
 ∀(B:cc) (b:L2.St) (H:Hp) (α:List So) (Z:aV) (ρ:bf) (Q:List V->Hp->Prop),Td B K H α Z->VJ (ow B α Z) K H α b ρ->WS K E B H α Z (fun xs a g e=>∀vs,Vr (ow B a g) K e a vs xs->Q vs e) (f ρ Z)->t b H Q
section
variable {B O M:cc} {K:Ld} {E:XK} {H H' T H2:Hp} {Y N X J:List So} {Z Z' Z1 P:aV} {U:L2.St} {ρ:bf} {v:V}
def LA:Option SV->Option PV
 |some (.fz d)=>lD (.fz d)
 |_=>Sg
def cx (ρ:bf):aY:=ρ.map LA
theorem t7 {i:Nat} (h:(cx ρ)[i]? =lD (lD x)):∃d,x= .fz d/\ρ[i]? =lD (lD (.fz d)):=by
 unfold cx at h;rw[Sx] at h;cases q:ρ[i]? with
 |none=>rw[q] at h;cases h
 |some o=>
  rw[q] at h;have a:=SM h;unfold LA at a;split at a
  .cases a;exact⟨_,rfl,rfl⟩
  .cases a
theorem Ho (s:Td B K H Y Z) (a:VJ (ow B Y Z) K H Y U ρ):Rl K (ow B Y Z) H (ow B Y Z) U H (cx ρ):=by
 refine⟨Uw.refl _,fun _ h=>h,s.owd,s.noO,by unfold cx;rw[Sj];exact a.1,fun i x h=> ?_,fun i j ds l w h=> ?_⟩
 .obtain⟨d,rfl,b⟩:=t7 h;obtain⟨v,g,f⟩:=a.2 i _ b;exact⟨v,g,f⟩
 .obtain⟨d,e,_⟩:=t7 h;cases e
def lQ (Z:aV):RV->RS SV
 | .fz d=> .ok (.fz d) Z
 | .ow ds=> .ok (.rf Z.length) (Z++[.lst (ds.map .fz)])
abbrev PQ (B:cc) (K:Ld) (Q:VK):SV->List So->aV->Hp->Prop:=fun x N Z' H'=>∀v,VU (ow B N Z') K H' N v x->Q v H'
theorem jG (O:cc) (Y:List So):∀{vs:List V} {ds:List D},Ur O K H vs ds->Vr O K H Y vs (ds.map .fz)
 |_,_,.nil=> .nil
 |_,_,.cons h t=> .cons h (jG O Y t)
theorem Fc:∀{vs:List V} {ds:List D},Vr O K H Y vs (ds.map .fz)->Ur O K H vs ds
 |_,[],.nil=> .nil
 |_,_::_,.cons h t=> .cons h (Fc t)
theorem ro (s:Td B K H Y Z) (w:WS K E B H Y Z (PQ B K Q) (lQ Z (.ow ds))) (e:Uw H H') (a:H p=Sg) (h:H' p=lD (.lst vs)) (hd:Ur M K H' vs ds) (f:∀b,ow B Y Z b->M b) (g:M p):Q (.ref p) H':=by
 have sub:∀b,ow B (Y++[p]) (Z++[.lst (ds.map .fz)]) b->M b:=fun b z=>z.elim (fun q=>f b (.inl q)) fun q=>(uX s.len q).elim (fun q=>f b (.inr q)) fun q=>by rw[q];exact g
 exact w (Y++[p]) H' (UD.ZA s.len e a) (s.ZA e a (by rw[h];simp) ⟨vs,h,jG _ _ (hd.ev (Ev.sub sub))⟩) (.ref p) ⟨p,by rw[<-s.len];exact bc,rfl⟩
theorem GB (s:Td B K H Y Z) (w:WS K E B H Y Z (PQ B K Q) (lQ Z rv)):Fin (ow B Y Z) K H Q rv:=by
 cases rv with
 |fz d=>exact fun v H' e a=>w Y H' (UD.same e) (s.grow e) v a
 |ow ds=>exact fun p vs H' e f h a=>ro s w e f h a (fun b z=> .inl z) (.inr rfl)
def ae (f:FE):dH:=fun ρ Z=>match f (cx ρ) with
 | .ok (.fz d,_)=> .ok (.fz d) Z
 | .ok (.ow ds,_)=>lQ Z (.ow ds)
 | .ok (.pl _,_)=> .bad
 | .er x=> .er x Z
 | .bad=> .bad
theorem au (h:EO K E t f):cZ K E t (ae f):=by
 intro B U H Y Z ρ Q s g w;refine h (ow B Y Z) H (ow B Y Z) U H (cx ρ) Q (Ho s g) ?_;unfold ae at w;cases q:f (cx ρ) with
 |bad=>rw[q] at w;exact w.elim
 |er x=>rw[q] at w;exact fun c dx H' e k=>w c dx Y H' (UD.same e) (s.grow e) k
 |ok r=>
  obtain⟨pv,b⟩:=r;rw[q] at w;intro M v H' e R p;cases pv with
  |fz d=>exact w Y H' (UD.same R.same) (s.grow R.same) v (DV.ev (Ev.sub R.bo) p)
  |ow ds=>obtain⟨a,vs,rfl,n,m,l,j,o⟩:=p;exact ro s w R.same m l j R.bo n
  |pl i=>exact w.elim
def bO (f:FT):xi:=fun ρ Z=>match f (cx ρ) with
 | .ok (b,_)=> .ok b Z
 | .er x=> .er x Z
 | .bad=> .bad
theorem rY (h:TTO K E t f):yL K E t (bO f):=by
 intro B U H Y Z ρ Q s g w;refine h (ow B Y Z) H (ow B Y Z) U H (cx ρ) Q (Ho s g) ?_;unfold bO at w;cases q:f (cx ρ) with
 |bad=>rw[q] at w;exact w.elim
 |er x=>rw[q] at w;exact fun c dx H' e k=>w c dx Y H' (UD.same e) (s.grow e) k
 |ok r=>obtain⟨b,a⟩:=r;rw[q] at w;exact fun M H' e R=>w Y H' (UD.same R.same) (s.grow R.same)
def ar (i:Nat):dH:=fun ρ Z=>match ρ[i]? with
 |some (lD x)=> .ok x Z
 |_=> .bad
theorem a8:cZ K E (yr i) (ar i):=by
 intro B U H Y Z ρ Q s a w;unfold ar at w;cases q:ρ[i]? with
 |none=>rw[q] at w;exact w.elim
 |some o=>
  cases o with
  |none=>rw[q] at w;exact w.elim
  |some x=>rw[q] at w;obtain⟨v,e,b⟩:=a.2 i x q;exact⟨v,e,WS.now s w v b⟩
def fU (K:Ld) (C:Str) (fs:List Str):Prop:=∃Ca,SU K SK C=lD (lD (.ref Ca))/\Cls K Ca/\∀f∈fs,WN K Ca f
def a9 (C f:Str) (e:dH):dH:=fun ρ Z=>(e ρ Z).bind fun x Z1=>match x with
 | .rf i=>(match Z1[i]? with
  |some (.obj D fs)=>if D=C then RS.TB Z1 (fs.lookup f) else .bad
  |_=> .bad)
 |_=> .bad
theorem uF:∀{ws:List (Str×V)} {fs:List (Str×SV)},Paired (fun(p:Str×V) (q:Str×SV)=>p.1=q.1/\VU O K H Y p.2 q.2) ws fs->fs.lookup f=lD x->∃v,ws.lookup f=lD v/\VU O K H Y v x
 |_,_,.nil,h=>by cases h
 |(a,v)::ws,(b,y)::fs,.cons ⟨h1,h2⟩ t,h=>by
  cases h1;rw[SR] at h⊢;split at h
  .cases h;exact⟨v,rfl,h2⟩
  .exact uF t h
theorem ul:∀{ws:List (Str×V)} {fs:List (Str×SV)},Paired (fun(p:Str×V) (q:Str×SV)=>p.1=q.1/\VU O K H Y p.2 q.2) ws fs->fs.lookup f=Sg->ws.lookup f=Sg
 |_,_,.nil,h=>rfl
 |(a,v)::ws,(b,y)::fs,.cons ⟨h1,h2⟩ t,h=>by
  cases h1;rw[SR] at h⊢;split at h
  .cases h
  .exact ul t h
theorem b8 (p:fU K C L) (o:f∈L) (ha:cZ K E ta fa):cZ K E (Nd K ta f) (a9 C f fa):=by
 intro B U H Y Z ρ Q s j w;refine ha B U H Y Z ρ _ s j (w.bind.imp fun x X Z1 T G e b v m=> ?_);cases x with
 |fz d=>exact b.elim
 |tp l=>exact b.elim
 |rf i=>
  obtain⟨a,ha,rfl⟩:=m;dsimp only at b;cases q:Z1[i]? with
  |none=>rw[q] at b;exact b.elim
  |some c=>
   rw[q] at b;cases c with
   |obj D fs=>
    dsimp only at b;by_cases z:D=C
    .subst z
     rw[if_pos rfl] at b;obtain⟨Ca,dx,ws,y,t,r⟩:=e.ZL i a _ ha q;cases ql:fs.lookup f with
     |none=>rw[ql] at b;exact b.elim
     |some x=>rw[ql] at b;obtain⟨u,n,h⟩:=uF r ql;obtain⟨I,g,F,A⟩:=p;rw[y] at g;cases g;exact⟨a,Ca,dx,ws,u,rfl,t,F,A f o,n,WS.now e b u h⟩
    .rw[if_neg z] at b;exact b.elim
   |_=>exact b.elim
def aC {Y a:Type} (f:Y->Option a):List Y->Option (List a)
 |[]=>lD []
 |x::r=>match f x with
  |some y=>(match aC f r with
   |some b=>lD (y::b)
   |none=>Sg)
  |none=>Sg
def tS:Nat->aV->SV->Option D
 |_,_,.fz d=>lD d
 |0,_,_=>Sg
 |n+1,Z,.rf i=>match Z[i]? with
  |some (.lst xs)=>(aC (tS n Z) xs).map .list
  |_=>Sg
 |n+1,Z,.tp l=>(aC (fun x=>tS n Z x.sv) l).map .tuple
theorem cH {Y a:Type} {f:Y->Option a} {R:V->Y->Prop} {S:V->a->Prop} (h:∀v x y,R v x->f x=lD y->S v y):∀{vs:List V} {xs:List Y} {ys:List a},Paired R vs xs->aC f xs=lD ys->Paired S vs ys
 |_,_,_,.nil,e=>by cases e;exact .nil
 |_,_,_,.cons (b:=x) (l₂:=xs) r t,e=>by
  unfold aC at e;cases q:f x with
  |none=>rw[q] at e;cases e
  |some y=>
   rw[q] at e;dsimp only at e;cases q2:aC f xs with
   |none=>rw[q2] at e;cases e
   |some ys=>rw[q2] at e;cases e;exact .cons (h _ _ _ r q) (cH h t q2)
theorem iS:∀{vs:List V} {ds:List D},Paired (DV O K H) vs ds->Ur O K H vs ds
 |_,_,.nil=> .nil
 |_,_,.cons h t=> .cons h (iS t)
theorem Lx:Ev O H noO H:=Ev.sub fun _ z=>z.elim
theorem jP (s:Td B K H Y Z):∀(n:Nat) {v:V} {x:SV} {d:D},VU (ow B Y Z) K H Y v x->tS n Z x=lD d->DV noO K H v d
 |n,v,.fz d',d,h,e=>by
  have g:lD d'=lD d:=by cases n<;>exact e
  cases g;exact DV.ev Lx h
 |0,v,.rf i,d,h,e=>by cases e
 |0,v,.tp l,d,h,e=>by cases e
 |n+1,v,.rf i,d,h,e=>by
  obtain⟨a,ha,rfl⟩:=h;unfold tS at e;cases q:Z[i]? with
  |none=>rw[q] at e;cases e
  |some c=>
   rw[q] at e;cases c with
   |lst xs=>
    dsimp only at e;cases q2:aC (tS n Z) xs with
    |none=>rw[q2] at e;cases e
    |some ds=>rw[q2] at e;cases e;obtain⟨vs,f,b⟩:=s.ZL i a _ ha q;exact .lst ⟨Ww.of f,fun z=>z.elim⟩ (iS (cH (R:=VU (ow B Y Z) K H Y) (fun v x y r e=>jP s n r e) b q2))
   |_=>cases e
 |n+1,v,.tp l,d,h,e=>by
  obtain⟨a,xs,rfl,f,b⟩:=h;unfold tS at e;cases q2:aC (fun x=>tS n Z x.sv) l with
  |none=>rw[q2] at e;cases e
  |some ds=>rw[q2] at e;cases e;exact .tup (f.ev Lx) (iS (cH (fun v x y r e=>jP s n (by cases x<;>exact r) e) b q2))
def wo:SV->Option D
 | .fz d=>lD d
 |_=>Sg
def sh (Z:aV):SV->Option D
 | .fz d=>lD d
 | .rf i=>match Z[i]? with
  |some (.lst xs)=>(aC wo xs).map .list
  |_=>Sg
 | .tp _=>Sg
theorem HM (s:Td B K H Y Z) (h:VU (ow B Y Z) K H Y v x) (e:sh Z x=lD d):DX (ow B Y Z) K H v d:=by
 cases x with
 |fz g=>cases e;exact DV.x h
 |tp l=>cases e
 |rf i=>
  obtain⟨a,ha,rfl⟩:=h;unfold sh at e;dsimp only at e;cases q:Z[i]? with
  |none=>rw[q] at e;cases e
  |some c=>
   rw[q] at e;cases c with
   |lst xs=>
    dsimp only at e;cases q2:aC wo xs with
    |none=>rw[q2] at e;cases e
    |some ds=>
     rw[q2] at e;cases e;obtain⟨vs,f,b⟩:=s.ZL i a _ ha q;refine⟨a,vs,rfl,Ww.of f,iS (cH (fun v x y r e=> ?_) b q2)⟩;cases x with
     |fz d=>cases e;exact r
     |rf i=>cases e
     |tp l=>cases e
   |_=>cases e
def yB:D->Bool
 | .none=>Si
 | .bool _=>Si
 | .int _=>Si
 | .str _=>Si
 |_=>Sq
theorem Kp (h:yB d=Si) (a:DV O K H v d):DV M K H' v d:=by
 cases a with
 |UT=>exact .UT
 |bl b=>exact .bl b
 |int i=>exact .int i
 |str x=>exact .str x
 |tup _ _=>cases h
 |lst _ _=>cases h
def uJ (Z:aV):RV->RS SV
 | .fz d=>if yB d=Si then .ok (.fz d) Z else .bad
 | .ow _=> .bad
theorem BC (s:Td B K H Y Z) (w:WS K E B H Y Z (PQ B K Q) (uJ Z rv)):Fin noO K H Q rv:=by
 cases rv with
 |fz d=>
  have w:WS K E B H Y Z (PQ B K Q) (if yB d=Si then RS.ok (SV.fz d) Z else RS.bad):=w;by_cases z:yB d=Si
  .rw[if_pos z] at w;exact fun v H' e a=>w Y H' (UD.same e) (s.grow e) v (Kp z a)
  .rw[if_neg z] at w;exact w.elim
 |ow ds=>exact w.elim
theorem Fq:nI noO H:=fun _ _ z=>z
def rC (f:D->D->Option RV) (x y:SV) (Z:aV):RS SV:=match sh Z x,sh Z y with
 |some dx,lD a=>(RS.TB Z (f dx a)).bind fun rv Z1=>lQ Z1 rv
 |_,_=>(RS.TB Z (tS 6 Z x)).bind fun dx Z1=>(RS.TB Z1 (tS 6 Z1 y)).bind fun a P=>(RS.TB P (f dx a)).bind fun rv b=>uJ b rv
theorem zz (n:nM K r f) (s:Td B K H Y Z) (m:VU (ow B Y Z) K H Y x a) (l:VU (ow B Y Z) K H Y y b) (w:WS K E B H Y Z (PQ B K Q) (rC f a b Z)):r x y H Q:=by
 have e:WS K E B H Y Z (PQ B K Q) ((RS.TB Z (tS 6 Z a)).bind fun dx Z1=>(RS.TB Z1 (tS 6 Z1 b)).bind fun i P=>(RS.TB P (f dx i)).bind fun rv o=>uJ o rv)->r x y H Q:=fun w=>by obtain⟨dx,g,w⟩:=w.TB;obtain⟨i,h,w⟩:=w.TB;obtain⟨rv,j,w⟩:=w.TB;exact n noO H x y dx i rv Q Fq (DV.x (jP s 6 m g)) (DV.x (jP s 6 l h)) j (BC s w)
 unfold rC at w;cases g:sh Z a with
 |none=>rw[g] at w;exact e w
 |some dx=>
  cases h:sh Z b with
  |none=>rw[g,h] at w;exact e w
  |some i=>rw[g,h] at w;obtain⟨rv,j,w⟩:=w.TB;exact n _ H x y dx i rv Q s.noO (HM s m g) (HM s l h) j (GB s w)
def kZ (f:D->D->Option RV) (fa fb:dH):dH:=fun ρ Z=>(fa ρ Z).bind fun x Z1=>(fb ρ Z1).bind fun y P=>rC f x y P
theorem jH (l:nM K r f) (ha:cZ K E ta fa) (m:cZ K E tb fb):cZ K E (LC r ta tb) (kZ f fa fb):=by intro B U H Y Z ρ Q s a w;refine ha B U H Y Z ρ _ s a (w.bind.imp fun x X Z1 T o h e v i=> ?_);refine m B U T X Z1 ρ _ h (a.Vh o) (e.bind.imp fun y J P H2 n g b u j=> ?_);exact zz l g (i.Vh n) j b
def KA:SV->Option Bool
 | .fz (.bool b)=>lD b
 |_=>Sg
theorem IS (e:KA x=lD b) (h:VU O K H Y v x):v= .bl b:=by
 unfold KA at e;split at e
 .cases e;cases h;rfl
 .cases e
def bJ (fa:dH):xi:=fun ρ Z=>(fa ρ Z).bind fun x Z1=>RS.TB Z1 (KA x)
theorem jr (ha:cZ K E ta fa):yL K E (Bf ta) (bJ fa):=by
 intro B U H Y Z ρ Q s e w;refine ha B U H Y Z ρ _ s e (w.bind.imp fun x X Z1 T h f a v g=> ?_);cases q:KA x with
 |none=>rw[q] at a;exact a.elim
 |some b=>rw[q] at a;exact⟨b,IS q g,WS.now f a⟩
theorem EA (ha:cZ K E ta fa):yL K E (tB ta) (bJ fa):=jr ha
def na (fa fb:xi):xi:=fun ρ Z=>(fa ρ Z).bind fun b Z1=>if b=Si then fb ρ Z1 else .ok Sq Z1
def DU (fa fb:xi):xi:=fun ρ Z=>(fa ρ Z).bind fun b Z1=>if b=Si then .ok Si Z1 else fb ρ Z1
def ri (fa:xi):xi:=fun ρ Z=>(fa ρ Z).bind fun b Z1=> .ok (!b) Z1
theorem IR (j:yL K E t f) (i:yL K E u g):yL K E (Oo t u) (na f g):=by
 intro B U H Y Z ρ Q s e w;refine j B U H Y Z ρ _ s e (w.bind.imp fun b X Z1 T l h a=> ?_);cases b with
 |true=>exact i B U T X Z1 ρ Q h (e.Vh l) a
 |false=>exact WS.now h a
theorem MW (j:yL K E t f) (i:yL K E u g):yL K E (Rq t u) (DU f g):=by
 intro B U H Y Z ρ Q s e w;refine j B U H Y Z ρ _ s e (w.bind.imp fun b X Z1 T l h a=> ?_);cases b with
 |true=>exact WS.now h a
 |false=>exact i B U T X Z1 ρ Q h (e.Vh l) a
theorem JX (h:yL K E t f):yL K E (NX t) (ri f):=by intro B U H Y Z ρ Q s e w;exact h B U H Y Z ρ _ s e (w.bind.imp fun b X Z1 T i g a=>WS.now g a)
def rc:xi:=fun _ Z=> .ok Si Z
theorem ze:yL K E Fp rc:=fun B U H Y Z ρ Q s a w=>WS.now s w
def DZ (fa fb:dH):dH:=fun ρ Z=>(bJ fa ρ Z).bind fun b Z1=>if b=Si then fb ρ Z1 else .ok (.fz (.bool Sq)) Z1
theorem CQ (ha:cZ K E ta fa) (g:cZ K E tb fb):cZ K E (GQ ta tb) (DZ fa fb):=by
 intro B U H Y Z ρ Q s e w;refine jr ha B U H Y Z ρ (fun c T=>if c=Si then tb U T Q else Q (.bl Sq) T) s e (w.bind.imp fun b X Z1 T h f a=> ?_);cases b with
 |true=>exact g B U T X Z1 ρ Q f (e.Vh h) a
 |false=>exact WS.now f a _ (.bl Sq)
def HR (c:xi) (fa fb:dH):dH:=fun ρ Z=>(c ρ Z).bind fun b Z1=>if b=Si then fa ρ Z1 else fb ρ Z1
theorem Eo (h:yL K E t c) (ha:cZ K E ta fa) (i:cZ K E tb fb):cZ K E (Qv t ta tb) (HR c fa fb):=by
 intro B U H Y Z ρ Q s a w;refine h B U H Y Z ρ _ s a (w.bind.imp fun b X Z1 T g f e=> ?_);cases b with
 |true=>exact ha B U T X Z1 ρ Q f (a.Vh g) e
 |false=>exact i B U T X Z1 ρ Q f (a.Vh g) e
def aQ:uS:=fun _ Z=> .ok [] Z
def aj (fa:dH) (a:uS):uS:=fun ρ Z=>(fa ρ Z).bind fun x Z1=>(a ρ Z1).bind fun xs P=> .ok (x::xs) P
theorem cC:vJ K E nk aQ:=fun B U H Y Z ρ Q s a w=>WS.now s w [] .nil
theorem aN (ha:cZ K E ta fa) (j:vJ K E tr fr):vJ K E (jo ta tr) (aj fa fr):=by intro B U H Y Z ρ Q s b w;refine ha B U H Y Z ρ _ s b (w.bind.imp fun x X Z1 T m h f v i=> ?_);refine j B U T X Z1 ρ _ h (b.Vh m) (f.bind.imp fun xs J P H2 l g e vs a=> ?_);exact WS.now g e (v::vs) (.cons (i.Vh l) a)
def QR:SV->Option AV
 | .fz d=>lD (.fz d)
 | .rf i=>lD (.rf i)
 | .tp _=>Sg
def QG (xs:List SV):Option SV:=match aC wo xs with
 |some ds=>lD (.fz (.tuple ds))
 |none=>(aC QR xs).map .tp
def mJ (fa:uS):dH:=fun ρ Z=>(fa ρ Z).bind fun xs Z1=>if xs.length<=1000 then RS.TB Z1 (QG xs) else .bad
theorem Ap (r:VU O K H Y v x) (e:wo x=lD d):DV O K H v d:=by
 cases x with
 |fz d=>cases e;exact r
 |rf i=>cases e
 |tp l=>cases e
theorem OC (r:VU O K H Y v x) (e:QR x=lD d):AOk O K H Y v d:=by
 cases x with
 |fz d=>cases e;exact r
 |rf i=>cases e;exact r
 |tp l=>cases e
theorem u9 (ha:vJ K E ta fa):cZ K E (MS ta) (mJ fa):=by
 intro B U H Y Z ρ Q s m w;refine ha B U H Y Z ρ _ s m (w.bind.imp fun xs X Z1 T n f a vs g=> ?_);by_cases hn:xs.length<=1000
 .rw[if_pos hn] at a
  refine⟨by rw[g.length];exact Ae hn,fun p j=> ?_⟩;have b:Uw T (bx T p (.tup vs)):=b4 j _;have e:UD X Z1 T X Z1 (bx T p (.tup vs)):=UD.same b;have i:XJ (ow B X Z1) K (bx T p (.tup vs)) p vs:=⟨WZ.of aG,fun z=>absurd z (f.noO p j)⟩;unfold QG at a;cases q:aC wo xs with
  |some ds=>rw[q] at a;exact a X _ e (f.grow b) _ (.tup i (iS (cH (R:=VU (ow B X Z1) K T X) (fun v x y r h=>(Ap r h).ev e.ev) g q)))
  |none=>
   rw[q] at a;dsimp only at a;cases q2:aC QR xs with
   |none=>rw[q2] at a;exact a.elim
   |some l=>rw[q2] at a;exact a X _ e (f.grow b) _ ⟨p,vs,rfl,i,cH (R:=VU (ow B X Z1) K T X) (fun v x y r h=>(OC r h).ev e.ev e.pre) g q2⟩
 .rw[if_neg hn] at a;exact a.elim
def Mi (f:List D->Option RV) (xs:List SV) (Z:aV):RS SV:=match aC (sh Z) xs with
 |some ds=>(RS.TB Z (f ds)).bind fun rv Z1=>lQ Z1 rv
 |_=>(RS.TB Z (aC (tS 6 Z) xs)).bind fun ds Z1=>(RS.TB Z1 (f ds)).bind fun rv a=>uJ a rv
def GR (f:List D->Option RV) (fa:uS):dH:=fun ρ Z=>(fa ρ Z).bind fun xs Z1=>Mi f xs Z1
theorem sB (i:Gf K r f) (ha:vJ K E ta fa):cZ K E (Kd r ta) (GR f fa):=by
 intro B U H Y Z ρ Q s j w;refine ha B U H Y Z ρ _ s j (w.bind.imp fun xs X Z1 T m b a vs h=> ?_);unfold Mi at a;cases q1:aC (sh Z1) xs with
 |none=>rw[q1] at a;obtain⟨ds,l,a⟩:=a.TB;obtain⟨rv,g,a⟩:=a.TB;exact i noO T vs ds rv Q Fq (cH (R:=VU (ow B X Z1) K T X) (fun v x y r e=>DV.x (jP b 6 r e)) h l) g (BC b a)
 |some ds=>rw[q1] at a;obtain⟨rv,g,a⟩:=a.TB;exact i _ T vs ds rv Q b.noO (cH (R:=VU (ow B X Z1) K T X) (fun v x y r e=>HM b r e) h q1) g (GB b a)
end
section
variable {B O O':cc} {K:Ld} {E:XK} {H H' M L:Hp} {Y J X U:List So} {Z S Z1 T:aV} {N:L2.St} {ρ:bf} {v:V}
theorem AW:∀{vs:List V} {xs:List β} {i:Nat} {x:β},Paired R vs xs->xs[i]? =lD x->∃v,vs[i]? =lD v/\R v x
 |_,_,_,_,.nil,e=>by simp at e
 |_,_,0,_,.cons h _,e=>by simp at e;subst e;exact⟨_,rfl,h⟩
 |_,_,i+1,x,.cons _ t,e=>by obtain⟨v,b,a⟩:=AW t (by simpa using e);exact⟨v,by simpa using b,a⟩
theorem LI {vs:List V} (h:Paired R vs xs) (e:l9 xs i=lD x):∃v,l9 vs i=lD v/\R v x:=by
 unfold l9 at e⊢;rw[h.length];cases q:LU xs.length i with
 |none=>rw[q] at e;cases e
 |some j=>rw[q] at e;exact AW h e
def G2:SV->Option Int
 | .fz (.int i)=>lD i
 |_=>Sg
theorem B9 (e:G2 x=lD i) (h:VU O K H Y v x):v= .int i:=by
 unfold G2 at e;split at e
 .cases e;cases h;rfl
 .cases e
def Mr (x y:SV) (Z:aV):RS SV:=match x with
 | .fz _=>rC bj x y Z
 | .rf j=>(match Z[j]? with
  |some (.lst xs)=>(RS.TB Z (G2 y)).bind fun i Z1=>RS.TB Z1 (l9 xs i)
  |_=> .bad)
 | .tp l=>(RS.TB Z (G2 y)).bind fun i Z1=>RS.TB Z1 ((l9 l i).map AV.sv)
def j8 (fa fb:dH):dH:=fun ρ Z=>(fa ρ Z).bind fun x Z1=>(fb ρ Z1).bind fun y T=>Mr x y T
theorem sY (ha:cZ K E ta fa) (C:cZ K E tb fb):cZ K E (LC (QC K) ta tb) (j8 fa fb):=by
 intro B N H Y Z ρ Q s r w;refine ha B N H Y Z ρ _ s r (w.bind.imp fun x X Z1 M G A t v e=> ?_);refine C B N M X Z1 ρ _ A (r.Vh G) (t.bind.imp fun y U T L F f b u n=> ?_);have e:=e.Vh F;unfold Mr at b;cases x with
 |fz d=>exact zz cD f e n b
 |rf j=>
  obtain⟨a,ha,rfl⟩:=e;dsimp only at b;cases q:T[j]? with
  |none=>rw[q] at b;exact b.elim
  |some c=>
   rw[q] at b;cases c with
   |lst xs=>
    obtain⟨i,h,b⟩:=WS.TB b;cases qa:l9 xs i with
    |none=>rw[qa] at b;exact b.elim
    |some x=>rw[qa] at b;obtain⟨vs,p,o⟩:=f.ZL j a _ ha q;obtain⟨z,m,g⟩:=LI o qa;exact .inl ⟨a,vs,i,z,rfl,B9 h n,Xa.of p,m,WS.now f b z g⟩
   |_=>exact b.elim
 |tp l=>
  obtain⟨a,xs,rfl,p,o⟩:=e;obtain⟨i,h,b⟩:=WS.TB b;cases qa:l9 l i with
  |none=>rw[qa] at b;exact b.elim
  |some x=>rw[qa] at b;obtain⟨z,m,g⟩:=LI o qa;exact .inr (.inl ⟨a,xs,i,z,rfl,B9 h n,p.1,m,WS.now f b z (by cases x<;>exact g)⟩)
theorem JS (h:Lv Y (Z.set i .dead) b):Lv Y Z b:=by
 obtain⟨j,c,f,a,e⟩:=h;rcases cy a with⟨rfl,rfl⟩|⟨_,a⟩
 .exact absurd rfl e
 .exact⟨j,c,f,a,e⟩
theorem UD.kill:UD Y Z H Y (Z.set i .dead) H:=⟨fun _ _ h=>h,fun _ _ h _=>h,fun _ h=> .inl (JS h)⟩
theorem Td.kill (s:Td B K H Y Z) (i:Nat):Td B K H Y (Z.set i .dead):=by
 have e:UD Y Z H Y (Z.set i .dead) H:=UD.kill;refine⟨by rw[TZ];exact s.len,s.nd,s.bn,s.ba,s.al,fun j b d f a=> ?_⟩;rcases cy a with⟨rfl,rfl⟩|⟨g,a⟩
 .exact trivial
 .exact(s.ZL j b d f a).ev e.ev e.pre fun u q=>q
theorem Td.ad9 (s:Td B K H Y Z) (ha:Y[i]? =lD a):¬ow B Y (Z.set i .dead) a:=by
 rintro(z|⟨j,c,f,e,b⟩)
 .exact s.ac6 ha z
 .have:=s.nd j i a f ha
  subst this;rcases cy e with⟨_,rfl⟩|⟨g,_⟩
  .exact b rfl
  .exact g rfl
def pM (g:aV->SV->Option (D×aV)):aV->List SV->Option (List D×aV)
 |Z,[]=>lD ([],Z)
 |Z,x::r=>match g Z x with
  |some (d,Z1)=>(match pM g Z1 r with
   |some (ds,T)=>lD (d::ds,T)
   |none=>Sg)
  |none=>Sg
def frz:Nat->aV->SV->Option (D×aV)
 |_,Z,.fz d=>lD (d,Z)
 |0,_,_=>Sg
 |n+1,Z,.rf i=>match Z[i]? with
  |some (.lst xs)=>(match pM (frz n) Z xs with
   |some (ds,Z1)=>lD (.list ds,Z1.set i .dead)
   |none=>Sg)
  |_=>Sg
 |n+1,Z,.tp l=>match pM (frz n) Z (l.map AV.sv) with
  |some (ds,Z1)=>lD (.tuple ds,Z1)
  |none=>Sg
theorem vS (a:∀{Z S:aV} {v:V} {x:SV} {d:D},Td B K H Y Z->VU (ow B Y Z) K H Y v x->g Z x=lD (d,S)->Td B K H Y S/\UD Y Z H Y S H/\L3.DV (ow B Y S) K H v d):
  ∀{vs:List V} {xs:List SV} {ds:List D} {Z S:aV},Td B K H Y Z->Vr (ow B Y Z) K H Y vs xs->pM g Z xs=lD (ds,S)->Td B K H Y S/\UD Y Z H Y S H/\L3.Ur (ow B Y S) K H vs ds
 |_,_,_,Z,S,s,.nil,e=>by cases e;exact⟨s,.refl,.nil⟩
 |_,_,_,Z,S,s,.cons (b:=x) (l₂:=xs) r t,e=>by
  unfold pM at e;cases q:g Z x with
  |none=>rw[q] at e;cases e
  |some p=>
   obtain⟨d,Z1⟩:=p;rw[q] at e;dsimp only at e;obtain⟨j,h,n⟩:=a s r q;cases q2:pM g Z1 xs with
   |none=>rw[q2] at e;cases e
   |some l=>obtain⟨ds,T⟩:=l;rw[q2] at e;cases e;obtain⟨i,f,m⟩:=vS a j (Vr.Vh h t) q2;exact⟨i,h.trans f,.cons (n.ev f.ev) m⟩
theorem vC:∀{vs:List V} {l:List AV},Paired (AOk O K H Y) vs l->Vr O K H Y vs (l.map AV.sv)
 |_,_,.nil=> .nil
 |_,_,.cons (b:=x) h t=> .cons (by cases x<;>exact h) (vC t)
theorem wx:∀(n:Nat) {Z S:aV} {v:V} {x:SV} {d:D},Td B K H Y Z->VU (ow B Y Z) K H Y v x->frz n Z x=lD (d,S)->Td B K H Y S/\UD Y Z H Y S H/\L3.DV (ow B Y S) K H v d
 |n,Z,S,v,.fz d',d,s,h,e=>by
  have o:lD (d',Z)=lD (d,S):=by cases n<;>exact e
  cases o;exact⟨s,.refl,h⟩
 |0,_,_,v,.rf i,d,s,h,e=>by cases e
 |0,_,_,v,.tp l,d,s,h,e=>by cases e
 |n+1,Z,S,v,.rf i,d,s,h,e=>by
  obtain⟨a,ha,rfl⟩:=h;unfold frz at e;cases q:Z[i]? with
  |none=>rw[q] at e;cases e
  |some c=>
   rw[q] at e;cases c with
   |lst xs=>
    dsimp only at e;obtain⟨vs,j,g⟩:=s.ZL i a _ ha q;cases q2:pM (frz n) Z xs with
    |none=>rw[q2] at e;cases e
    |some p=>obtain⟨ds,Z1⟩:=p;rw[q2] at e;cases e;obtain⟨b,f,m⟩:=vS (fun s h e=>wx n s h e) s g q2;exact⟨b.kill i,f.trans UD.kill,vh j (b.ad9 ha) (m.ev (UD.kill).ev)⟩
   |_=>cases e
 |n+1,Z,S,v,.tp l,d,s,h,e=>by
  obtain⟨a,xs,rfl,j,g⟩:=h;unfold frz at e;cases q2:pM (frz n) Z (l.map AV.sv) with
  |none=>rw[q2] at e;cases e
  |some p=>obtain⟨ds,Z1⟩:=p;rw[q2] at e;cases e;obtain⟨b,f,m⟩:=vS (fun s h e=>wx n s h e) s (vC g) q2;exact⟨b,f,.tup (j.ev f.ev) m⟩
def NG (x:SV) (Z:aV):RS SV:=match frz 4 Z x with
 |some (d,Z1)=> .ok (.fz d) Z1
 |none=> .bad
def nO (f:dH):dH:=fun ρ Z=>(f ρ Z).bind fun x Z1=>NG x Z1
theorem lx (h:cZ K E t f):cZ K E t (nO f):=by
 intro B N H Y Z ρ Q s b w;refine h B N H Y Z ρ _ s b (w.bind.imp fun x X Z1 M m g a v i=> ?_);unfold NG at a;cases q:frz 4 Z1 x with
 |none=>rw[q] at a;exact a.elim
 |some p=>obtain⟨d,T⟩:=p;rw[q] at a;obtain⟨e,j,l⟩:=wx 4 g i q;exact a X M j e v l
theorem XOk.sub (h:∀b,O' b->O b) (k:XOk K O H c dx x):XOk K O' H c dx x:=by obtain⟨i,fs,g,a⟩:=k;exact⟨i,fs,g,fun f d e=>let⟨g1,v,g2,g3⟩:=a f d e;⟨g1,v,g2,g3.ev (Ev.sub h)⟩⟩
def yD (F:FN) (n:Nat) (xs:List SV) (Z:aV):RS SV:=if xs.length=n then(match aC wo xs with
 |some ds=>(match F ds with
  | .ok rv=>lQ Z rv
  | .er x=> .er x Z
  | .bad=> .bad)
 |none=>(RS.TB Z (aC (tS 6 Z) xs)).bind fun ds Z1=>(match F ds with
  | .ok rv=>uJ Z1 rv
  |_=> .bad)) else .bad
def lL:RS A->RS A
 | .er _ _=> .bad
 |r=>r
def jm (F:FN) (n:Nat) (fa:uS):dH:=fun ρ Z=>(fa ρ Z).bind fun xs Z1=>lL (yD F n xs Z1)
theorem WS.e0 (h:WS K E B H Y Z P (lL r)):WS K E0 B H Y Z P r:=by
 cases r with
 |ok a Z=>exact h
 |er x Z=>exact h.elim
 |bad=>exact h
theorem Ja (s:Td B K H Y Z) (b:Vr (ow B Y Z) K H Y vs xs) (w:WS K E B H Y Z (PQ B K Q) (yD F n xs Z)):pp K n F vs H Q E:=by
 unfold yD at w;by_cases hn:xs.length=n
 .rw[if_pos hn] at w
  refine⟨b.length.trans hn,?_⟩;cases q:aC wo xs with
  |some ds=>
   rw[q] at w;refine⟨ow B Y Z,ds,s.owd,iS (cH (R:=VU (ow B Y Z) K H Y) (fun v x y r e=>Ap r e) b q),?_⟩;dsimp only at w;cases qF:F ds with
   |ok rv=>rw[qF] at w;exact GB s w
   |er x=>rw[qF] at w;exact fun c dx H' e k=>w c dx Y H' (UD.same e) (s.grow e) k
   |bad=>rw[qF] at w;exact w.elim
  |none=>
   rw[q] at w;obtain⟨ds,f,w⟩:=WS.TB w;refine⟨noO,ds,fun a z=>z.elim,iS (cH (R:=VU (ow B Y Z) K H Y) (fun v x y r e=>jP s 6 r e) b f),?_⟩;cases qF:F ds with
   |ok rv=>rw[qF] at w;exact BC s w
   |er x=>rw[qF] at w;exact w.elim
   |bad=>rw[qF] at w;exact w.elim
 .rw[if_neg hn] at w;exact w.elim
theorem BO (ha:vJ K E ta fa):cZ K E (jX (pp K n F) [] E0 ta) (jm F n fa):=by intro B N H Y Z ρ Q s b w;refine ha B N H Y Z ρ _ s b (w.bind.imp fun xs X Z1 M g e a vs f=> ?_);rw[S8];exact Ja e f (WS.e0 a)
abbrev iA:=List SV->aV->RS SV
def db (K:Ld) (n:Nat) (F:iA):Sp:=fun vs H Q E=>vs.length=n/\∃(B:cc) (Y:List So) (Z:aV) (xs:List SV),Td B K H Y Z/\Vr (ow B Y Z) K H Y vs xs/\WS K E B H Y Z (PQ B K Q) (F xs Z)
def Cv (F:iA) (n:Nat) (fa:uS):dH:=fun ρ Z=>(fa ρ Z).bind fun xs Z1=>if xs.length=n then lL (F xs Z1) else .bad
theorem Dh (ha:vJ K E ta fa):cZ K E (jX (db K n F) [] E0 ta) (Cv F n fa):=by
 intro B N H Y Z ρ Q s e w;refine ha B N H Y Z ρ _ s e (w.bind.imp fun xs X Z1 M g f a vs b=> ?_);rw[S8];by_cases hn:xs.length=n
 .rw[if_pos hn] at a;exact⟨b.length.trans hn,B,X,Z1,xs,f,b,WS.e0 a⟩
 .rw[if_neg hn] at a;exact a.elim
def lO (Z:aV) (C m:Str):SV->Bool
 | .rf i=>match Z[i]? with
  |some (.obj D fs)=>decide (D=C)&&(fs.lookup m).isNone
  |_=>Sq
 |_=>Sq
def sO (C m:Str) (F:iA) (n:Nat) (fo:dH) (fa:uS):dH:=fun ρ Z=>(fo ρ Z).bind fun x Z1=>if lO Z1 C m x=Si then(fa ρ Z1).bind fun xs T=>(if(x::xs).length=n then F (x::xs) T else .bad) else .bad
def aU (C m:Str) (F:iA) (n:Nat) (fo:dH) (fa:uS):dH:=fun ρ Z=>(fo ρ Z).bind fun x Z1=>if lO Z1 C m x=Si then(fa ρ Z1).bind fun xs T=>(if(x::xs).length=n then lL (F (x::xs) T) else .bad) else .bad
theorem GX (g:SU K SK C=lD (lD (.ref Ca))) (s:Td B K H Y Z) (f:VU (ow B Y Z) K H Y v x) (h:lO Z C m x=Si):∃a dx fs,v= .ref a/\H a=lD (.ins Ca dx fs)/\fs.lookup m=Sg:=by
 cases x with
 |fz d=>cases h
 |tp l=>cases h
 |rf i=>
  obtain⟨a,ha,rfl⟩:=f;unfold lO at h;dsimp only at h;cases q:Z[i]? with
  |none=>rw[q] at h;cases h
  |some c=>
   rw[q] at h;cases c with
   |obj D fs=>rw[S2] at h;obtain⟨n,j⟩:=h;have e:=of_decide_eq_true n;subst e;obtain⟨r,dx,ws,b,p,o⟩:=s.ZL i a _ ha q;rw[g] at b;cases b;exact⟨a,dx,ws,rfl,p,ul o (Option.isNone_iff_eq_none.mp j)⟩
   |_=>cases h
theorem E4 (q:SU K SK C=lD (lD (.ref Ca))) (p:cZ K E to fo) (ha:vJ K E ta fa):cZ K E (uj Ca m (db K n F) [] E to ta) (sO C m F n fo fa):=by
 intro B N H Y Z ρ Q s g w;refine p B N H Y Z ρ _ s g (w.bind.imp fun x X Z1 M y i e v j=> ?_);by_cases h:lO Z1 C m x=Si
 .rw[if_pos h] at e
  obtain⟨a,dx,fs,rfl,t,r⟩:=GX q i j h;refine⟨a,dx,fs,rfl,t,r,?_⟩;refine ha B N M X Z1 ρ _ i (g.Vh y) (e.bind.imp fun xs U T L u o b vs f=> ?_);rw[S8];have l:Vr (ow B U T) K L U (.ref a::vs) (x::xs):= .cons (j.Vh u) f;by_cases hn:(x::xs).length=n
  .rw[if_pos hn] at b;exact⟨l.length.trans hn,B,U,T,_,o,l,b⟩
  .rw[if_neg hn] at b;exact b.elim
 .rw[if_neg h] at e;exact e.elim
theorem DG (q:SU K SK C=lD (lD (.ref Ca))) (p:cZ K E to fo) (ha:vJ K E ta fa):cZ K E (uj Ca m (db K n F) [] E0 to ta) (aU C m F n fo fa):=by
 intro B N H Y Z ρ Q s g w;refine p B N H Y Z ρ _ s g (w.bind.imp fun x X Z1 M y i e v j=> ?_);by_cases h:lO Z1 C m x=Si
 .rw[if_pos h] at e
  obtain⟨a,dx,fs,rfl,t,r⟩:=GX q i j h;refine⟨a,dx,fs,rfl,t,r,?_⟩;refine ha B N M X Z1 ρ _ i (g.Vh y) (e.bind.imp fun xs U T L u o b vs f=> ?_);rw[S8];have l:Vr (ow B U T) K L U (.ref a::vs) (x::xs):= .cons (j.Vh u) f;by_cases hn:(x::xs).length=n
  .rw[if_pos hn] at b;exact⟨l.length.trans hn,B,U,T,_,o,l,WS.e0 b⟩
  .rw[if_neg hn] at b;exact b.elim
 .rw[if_neg h] at e;exact e.elim
def Dk:SV->Bool
 | .fz .none=>Si
 |_=>Sq
def tZ (C:Str) (F:iA) (n:Nat) (xs:List SV) (Z:aV):RS SV:=if(SV.rf Z.length::xs).length=n then(F (.rf Z.length::xs) (Z++[.obj C []])).bind fun r T=>(if Dk r=Si then .ok (.rf Z.length) T else .bad) else .bad
def Hl (C:Str) (F:iA) (n:Nat) (fa:uS):dH:=fun ρ Z=>(fa ρ Z).bind fun xs Z1=>tZ C F n xs Z1
def ut (C:Str) (F:iA) (n:Nat) (fa:uS):dH:=fun ρ Z=>(fa ρ Z).bind fun xs Z1=>lL (tZ C F n xs Z1)
theorem IX (h:Dk x=Si) (a:VU O K H Y v x):v= .UT:=by
 unfold Dk at h;split at h
 .cases a;rfl
 .cases h
theorem F9 (p:SU K SK C=lD (lD (.ref Ca))) (s:Td B K H Y Z) (o:Vr (ow B Y Z) K H Y vs xs) (w:WS K E B H Y Z (PQ B K Q) (tZ C F n xs Z)):
  ∀x dx,H x=Sg->H dx=Sg->dx≠x->db K n F (.ref x::(vs++[])) (bx (bx H dx (.own x)) x (.ins Ca dx [])) (fun v L=>v= .UT/\Q (.ref x) L) E:=by
 intro x dx f h t;rw[S8];unfold tZ at w;have i:Uw H (bx (bx H dx (.own x)) x (.ins Ca dx [])):=(b4 h _).trans (b4 (by rw[ay (fun z=>t z.symm)];exact f) _);have e:UD Y Z H (Y++[x]) (Z++[.obj C []]) (bx (bx H dx (.own x)) x (.ins Ca dx [])):=UD.ZA s.len i f;have m:Td B K (bx (bx H dx (.own x)) x (.ins Ca dx [])) (Y++[x]) (Z++[.obj C []]):=s.ZA i f (by rw[aG];simp) ⟨Ca,dx,[],p,aG,.nil⟩;have a:∀{J:List So} {S:aV} {H':Hp},UD (Y++[x]) (Z++[.obj C []]) (bx (bx H dx (.own x)) x (.ins Ca dx [])) J S H'->VU (ow B J S) K H' J (.ref x) (.rf Z.length):=fun e=>⟨x,e.pre _ _ (by rw[<-s.len];exact bc),rfl⟩;by_cases hn:(SV.rf Z.length::xs).length=n
 .rw[if_pos hn] at w
  have j:Vr (ow B (Y++[x]) (Z++[.obj C []])) K (bx (bx H dx (.own x)) x (.ins Ca dx [])) (Y++[x]) (.ref x::vs) (.rf Z.length::xs):= .cons (a .refl) (Vr.Vh e o);refine⟨j.length.trans hn,B,_,_,_,m,j,?_⟩;refine WS.imp (WS.from e w.bind) fun r U T L q l b v g=> ?_;by_cases z:Dk r=Si
  .rw[if_pos z] at b;exact⟨IX z g,WS.now l b _ (a q)⟩
  .rw[if_neg z] at b;exact b.elim
 .rw[if_neg hn] at w;exact w.elim
theorem IT (g:SU K SK C=lD (lD (.ref Ca))) (ha:vJ K E ta fa):cZ K E (zc Ca (db K n F) [] E ta) (Hl C F n fa):=by intro B N H Y Z ρ Q s b w;refine ha B N H Y Z ρ _ s b (w.bind.imp fun xs X Z1 M h e a vs f=> ?_);exact F9 g e f a
theorem Fu (g:SU K SK C=lD (lD (.ref Ca))) (ha:vJ K E ta fa):cZ K E (zc Ca (db K n F) [] E0 ta) (ut C F n fa):=by intro B N H Y Z ρ Q s b w;refine ha B N H Y Z ρ _ s b (w.bind.imp fun xs X Z1 M h e a vs f=> ?_);exact F9 g e f (WS.e0 a)
def io (Z:aV):SV->Option (Nat×List SV)
 | .rf i=>match Z[i]? with
  |some (.lst xs)=>lD (i,xs)
  |_=>Sg
 |_=>Sg
theorem wX (s:Td B K H Y Z) (b:VU (ow B Y Z) K H Y v x) (h:io Z x=lD (i,xs)):Z[i]? =lD (.lst xs)/\∃a vs,Y[i]? =lD a/\v= .ref a/\H a=lD (.lst vs)/\Vr (ow B Y Z) K H Y vs xs:=by
 cases x with
 |fz d=>cases h
 |tp l=>cases h
 |rf j=>
  obtain⟨a,ha,rfl⟩:=b;unfold io at h;dsimp only at h;cases q:Z[j]? with
  |none=>rw[q] at h;cases h
  |some c=>
   rw[q] at h;cases c with
   |lst m=>have e:=SM h;cases e;obtain⟨vs,g,f⟩:=s.ZL i a _ ha q;exact⟨q,a,vs,ha,rfl,g,f⟩
   |_=>cases h
theorem wK (h:Paired R vs xs) (r:R v x):Paired R (vs++[v]) (xs++[x]):=by
 induction h with
 |nil=>exact .cons r .nil
 |cons a _ b=>exact .cons a b
def l4 (fo fe:dH):dH:=fun ρ Z=>(fo ρ Z).bind fun o Z1=>(RS.TB Z1 (io Z1 o)).bind fun _ Z1=>(fe ρ Z1).bind fun x T=>(RS.TB T (io T o)).bind fun p a=>
 if p.2.length<1000000 then .ok (.fz .none) (a.set p.1 (.lst (p.2++[x]))) else .bad
theorem qE (F:cZ K E to fo) (G:cZ K E te fe):cZ K E (PL K "list" wA to (jo te nk)) (l4 fo fe):=by
 intro B N H Y Z ρ Q s j w;refine F B N H Y Z ρ _ s j (w.bind.imp fun o X Z1 M e1 m e v n=> ?_);obtain⟨⟨i0,y⟩,A,e⟩:=WS.TB e;obtain⟨_,t,f,_,rfl,P,_⟩:=wX m n A;refine⟨.inl ⟨rfl,f,Xa.of P⟩,?_⟩;refine G B N M X Z1 ρ _ m (j.Vh e1) (e.bind.imp fun x U T L e2 l b u C=> ?_);obtain⟨⟨i,xs⟩,q,b⟩:=WS.TB b;obtain⟨g,a,vs,ha,R,I,p⟩:=wX l (n.Vh e2) q;cases R;dsimp only at b;by_cases hn:xs.length<1000000
 .rw[if_pos hn] at b;have ev:Ev (ow B U T) L (ow B U T) (bx L t (.lst (vs++[u]))):=rG ha g (by intro z;cases z);refine⟨t,vs,u,rfl,rfl,I,uq (by rw[p.length];exact hn),?_⟩;exact b U _ (UD.put ha g (by intro z;cases z) (by intro z;cases z)) (l.put ha g (by intro z;cases z) (by intro z;cases z) ⟨_,aG,wK (Paired.WK p fun _ _ r=>r.ev ev fun _ _ h=>h) (C.ev ev fun _ _ h=>h)⟩) _ .UT
 .rw[if_neg hn] at b;exact b.elim
end
inductive FlS where
 |nx (ρ:bf)
 |bk (ρ:bf)
 |ct (ρ:bf)
 |rt (x:SV)
abbrev eP:=bf->aV->RS FlS
abbrev D8:=SV->bf->aV->RS bf
abbrev G7:=List SV->bf->aV->RS bf
def xA (B:cc) (K:Ld) (D:Ends):FlS->List So->aV->Hp->Prop
 | .nx ρ,α,Z,H=>∀σ,VJ (ow B α Z) K H α σ ρ->D.nx σ H
 | .bk ρ,α,Z,H=>∀σ,VJ (ow B α Z) K H α σ ρ->D.bk σ H
 | .ct ρ,α,Z,H=>∀σ,VJ (ow B α Z) K H α σ ρ->D.ct σ H
 | .rt x,α,Z,H=>∀v,VU (ow B α Z) K H α v x->D.rt v H
def mE (K:Ld) (E:XK) (t:TS) (g:eP):Prop:=
 ∀(B:cc) (a:L2.St) (H:Hp) (α:List So) (Z:aV) (ρ:bf) (D:Ends),Td B K H α Z->VJ (ow B α Z) K H α a ρ->WS K E B H α Z (xA B K D) (g ρ Z)->t D a H
def OG (K:Ld) (E:XK) (g:TG) (f:D8):Prop:=
 ∀(B:cc) (e:L2.St) (H:Hp) (α:List So) (Z:aV) (ρ:bf) (v:V) (x:SV) (Q:L2.St->Hp->Prop),Td B K H α Z->VJ (ow B α Z) K H α e ρ->VU (ow B α Z) K H α v x->WS K E B H α Z (fun b a i h=>∀σ',VJ (ow B a i) K h a σ' b->Q σ' h) (f x ρ Z)->g v e H Q
def Je (K:Ld) (E:XK) (g:Nm) (f:G7):Prop:=
 ∀(B:cc) (e:L2.St) (H:Hp) (α:List So) (Z:aV) (ρ:bf) (vs:List V) (xs:List SV) (Q:L2.St->Hp->Prop),Td B K H α Z->VJ (ow B α Z) K H α e ρ->Vr (ow B α Z) K H α vs xs->WS K E B H α Z (fun b a i h=>∀σ',VJ (ow B a i) K h a σ' b->Q σ' h) (f xs ρ Z)->g vs e H Q
section
variable {B O O':cc} {K:Ld} {E:XK} {H H' P N:Hp} {U M T Y:List So} {Z Z' Z1 X:aV} {S:L2.St} {ρ:bf} {v:V}
theorem VJ.set (a:VJ O K H U S ρ) (h:VU O K H U v x):VJ O K H U (S.set i (lD v)) (ρ.set i (lD x)):=by
 refine⟨by rw[TZ,TZ];exact a.1,fun j y f=> ?_⟩;rcases cy f with⟨rfl,e⟩|⟨m,b⟩
 .cases e;refine⟨v,?_,h⟩;rw[TV];have:=xh f;rw[a.1];exact this
 .obtain⟨u,l,g⟩:=a.2 j y b;exact⟨u,by rw[Ts (fun z=>m z.symm)];exact l,g⟩
def fD (i:Nat):D8:=fun x ρ Z=> .ok (ρ.set i (lD x)) Z
theorem bK:OG K E (xL i) (fD i):=fun B S H U Z ρ v x Q s a h w=>WS.now s w _ (a.set h)
def DT:G7:=fun xs ρ Z=>match xs with
 |[]=> .ok ρ Z
 |_=> .bad
def nV (f:D8) (g:G7):G7:=fun xs ρ Z=>match xs with
 |x::r=>(f x ρ Z).bind fun a Z1=>g r a Z1
 |[]=> .bad
theorem A2:Je K E Ot DT:=by
 intro B S H U Z ρ vs xs Q s a h w;cases h with
 |nil=>exact⟨rfl,WS.now s w _ a⟩
 |cons _ _=>exact w.elim
theorem mG (p:OG K E t f) (o:Je K E u g):Je K E (Hv t u) (nV f g):=by
 intro B S H U Z ρ vs xs Q s m h w;cases h with
 |nil=>exact w.elim
 |cons a b=>refine⟨_,_,rfl,p B S H U Z ρ _ _ _ s m a (WS.imp (WS.bind w) fun i T Z1 P q n l e j=> ?_)⟩;exact o B e P T Z1 i _ _ _ n j (Vr.Vh q b) l
def Hi:SV->Option (List SV)
 | .fz (.tuple ds)=>lD (ds.map .fz)
 | .tp l=>lD (l.map AV.sv)
 |_=>Sg
theorem Oe (h:VU O K H U v x) (e:Hi x=lD xs):∃a vs,v= .ref a/\XJ O K H a vs/\Vr O K H U vs xs:=by
 unfold Hi at e;split at e
 .cases e
  cases h with
  |tup h f=>exact⟨_,_,rfl,h,jG _ _ f⟩
 .cases e;obtain⟨a,b,rfl,i,g⟩:=h;exact⟨a,b,rfl,i,vC g⟩
 .cases e
def OI (n:Nat) (f:G7):D8:=fun x ρ Z=>(RS.TB Z (Hi x)).bind fun xs Z1=>if xs.length=n then f xs ρ Z1 else .bad
theorem BQ (h:Je K E t f):OG K E (MX K n t) (OI n f):=by
 intro B S H U Z ρ v x Q s e g w;obtain⟨xs,q,w⟩:=WS.TB w;obtain⟨a,vs,rfl,i,b⟩:=Oe g q;by_cases hn:xs.length=n
 .rw[if_pos hn] at w;exact⟨a,vs,rfl,i.1,b.length.trans hn,h B S H U Z ρ vs xs Q s e b w⟩
 .rw[if_neg hn] at w;exact w.elim
def cO:eP:=fun ρ Z=> .ok (.nx ρ) Z
def aK (f g:eP):eP:=fun ρ Z=>(f ρ Z).bind fun a Z1=>match a with
 | .nx ρ1=>g ρ1 Z1
 |a=> .ok a Z1
def bM (f:dH):eP:=fun ρ Z=>(f ρ Z).bind fun _ Z1=> .ok (.nx ρ) Z1
def cL (f:dH) (g:D8):eP:=fun ρ Z=>(f ρ Z).bind fun x Z1=>(g x ρ Z1).bind fun a X=> .ok (.nx a) X
def cB (c:xi) (f g:eP):eP:=fun ρ Z=>(c ρ Z).bind fun b Z1=>if b=Si then f ρ Z1 else g ρ Z1
def gC (f:dH):eP:=fun ρ Z=>(f ρ Z).bind fun x Z1=> .ok (.rt x) Z1
def uD:eP:=fun _ Z=> .ok (.rt (.fz .none)) Z
theorem jj:mE K E FH cO:=fun B S H U Z ρ D s a w=>WS.now s w S a
theorem G4:mE K E LQ uD:=fun B S H U Z ρ D s a w=>WS.now s w .UT .UT
theorem aM (m:mE K E t f) (l:mE K E u g):mE K E (JJ t u) (aK f g):=by
 intro B S H U Z ρ D s j w;refine m B S H U Z ρ {D with nx:=u D} s j (WS.imp (WS.bind w) fun n T Z1 P o e b=> ?_);cases n with
 |nx a=>exact fun h i=>l B h P T Z1 a D e i b
 |rt x=>exact WS.now (E:=E) e b
 |bk a=>exact WS.now (E:=E) e b
 |ct a=>exact WS.now (E:=E) e b
theorem iu (h:cZ K E t f):mE K E (zb t) (bM f):=by intro B S H U Z ρ D s a w;exact h B S H U Z ρ _ s a (WS.imp (WS.bind w) fun x T Z1 P g e b v i=>WS.now e b S (a.Vh g))
theorem dc (h:cZ K E t f) (p:OG K E g fg):mE K E (HC t g) (cL f fg):=by intro B S H U Z ρ D s e w;refine h B S H U Z ρ _ s e (WS.imp (WS.bind w) fun x T Z1 P q n l v o=> ?_);exact p B S P T Z1 ρ v x _ n (e.Vh q) o (WS.imp (WS.bind l) fun i Y X N r m j a b=>WS.now m j a b)
theorem on (j:yL K E c fc) (m:mE K E t f) (l:mE K E u g):mE K E (Nr c t u) (cB fc f g):=by
 intro B S H U Z ρ D s a w;refine j B S H U Z ρ _ s a (WS.imp (WS.bind w) fun b T Z1 P i h e=> ?_);cases b with
 |true=>exact m B S P T Z1 ρ D h (a.Vh i) e
 |false=>exact l B S P T Z1 ρ D h (a.Vh i) e
theorem gx (h:cZ K E t f):mE K E (JR t) (gC f):=by intro B S H U Z ρ D s b w;exact h B S H U Z ρ _ s b (WS.imp (WS.bind w) fun x T Z1 P i e a v g=>WS.now e a v g)
def Hm (i:Nat) (f:D->D->Option RV) (fe:dH):eP:=fun ρ Z=>(ar i ρ Z).bind fun x Z1=>(fe ρ Z1).bind fun y X=>(rC f x y X).bind fun z a=> .ok (.nx (ρ.set i (lD z))) a
theorem IL (n:nM K r f) (p:cZ K E te fe):mE K E (O0 i te r) (Hm i f fe):=by
 intro B S H U Z ρ D s a w;unfold Hm ar at w;cases q:ρ[i]? with
 |none=>rw[q] at w;exact w.elim
 |some o=>
  cases o with
  |none=>rw[q] at w;exact w.elim
  |some x=>rw[q] at w;obtain⟨v,C,A⟩:=a.2 i x q;refine⟨v,C,p B S H U Z ρ _ s a (WS.imp (WS.bind w) fun y T Z1 P b j g u l=> ?_)⟩;exact zz n j (A.Vh b) l (WS.imp (WS.bind g) fun z Y X N F h e t m=>WS.now h e _ ((a.Vh (b.trans F)).set m))
def eT (f:Str) (x:SV):List (Str×SV)->List (Str×SV)
 |[]=>[(f,x)]
 |(g,y)::r=>if g=f then(g,x)::r else(g,y)::eT f x r
theorem F5 (h:VU O K H U v x):∀{ws:List (Str×V)} {fs:List (Str×SV)},Paired (fun(p:Str×V) (q:Str×SV)=>p.1=q.1/\VU O K H U p.2 q.2) ws fs->Paired (fun(p:Str×V) (q:Str×SV)=>p.1=q.1/\VU O K H U p.2 q.2) (iX f v ws) (eT f x fs)
 |_,_,.nil=> .cons ⟨rfl,h⟩ .nil
 |(g,u)::ws,(g',y)::fs,.cons ⟨e,k⟩ t=>by
  cases e;unfold iX eT;by_cases z:g=f
  .rw[if_pos z,if_pos z];exact .cons ⟨rfl,h⟩ t
  .rw[if_neg z,if_neg z];exact .cons ⟨rfl,k⟩ (F5 h t)
def Gr (Z:aV) (C:Str):SV->Option (Nat×List (Str×SV))
 | .rf i=>match Z[i]? with
  |some (.obj D fs)=>if D=C then lD (i,fs) else Sg
  |_=>Sg
 |_=>Sg
theorem P6 (s:Td B K H U Z) (b:VU (ow B U Z) K H U v x) (h:Gr Z C x=lD (i,fs)):Z[i]? =lD (.obj C fs)/\∃a Ca dx ws,U[i]? =lD a/\v= .ref a/\SU K SK C=lD (lD (.ref Ca))/\H a=lD (.ins Ca dx ws)/\Paired (fun(p:Str×V) (q:Str×SV)=>p.1=q.1/\VU (ow B U Z) K H U p.2 q.2) ws fs:=by
 cases x with
 |fz d=>cases h
 |tp l=>cases h
 |rf j=>
  obtain⟨a,ha,rfl⟩:=b;unfold Gr at h;dsimp only at h;cases q:Z[j]? with
  |none=>rw[q] at h;cases h
  |some c=>
   rw[q] at h;cases c with
   |obj D n=>
    dsimp only at h;by_cases z:D=C
    .subst z;rw[if_pos rfl] at h;have e:=SM h;cases e;obtain⟨Ca,dx,ws,m,g,f⟩:=s.ZL i a _ ha q;exact⟨q,a,Ca,dx,ws,ha,rfl,m,g,f⟩
    .rw[if_neg z] at h;cases h
   |_=>cases h
def fQ (C f:Str) (fo fe:dH):eP:=fun ρ Z=>(fe ρ Z).bind fun x Z1=>(fo ρ Z1).bind fun o X=>(RS.TB X (Gr X C o)).bind fun p a=>if p.2.length<100 then .ok (.nx ρ) (a.set p.1 (.obj C (eT f x p.2))) else .bad
theorem k7 (hc:fU K C L) (Q:f∈L) (J:cZ K E to fo) (R:cZ K E te fe):mE K E (Oq K to te f) (fQ C f fo fe):=by
 intro B S H U Z ρ D s e w;refine R B S H U Z ρ _ s e (WS.imp (WS.bind w) fun x T Z1 P y F A v G=> ?_);refine J B S P T Z1 ρ _ F (e.Vh y) (WS.imp (WS.bind A) fun o Y X N t j b u I=> ?_);obtain⟨⟨i,fs⟩,q,b⟩:=WS.TB b;obtain⟨g,a,Ca,dx,ws,ha,rfl,m,h1,l⟩:=P6 j I q;obtain⟨Cb,n,g1,g2⟩:=hc;rw[m] at n;cases n;dsimp only at b;by_cases hn:fs.length<100
 .rw[if_pos hn] at b;have ev:Ev (ow B Y X) N (ow B Y X) (bx N a (.ins Ca dx (iX f v ws))):=rG ha g (by intro z;cases z);have p:UD Y X N Y (X.set i (.obj C (eT f x fs))) (bx N a (.ins Ca dx (iX f v ws))):=UD.put ha g (by intro z;cases z) (by intro z;cases z);have hl:=Paired.length l;refine⟨a,Ca,dx,ws,rfl,h1,g1,g2 f Q,by omega,?_⟩;refine b Y _ p (j.put ha g (by intro z;cases z) (by intro z;cases z) ⟨Ca,dx,_,m,aG,F5 ((G.Vh t).ev ev fun _ _ h=>h) (Paired.WK l fun _ _ r=>⟨r.1,r.2.ev ev fun _ _ h=>h⟩)⟩) S ((e.Vh (y.trans t)).Vh p)
 .rw[if_neg hn] at b;exact b.elim
abbrev OJ:=bf->aV->RS (List D)
def QL (K:Ld) (E:XK) (b:TI) (e:OJ):Prop:=
 ∀(B:cc) (S:L2.St) (H:Hp) (U:List So) (Z:aV) (ρ:bf) (a:It->Hp->Prop),Td B K H U Z->VJ (ow B U Z) K H U S ρ->WS K E B H U Z (fun ds M Z' H'=>∀J,zP K J (ow B M Z') H' ds->a J H') (e ρ Z)->b S H a
def pf (f:FI):OJ:=fun ρ Z=>match f (cx ρ) with
 | .ok (ds,_)=> .ok ds Z
 | .er x=> .er x Z
 | .bad=> .bad
theorem yd (h:IO K E wi f):QL K E wi (pf f):=by
 intro B S H U Z ρ l s g w;refine h (ow B U Z) H (ow B U Z) S H (cx ρ) l (Ho s g) ?_;unfold pf at w;cases q:f (cx ρ) with
 |bad=>rw[q] at w;exact w.elim
 |er x=>rw[q] at w;exact fun c dx H' e k=>w c dx U H' (UD.same e) (s.grow e) k
 |ok r=>obtain⟨ds,a⟩:=r;rw[q] at w;exact fun O' J H' e R i=>w U H' (UD.same R.same) (s.grow R.same) J fun m N j n=>i m N (fun b o h z=>j b o h fun y=>z (R.bo b y)) n
def jf (fe:dH):OJ:=fun ρ Z=>(fe ρ Z).bind fun x Z1=>(match frz 4 Z1 x with
 |some (d,X)=>RS.TB X (fA d)
 |none=> .bad)
theorem qC (h:cZ K E tl fe):QL K E (Fo K tl) (jf fe):=by
 intro B S H U Z ρ n s g w;refine h B S H U Z ρ _ s g (WS.imp (WS.bind w) fun x T Z1 P m i a v j=> ?_);cases q:frz 4 Z1 x with
 |none=>rw[q] at a;exact a.elim
 |some p=>
  obtain⟨d,X⟩:=p;rw[q] at a;obtain⟨e,f,l⟩:=wx 4 i j q;dsimp only at a;cases qs:fA d with
  |none=>rw[qs] at a;exact a.elim
  |some ds=>
   rw[qs] at a;cases l with
   |tup h b=>cases qs;exact⟨_,rfl,.inr ⟨⟨_,h.1⟩,a T P f e _ (FD h b)⟩⟩
   |lst h b=>cases qs;exact⟨_,rfl,.inl ⟨⟨_,h.1.sq⟩,a T P f e _ (Bi h b)⟩⟩
   |_=>cases qs
def jp (gt:D8) (b:eP):List D->eP
 |[],ρ,Z=> .ok (.nx ρ) Z
 |d::r,ρ,Z=>(gt (.fz d) ρ Z).bind fun a Z1=>(b a Z1).bind fun e X=>match e with
  | .nx ρ2=>jp gt b r ρ2 X
  | .ct ρ2=>jp gt b r ρ2 X
  | .bk ρ2=> .ok (.nx ρ2) X
  | .rt x=> .ok (.rt x) X
def sg (a:OJ) (gt:D8) (b:eP):eP:=fun ρ Z=>(a ρ Z).bind fun ds Z1=>jp gt b ds ρ Z1
theorem wM (hi:QL K E wi fi) (hg:OG K E g gt) (hb:mE K E tb b):mE K E (M0 wi g tb) (sg fi gt b):=by
 intro B S H U Z ρ D s Q w;refine hi B S H U Z ρ _ s Q (WS.imp (WS.bind w) fun ds T Z1 P e1 s1 w1 J it=> ?_);refine⟨fun i m a H'=>m=ds.length - i/\i<=ds.length/\∃Y X ρ2,UD T Z1 P Y X H'/\Td B K H' Y X/\VJ (ow B Y X) K H' Y a ρ2/\WS K E B H' Y X (xA B K D) (jp gt b (ds.drop i) ρ2 X),⟨_,rfl,Th _,T,Z1,ρ,.refl,s1,Q.Vh e1,w1⟩,?_⟩;rintro i m j N ⟨rfl,hi,Y,X,ρ2,e2,s2,sl2,w2⟩;obtain⟨go,n⟩:=it (ow B Y X) N e2.ev s2.noO;by_cases t:i<ds.length
 .obtain⟨g1,g2⟩:=go i t
  refine .inr ⟨g1,fun a H'=>i+1<=ds.length/\∃Y X ρ2,UD T Z1 P Y X H'/\Td B K H' Y X/\VJ (ow B Y X) K H' Y a ρ2/\WS K E B H' Y X (xA B K D) (jp gt b (ds.drop (i+1)) ρ2 X),fun a H' ⟨h1,h2⟩=>⟨ds.length - (i+1),by omega,rfl,h1,h2⟩,fun x L y=> ?_⟩;obtain⟨R,d,hd,dv⟩:=g2 x L y;have ed:ds.drop i=d::ds.drop (i+1):=by obtain⟨_,q⟩:=Sl.mp hd;rw[Vv t,q]
  rw[ed] at w2;have I:UD Y X N Y X L:=UD.same R;refine hg B j L Y X ρ2 x (.fz d) _ (s2.grow R) (sl2.Vh I) dv (WS.imp (WS.bind (WS.from I w2)) fun C F Z4 H4 e4 s4 w3 A G=> ?_);refine hb B A H4 F Z4 C _ s4 G (WS.imp (WS.bind w3) fun fl l Z5 H5 e5 r p=> ?_);have o:=e2.trans (I.trans (e4.trans e5));cases fl with
  |nx f=>exact fun u h=>⟨t,l,Z5,f,o,r,h,p⟩
  |ct f=>exact fun u h=>⟨t,l,Z5,f,o,r,h,p⟩
  |bk f=>exact WS.now (E:=E) r p
  |rt x=>exact WS.now (E:=E) r p
 .have e:i=ds.length:=by omega
  subst e;rw[UB (Sw _)] at w2;exact .inl ⟨n,WS.now s2 w2 j sl2⟩
def tI (c:xi) (b:eP):Nat->eP
 |0,_,_=> .bad
 |n+1,ρ,Z=>(c ρ Z).bind fun k Z1=>if k=Si then(b ρ Z1).bind fun a X=>match a with
  | .nx ρ2=>tI c b n ρ2 X
  | .ct ρ2=>tI c b n ρ2 X
  | .bk ρ2=> .ok (.nx ρ2) X
  | .rt x=> .ok (.rt x) X else .ok (.nx ρ) Z1
def wN (c:xi) (b:eP):eP:=tI c b 1000000
theorem uP (I:yL K E c fc) (J:mE K E tb b):mE K E (Gs c tb) (wN fc b):=by
 intro B S H U Z ρ D s F w;refine⟨fun m e H'=>∃Y X a,UD U Z H Y X H'/\Td B K H' Y X/\VJ (ow B Y X) K H' Y e a/\WS K E B H' Y X (xA B K D) (tI fc b m a X),⟨_,U,Z,ρ,.refl,s,F,w⟩,?_⟩;rintro m g N ⟨Y,X,a,R,G,i,y⟩;cases m with
 |zero=>exact y.elim
 |succ m=>
  refine I B g N Y X a _ G i (WS.imp (WS.bind y) fun k t Z3 H3 u A o=> ?_);cases k with
  |true=>
   rw[if_pos rfl] at o⊢;refine⟨fun e H'=>∃Y X a,UD U Z H Y X H'/\Td B K H' Y X/\VJ (ow B Y X) K H' Y e a/\WS K E B H' Y X (xA B K D) (tI fc b m a X),fun e H' q=>⟨m,Wg m,q⟩,?_⟩;refine J B g H3 t Z3 a _ A (i.Vh u) (WS.imp (WS.bind o) fun L j C H5 Q p n=> ?_);have l:=R.trans (u.trans Q);cases L with
   |nx f=>exact fun r h=>⟨j,C,f,l,p,h,n⟩
   |ct f=>exact fun r h=>⟨j,C,f,l,p,h,n⟩
   |bk f=>exact WS.now (E:=E) p n
   |rt x=>exact WS.now (E:=E) p n
  |false=>rw[if_neg SH] at o⊢;exact WS.now A o g (i.Vh u)
end
section
variable {B O O':cc} {K:Ld} {E:XK} {H H' S L:Hp} {U R X Y:List So} {Z Z' Z1 T:aV} {M:L2.St} {ρ:bf} {v:V}
def eA (gt:D8) (ft:xi) (fe:dH):List D->bf->aV->List SV->RS (List SV)
 |[],_,Z,acc=> .ok acc Z
 |d::r,ρ,Z,acc=>(gt (.fz d) ρ Z).bind fun a Z1=>(ft a Z1).bind fun b T=>if b=Si then(fe a T).bind fun x e=>(if acc.length<1000000 then eA gt ft fe r a e (acc++[x]) else .bad) else eA gt ft fe r a T acc
def oV (n:Nat) (a:List Nat) (ρ:bf):bf:=Sz n Sg++a.map fun j=>(ρ[j]?).join
def rU (n:Nat) (a:List Nat) (b:OJ) (gt:D8) (ft:xi) (fe:dH):dH:=fun ρ Z=>(b ρ Z).bind fun ds Z1=>(lL (eA gt ft fe ds (oV n a ρ) Z1 [])).bind fun xs T=> .ok (.rf T.length) (T++[.lst xs])
theorem Ii {own:List Str} {e:List (Str×Nat)} {n:Nat} {g:List Nat} (hn:own.length=n) (i:e.map (·.2)=g) (l:VJ O K H U M ρ):VJ O K H U (iR own e M) (oV n g ρ):=by
 unfold iR oV;rw[CY hn];have m:e.length=g.length:=by rw[<-i,Sj]
 refine⟨by rw[Su,Su,Tj,Tj,Sj,Sj,m],fun j x b=> ?_⟩;by_cases h:j<n
 .rw[SG (by rw[Tj];exact h),U2,if_pos h] at b;cases b
 .rw[Tb (by rw[Tj];omega),Tj,Sx] at b⊢
  subst i;rw[Sx] at b;cases q:e[j - n]? with
  |none=>rw[q] at b;cases b
  |some p=>
   rw[q] at b;have a:(ρ[p.2]?).join=lD x:=SM b;have f:ρ[p.2]? =lD (lD x):=by
    cases qq:ρ[p.2]? with
    |none=>rw[qq] at a;cases a
    |some o=>rw[qq] at a;exact congrArg lD a
   obtain⟨u,t,r⟩:=l.2 p.2 x f;exact⟨u,by show lD ((M[p.2]?).join)=_;rw[t];rfl,r⟩
theorem Fi {p:So} {c:Cell} (a:U.length=Z.length) (e:c≠ .dead):ow (cQ B p) U Z=ow B (U++[p]) (Z++[c]):=by
 funext b;refine propext ⟨fun z=> ?_,fun z=> ?_⟩
 .rcases z with(z|z)|⟨i,d,h1,h2,h3⟩
  .exact .inl z
  .exact .inr ⟨U.length,c,by rw[z];exact bc,by rw[a];exact bc,e⟩
  .exact .inr ⟨i,d,ia h1,ia h2,h3⟩
 .rcases z with z|z
  .exact .inl (.inl z)
  .rcases uX a z with z|z
   .exact .inr z
   .exact .inl (.inr z)
theorem Td.adopt {p:So} {vs:List V} {xs:List SV} (s:Td (cQ B p) K H U Z) (l:H p=lD (.lst vs)) (m:Vr (ow (cQ B p) U Z) K H U vs xs) (n:¬B p):Td B K H (U++[p]) (Z++[.lst xs]):=by
 have t:ow (cQ B p) U Z=ow B (U++[p]) (Z++[.lst xs]):=Fi s.len (by intro z;cases z);have b:∀(i:Nat) (a:So),U[i]? =lD a->(U++[p])[i]? =lD a:=fun i a h=>ia h;have g:∀i:Nat,U[i]?≠lD p:=s.ba p (.inr rfl);refine⟨by rw[Su,Su,s.len];rfl,fun i j a e f=> ?_,fun a h=>s.bn a (.inl h),fun a h i q=> ?_,fun i a h=> ?_,fun i a d e f=> ?_⟩
 .rcases cw e with g1|⟨e1,e2⟩<;>rcases cw f with g2|⟨e3,e4⟩
  .exact s.nd i j a g1 g2
  .rw[e4] at g1;exact absurd g1 (g i)
  .rw[e2] at g2;exact absurd g2 (g j)
  .omega
 .rcases cw q with q|⟨_,e2⟩
  .exact s.ba a (.inl h) i q
  .subst e2;exact n h
 .rcases cw h with h|⟨_,e2⟩
  .exact s.al i a h
  .rw[e2,l];simp
 .rw[<-t]
  rcases cw f with g2|⟨e1,e2⟩
  .rcases cw e with g1|⟨e1,_⟩
   .exact(s.ZL i a d g1 g2).ev .refl b fun o q=>q
   .have:=(Sl.mp g2).1;have:=s.len;omega
  .rcases cw e with g1|⟨_,e3⟩
   .have:=(Sl.mp g1).1;have:=s.len;omega
   .rw[e2,e3];exact⟨vs,l,Paired.WK m fun _ _ r=>r.ev .refl b⟩
theorem Td.hide {p:So} {o:HO} (s:Td B K H U Z) (j:H p=Sg):Td (cQ B p) K (bx H p o) U Z:=by have f:Uw H (bx H p o):=b4 j o;have g:=s.grow f;have ev:Ev (ow B U Z) H (ow (cQ B p) U Z) (bx H p o):=fun b u h n=>⟨f b u h,fun z=>z.elim (fun z=>z.elim (fun z=>n (.inl z)) fun z=>by rw[z,j] at h;cases h) fun z=>n (.inr z)⟩;refine⟨g.len,g.nd,fun a h=>h.elim (g.bn a) fun e=>by rw[e,aG];simp,fun a h i q=>h.elim (fun h=>g.ba a h i q) fun e=>by rw[e] at q;exact s.al i p q j,g.al,fun i a c m l=> ?_⟩;exact(s.ZL i a c m l).ev ev (fun _ _ h=>h) fun o q=>f _ _ q
theorem Td.aiQ {p:So} {o e:HO} (s:Td (cQ B p) K H U Z) (j:H p=lD o):Td (cQ B p) K (bx H p e) U Z:=by
 have ev:Ev (ow (cQ B p) U Z) H (ow (cQ B p) U Z) (bx H p e):=Ev.mut (.inl (.inr rfl)) e;have n:∀b,H b≠Sg->bx H p e b≠Sg:=fun b h=>by
  by_cases z:b=p
  .subst z;rw[aG];simp
  .rw[ay z];exact h
 refine⟨s.len,s.nd,fun a h=>n a (s.bn a h),s.ba,fun i a h=>n a (s.al i a h),fun i a c f g=>(s.ZL i a c f g).ev ev (fun _ _ h=>h) fun u q=> ?_⟩;have:a≠p:=fun z=>s.ba p (.inr rfl) i (by rw[<-z];exact f);rw[ay this];exact q
theorem UD.dd {p:So} {o:HO} (e:UD X Z1 S U Z H) (a:S p=Sg):UD X Z1 S U Z (bx H p o):=⟨e.pre,fun b u h n=>by rw[ay (bZ h a)];exact e.kp b u h n,e.lv⟩
theorem Td.ad5 {p:So} (s:Td (cQ B p) K H U Z):Td B K H U Z:=
 ⟨s.len,s.nd,fun a h=>s.bn a (.inl h),fun a h=>s.ba a (.inl h),s.al,fun i a c f e=>(s.ZL i a c f e).ev (fun b o h n=>⟨h,fun y=>n (y.elim (fun y=> .inl (.inl y)) .inr)⟩) (fun _ _ h=>h) fun _ h=>h⟩
theorem zj {own:List Str} {fv:List (Str×Nat)} {g:TG} {tc:TT} {te:TE} {gt:D8} {ft:xi} {fe:dH} {n:Nat} {fj:List Nat} {J:It} {Q:VK} {ds:List D} (hn:own.length=n) (hf:fv.map (·.2)=fj)
  (hg:OG K E g gt) (ht:yL K E tc ft) (he:cZ K E te fe) (s1:Td B K S X Z1) (sl1:VJ (ow B X Z1) K S X M ρ) (it:zP K J (ow B X Z1) S ds) (w1:WS K E B S X Z1 (PQ B K Q) ((eA gt ft fe ds (oV n fj ρ) Z1 []).bind fun xs T=> .ok (.rf T.length) (T++[.lst xs]))):
  ∀D,S D=Sg->HJ J D (iR own fv M) g tc te S fun H'=>Q (.ref D) H':=by
 intro p P;have slc:VJ (ow B X Z1) K S X (iR own fv M) (oV n fj ρ):=Ii hn hf sl1;generalize qr:eA gt ft fe ds (oV n fj ρ) Z1 []=rr at w1;by_cases w:rr= .bad
 .subst w;exact w1.elim
 .
  have hB:¬B p:=fun z=>s1.bn p z P;have evH:∀{Y:List So} {T:aV} {H':Hp},UD X Z1 S Y T H'->Ev (ow B X Z1) S (ow (cQ B p) Y T) H':=fun e b o h n=>⟨e.kp b o h fun z=>n (.inr z),fun z=>by
   rcases z with(z|z)|z
   .exact n (.inl z)
   .rw[z,P] at h;cases h
   .exact(e.lv b z).elim (fun q=>n (.inr q)) fun q=>by rw[h] at q;cases q⟩
  refine⟨fun i m σ' H'=>m=ds.length - i/\i<=ds.length/\∃Y T ρc acc ys,UD X Z1 S Y T H'/\Td (cQ B p) K H' Y T/\VJ (ow (cQ B p) Y T) K H' Y σ' ρc/\H' p=lD (.lst ys)/\Vr (ow (cQ B p) Y T) K H' Y ys acc/\eA gt ft fe (ds.drop i) ρc T acc=rr,
   ⟨_,rfl,Th _,X,Z1,oV n fj ρ,[],[],UD.same (b4 P _),s1.hide P,?_,aG,.nil,qr⟩,?_⟩
  .exact⟨slc.1,fun j x hx=>let⟨v,h1,h2⟩:=slc.2 j x hx;⟨v,h1,h2.ev (evH (UD.same (b4 P _))) fun _ _ h=>h⟩⟩
  .rintro i m σ2 L ⟨rfl,hi,Y,T,ρ2,acc,ys,e2,s2,sl2,hy,vy,f⟩
   obtain⟨go,stop⟩:=it (ow (cQ B p) Y T) L (evH e2) s2.noO;by_cases WT:i<ds.length
   .obtain⟨g1,g2⟩:=go i WT
    refine .inr ⟨g1,fun σ5 C=>i+1<=ds.length/\∃Y T ρc acc ys,UD X Z1 S Y T C/\Td (cQ B p) K C Y T/\VJ (ow (cQ B p) Y T) K C Y σ5 ρc/\C p=lD (.lst ys)/\Vr (ow (cQ B p) Y T) K C Y ys acc/\eA gt ft fe (ds.drop (i+1)) ρc T acc=rr,
     fun σ5 C ⟨h1,h2⟩=>⟨ds.length - (i+1),by omega,rfl,h1,h2⟩,fun x H3 y=> ?_⟩
    obtain⟨s3,d,hd,dv⟩:=g2 x H3 y;have ed:ds.drop i=d::ds.drop (i+1):=by obtain⟨_,q⟩:=Sl.mp hd;rw[Vv WT,q]
    rw[ed] at f;unfold eA at f;have e3:UD Y T L Y T H3:=UD.same s3;have kD:∀{αx αy:List So} {Zx Zy:aV} {Hx Hy:Hp} {o:HO},Td (cQ B p) K Hx αx Zx->UD αx Zx Hx αy Zy Hy->Hx p=lD o->Hy p=lD o:=fun sx ex h=>ex.kp _ _ h fun⟨i,c,q,_⟩=>sx.ba p (.inr rfl) i q;have t:∀{G:List So} {Z3:aV} {H3:Hp} {z:Xc} {A:aV},UD X Z1 S G Z3 H3->RS.er z A=rr->∀c dx R H',UD G Z3 H3 R A H'->Td (cQ B p) K H' R A->XOk K (ow (cQ B p) R A) H' c dx z->E c dx H':=fun{G Z3 H3 z A} e3 q c dx R H' e s' x'=>by subst q;exact w1 c dx R H' (e3.trans e) s'.ad5 (XOk.sub (fun b y=>y.elim (fun y=> .inl (.inl y)) .inr) x')
    refine hg (cQ B p) σ2 H3 Y T ρ2 x (.fz d) _ (s2.grow s3) (sl2.Vh e3) dv ?_;cases qg:gt (.fz d) ρ2 T with
    |er z A=>rw[qg] at f;exact t (e2.trans e3) f
    |bad=>rw[qg] at f;exact w f.symm
    |ok l Z4=>
     rw[qg] at f;intro α4 H4 e4 s4 σ4 sl4;refine ht (cQ B p) σ4 H4 α4 Z4 l _ s4 sl4 ?_;have f:((ft l Z4).bind fun b T=>if b=Si then(fe l T).bind fun x Z3=>(if acc.length<1000000 then eA gt ft fe (ds.drop (i+1)) l Z3 (acc++[x]) else .bad) else eA gt ft fe (ds.drop (i+1)) l T acc)=rr:=f;cases qt:ft l Z4 with
     |er z A=>rw[qt] at f;exact t (e2.trans (e3.trans e4)) f
     |bad=>rw[qt] at f;exact w f.symm
     |ok b Z5=>
      rw[qt] at f;intro α5 C e5 s5;have I:=sl4.Vh e5;have u:=e3.trans (e4.trans e5);cases b with
      |false=>have f:eA gt ft fe (ds.drop (i+1)) l Z5 acc=rr:=f;exact⟨WT,α5,Z5,l,acc,ys,e2.trans u,s5,I,kD s2 u hy,Vr.Vh u vy,f⟩
      |true=>
       have f:((fe l Z5).bind fun x Z3=>(if acc.length<1000000 then eA gt ft fe (ds.drop (i+1)) l Z3 (acc++[x]) else .bad))=rr:=f;rw[if_pos rfl];refine he (cQ B p) σ4 C α5 Z5 l _ s5 I ?_;cases qe:fe l Z5 with
       |er z A=>rw[qe] at f;exact t (e2.trans u) f
       |bad=>rw[qe] at f;exact w f.symm
       |ok x6 Z6=>
        rw[qe] at f;intro F H6 e6 s6 v6 hv6;have f:(if acc.length<1000000 then eA gt ft fe (ds.drop (i+1)) l Z6 (acc++[x6]) else .bad)=rr:=f;by_cases N:acc.length<1000000
        .rw[if_pos N] at f;have e36:=u.trans e6;have hy6:H6 p=lD (.lst ys):=kD s2 e36 hy;have vy6:=Vr.Vh e36 vy;have em:Ev (ow (cQ B p) F Z6) H6 (ow (cQ B p) F Z6) (bx H6 p (.lst (ys++[v6]))):=Ev.mut (.inl (.inr rfl)) _;have sl6:=I.Vh e6;refine⟨ys,hy6,uq (by rw[vy6.length];exact N),WT,F,Z6,l,acc++[x6],ys++[v6],(e2.trans e36).dd P,s6.aiQ hy6,⟨sl6.1,fun j x hx=>let⟨v,h1,h2⟩:=sl6.2 j x hx;⟨v,h1,h2.ev em fun _ _ h=>h⟩⟩,aG,wK (Paired.WK vy6 fun _ _ r=>r.ev em fun _ _ h=>h) (hv6.ev em fun _ _ h=>h),f⟩
        .rw[if_neg N] at f;exact absurd f.symm w
   .have e:i=ds.length:=by omega
    subst e;rw[UB (Sw _)] at f;have f:RS.ok acc T=rr:=f;subst f;refine .inl ⟨stop,?_⟩;refine w1 (Y++[p]) L ⟨fun i a h=>ia (e2.pre i a h),e2.kp,fun b z=>(uX s2.len z).elim (e2.lv b) fun z=> .inr (by rw[z];exact P)⟩ (s2.adopt hy vy hB) (.ref p) ⟨p,by rw[<-s2.len];exact bc,rfl⟩
theorem MV {A C:Type} {P:C->List So->aV->Hp->Prop} {r:RS A} {k:A->aV->C} {m:A->aV->aV} (w:WS K E B H U Z P ((lL r).bind fun a o=> .ok (k a o) (m a o))):WS K E0 B H U Z P (r.bind fun a o=> .ok (k a o) (m a o)):=by
 cases r with
 |ok a o=>exact w
 |er x o=>exact w.elim
 |bad=>exact w
theorem xE {own:List Str} {h:List (Str×Nat)} {a:TI} {g:TG} {e:TT} {b:TE} {j:OJ} {gt:D8} {ft:xi} {fe:dH} {n:Nat} {i:List Nat} (hn:own.length=n) (r:h.map (·.2)=i)
  (hi:QL K E a j) (q:OG K E0 g gt) (p:yL K E0 e ft) (t:cZ K E0 b fe):cZ K E (zd own h a g e b) (rU n i j gt ft fe):=by
 intro B M H U Z ρ Q s f w;refine hi B M H U Z ρ _ s f (WS.imp (WS.bind w) fun ds X Z1 S u m l J o=> ?_);exact zj hn r q p t m (f.Vh u) o (MV l)
def cU (N:Nat) (g:eP):iA:=fun xs Z=>(g (xs.map lD++Sz (N - xs.length) Sg) Z).bind fun a Z1=>match a with
 | .rt x=> .ok x Z1
 | .nx _=> .ok (.fz .none) Z1
 |_=> .bad
theorem Gx {N:List Str} {vs:List V} {xs:List SV} (h:Vr O K H U vs xs):VJ O K H U (L2.start N vs) (xs.map lD++Sz (N.length - xs.length) Sg):=by
 have b:vs.length=xs.length:=Paired.length h;unfold L2.start;refine⟨by rw[Su,Su,Sj,Sj,Tj,Tj,b],fun i x a=> ?_⟩;by_cases hi:i<xs.length
 .rw[SG (by rw[Sj];exact hi),Sx] at a
  cases q:xs[i]? with
  |none=>rw[q] at a;cases a
  |some d=>rw[q] at a;cases a;obtain⟨v,e,f⟩:=AW h q;refine⟨v,?_,f⟩;rw[SG (by rw[Sj,b];exact hi),Sx,e];rfl
 .rw[Tb (by rw[Sj];omega),U2] at a;split at a<;>cases a
theorem zq {N:List Str} {vs:List V} {xs:List SV} {g:eP} {t:TS} {Q:VK} {n:Nat} (f:mE K E t g) (h:db K n (cU N.length g) vs H Q E):t {nx:=fun _ H'=>Q .UT H',rt:=Q} (L2.start N vs) H:=by
 obtain⟨l,B,U,Z,xs,s,e,w⟩:=h;refine f B _ H U Z _ _ s (Gx e) (WS.imp (WS.bind w) fun i X Z1 S m b a=> ?_);cases i with
 |rt x=>exact WS.now (E:=E) b a
 |nx ρ=>exact fun M j=>WS.now (E:=E) b a .UT .UT
 |bk ρ=>exact a.elim
 |ct ρ=>exact a.elim
end
theorem RU {P:S0} {w:Tn} {K:Ld} {mg:Str->Option Sh} {base:Heap} {x a:Str} {st:UL} {f:So} {fd:TL} {N ps:List Str} {k n m:Nat} {g:eP} {e:iA} (F:VT K x a st f fd) (S:Vc N ps (az st)) (hn:ps.length=n) (hm:N.length=m) (o:e=cU m g)
  (p:∀(b:Sh) (A:Tc) (outer:List Env) (s:Sr) (H:Hp) (E:XK),UP k (A.deeper (S3 a (az st) s.heap.objs.size f b))->
   ∃t,YM (gb dG P w K mg base N a (az st) f b A outer s H E).nox (cg st) t/\mE K E t g):FnOk P w K mg base dG (k+1) f fd ps (db K n e):=by
 subst o hm;refine F.ok S (fun vs H Q E h=>h.1.trans hn.symm) (fun b A outer s H vs Q E l h=> ?_);obtain⟨t,i,j⟩:=p b A outer s H E l;exact⟨t,i,zq (xs:=[]) j h⟩
theorem Q5 {P:S0} {w:Tn} {K:Ld} {mg:Str->Option Sh} {base:Heap} {x a:Str} {st:UL} {f:So} {fd:TL} {N ps:List Str} {k n m:Nat} {g:eP} {j:iA} (F:VT K x a st f fd) (S:Vc N ps (az st)) (hn:ps.length=n) (hm:N.length=m) (u:j=cU m g)
  (y:∀(b:Sh) (A:Tc) (outer:List Env) (s:Sr) (H:Hp) (E:XK),UP k (A.deeper (S3 a (az st) s.heap.objs.size f b))->
   ∃t,YM (gb (L4.jw P w) P w K mg base N a (az st) f b A outer s H E) (cg st) t/\mE K E t g):FnOk P w K mg base (L4.jw P w) (k+1) f fd ps (db K n j):=by
 subst u hm;obtain⟨G,C,kV,v,B,I,b,ct,l,rfl,o,i⟩:=F.ex;refine FV o i S (fun vs H Q E h=>h.1.trans hn.symm) fun A outer s H vs Q E r e=> ?_;obtain⟨t,p,q⟩:=y b A outer s H E r;exact⟨t,p,zq (xs:=[]) q e⟩
abbrev NB (P:S0) (w:Tn) (K:Ld) (mg:Str->Option Sh) (base:Heap) (k:Nat) (x:Str) (ps:List Str) (n:Nat) (F:iA):Prop:=xX P w K mg base k x ps (db K n F)
end L10
namespace PySem.W
open PySem PySem.Calls PyProof.Rows PyProof.V PySem.Spec
section
variable {prog:S0} {w:Tn} {A:Tc} {E:Sh->Sr->Prop} {s:Sr} {T:String} {r d:So} {n:Nat} {P:Nat->Sh->Prop} {OK:Heap->Prop}
theorem collect_kdl (K:KdlSrc prog w T r d n P OK) (l:A.handled=Sg) (T9:OK s.heap) (hn:n<=SD)
  (p:∀h' tk acc,(∀b o,s.heap.get? b=lD o->h'.get? b=lD o)->XX P acc n->Q acc.toList {s with heap:=h',toks:=tk}):wpAny (model prog w) A (collect (.ref r)) Q E s:=by
 have h:=K.there _ T9;unfold collect;refine Sf (wpAny_runValue (VW F.entry_proto_collect ?_));rw[Tc.under_plainId F.plain_proto_collect _];refine Sf (T5 ?_);refine Ss ⟨Vp F.plain_list_iadd _,VW F.entry_list_iadd ?_⟩;rw[Tc.under_plainId F.plain_list_iadd _];have m:(s.heap.push {cls:= .type "list",data:= .seq ([]:List Sh).toArray}).get? s.heap.objs.size=lD {cls:= .type "list",data:= .seq ([]:List Sh).toArray}:=Heap.get?_push_size _ rfl;refine kdl_extend (R:=wants (fun v i=>wpAny (model prog w) A (match v with| .ref a=>(load a>>=fun o=>match o.data with| .seq xs _=>pure xs.toList|_=>unsupported "internal:collect")|_=>unsupported "internal:collect") Q E i) E) (s:={s with heap:=s.heap.push {cls:= .type "list",data:= .seq ([]:List Sh).toArray}}) K l (K.keep _ _ T9 fun b _ o e=>Heap.get?_push_of_some _ e) _ (TY h.1) (TY h.2) _ 0 m (fun h' tk q t j f g=> ?_) hn;refine Sf (adJ f ?_);exact Ss (p h' tk q (fun b o e=>j b o (S1 (Heap.lt_size e)) (Heap.get?_push_of_some _ e)) g)
end
end PySem.W
namespace PyProof.Rows
open PySem
section
variable {prog:S0} {w:Tn} {A:Tc} {E:Sh->Sr->Prop} {s:Sr} {T:String} {r d:So} {n:Nat} {P:Nat->Sh->Prop} {OK:Heap->Prop}
theorem Av (K:PySem.W.KdlSrc prog w T r d n P OK) (p:A.handled=Sg) (T9:OK s.heap) (l:n<64) (t:∀acc:Array Sh,XX P acc n->IntsAre acc.toList ns)
  (h:∀(a h':Heap) (g:Nat) (out:Array Sh) (e:Nat) (f:List Int),(∀b o,s.heap.get? b=lD o->a.get? b=lD o)->h'.get? a.objs.size=lD (seqObj "list" out e)->(∀b o,a.get? b=lD o->h'.get? b=lD o)->IntsAre out.toList f->f.Perm ns->f.Pairwise (·<=·)->Q (.ref a.objs.size) {s with heap:=h',toks:=g}):
  wpAny (model prog w) A (call (.builtin "sorted") [.ref r]) Q E s:=by
 refine Calls.call_function_entry kind_sorted plain_sorted entry_sorted (args_sorted1 _) (Sf (Ss (Sf (PySem.W.collect_kdl K p T9 (by rw[Vd];omega) (fun a g acc m hi=>Sf (aji ?_ (hsz:=by rw[TH,hi.1,Vd];omega)))))));have i:(a.push (seqObj "list" acc.toList.toArray 0)).get? a.objs.size=lD (seqObj "list" acc.toList.toArray 0):=Heap.get?_push_size _ rfl;have j:=t acc hi;refine Sf (Uo (UI slot_list_sort ⟨_,i,rfl⟩ entry_list_sort (list_sort_tree i j (by rw[TH,hi.1];exact l) fun out f y v u=>⟨_,rfl,Ss ⟨_,rfl,?_⟩⟩) (args_list_sort _)));obtain⟨e,q⟩:=sN i;exact h a _ g out e f m q (fun b B z=>pk (S1 (Heap.lt_size z)) (Heap.get?_push_of_some _ z)) y v u
end
end PyProof.Rows
namespace L10
open PySem PySem.Spec PyProof.Rows L2 L3
def QA (p d:So):HO:= .ext fun h=>h.IsValuesView p d
theorem PM (x:h.IsValuesView p d):ObjOk P w H h p (QA p d):=⟨x,let⟨o,a,_⟩:=x;⟨o,a⟩,fun f e ⟨o,a,b⟩ k=>⟨o,k o a,b⟩⟩
def Lh:V->List V->Hp->VK->Prop:=fun x vs H Q=>∃a S4,x= .ref a/\vs=[]/\H a=lD (.dK S4)/\∀p,H p=Sg->Q (.ref p) (bx H p (QA p a))
theorem ud:QJ X "dict.values" Lh:=by intro g s m H x xs v n Q I i f h;obtain⟨a,S4,rfl,rfl,e,q⟩:=h;cases i;cases f;obtain⟨z,l,vs,j,dd⟩:=xu I.T9 e;refine call_meetsIn WI dd.typeIs PySem.F.entry_dict_values (PySem.F.args_dict_values_1 _) (meets_dict_values (cP X.prog X.w) a l) ⟨⟨vs,dd⟩,?_⟩;refine⟨.ref s.heap.objs.size,_,I.laid (fun b o e=>Heap.get?_push_of_some _ e) (Sw _) (PM ⟨_,Heap.get?_push_size _ rfl,rfl,rfl⟩),rfl,q _ (I.T9.fresh (Sw _))⟩
def FX:List V->Hp->VK->Prop:=fun xs H Q=>∃p a S4,xs=[.ref p]/\H p=lD (QA p a)/\H a=lD (.dK S4)/\∀l,H l=Sg->Q (.ref l) (bx H l (.lst (S4.map (·.2))))
theorem Cs:∀{S4:List (κ×V)} {vs:List (κ×Sh)},KV S4 vs->Vals (S4.map (·.2)) (vs.map (·.2))
 |_,_,.nil=> .nil
 |_,_,.cons h t=> .cons h.2 (Cs t)
theorem su (n:X.calm=Si):VR X (.type "list") FX:=by intro g s C H xs E Q I r h;obtain⟨p,a,S4,rfl,w,e,q⟩:=h;obtain⟨u,rfl,l⟩:=lU r;cases l;obtain⟨z,G,vs,b,dd⟩:=xu I.T9 e;obtain⟨K,B⟩:=dd.dictAt;obtain⟨i,_,_⟩:=I.T9 p _ w;refine PySem.W.kdl_call (PySem.W.kdl_values) (I.ok.hd n) ⟨i,B⟩ (by rw[<-b.length];exact z) fun J F f c m t hi=> ?_;have A:=PySem.W.kdl_vals_eq f.toList (by rw[TH];exact hi.1) fun j v y=>hi.2 j v (by rw[<-V7];exact y);refine⟨.ref s.heap.objs.size,_,I.laid (o:= .lst (S4.map (·.2))) m (Sw _) ⟨by rw[Sj];exact z,f.toList,c,by rw[A];exact Cs b,by rw[aaQ];exact t⟩,rfl,q _ (I.T9.fresh (Sw _))⟩
def Ey:List V->Hp->VK->Prop:=fun xs H Q=>∃(p:So) (S4:List (cJ×V)) (a:List Int),xs=[.ref p]/\H p=lD (.dK S4)/\S4.map (·.1)=a.map Sum.inl/\a.length<64/\∀(l:So) (b:List Int),H l=Sg->b.Perm a->b.Pairwise (·<=·)->Q (.ref l) (bx H l (.lst (b.map V.int)))
theorem se:∀{vs:List (cJ×Sh)} {a:List Int} {us:List Sh},vs.map (·.1)=a.map Sum.inl->us.length=vs.length->(∀(j:Nat) (u:Sh),us[j]? =lD u->∃k x,vs[j]? =lD (k,x)/\(cP prog w).is k u=Si)->IntsAre us a
 |[],[],[],_,_,_=> .nil
 |[],[],_::_,_,h,_=>by simp at h
 |[],_::_,_,h,_,_=>by simp at h
 |_::_,[],_,h,_,_=>by simp at h
 |_::_,_::_,[],_,h,_=>by simp at h
 |(k,y)::vs,n::a,u::us,h1,h2,h3=>by rw[SN,SN,akB] at h1;obtain⟨i,x,e,f⟩:=h3 0 u rfl;cases e;have g:=h1.1;subst g;obtain⟨t,rfl⟩:=Sh.isInt_shape (show Sh.isInt n u=Si from f);exact .cons _ _ (se h1.2 (by simpa using h2) fun j b e=>h3 (j+1) b (by simpa using e))
theorem rJ (E:X.calm=Si):VR X (.builtin "sorted") Ey:=by
 intro i s O H xs P Q I r h;obtain⟨p,S4,l,rfl,e,J,F,q⟩:=h;obtain⟨u,rfl,t⟩:=lU r;cases t;obtain⟨z,C,vs,b,dd⟩:=xu I.T9 e;obtain⟨U,M⟩:=dd.dictAt;have m:vs.map (·.1)=l.map Sum.inl:=by rw[<-b.keys];exact J
 have S:vs.length=l.length:=by have:=congrArg WW m;simpa using this
 refine Av (PySem.W.kdl_dict C) (I.ok.hd E) M (by omega) (fun N hi=>se m (by rw[TH];exact hi.1) fun j v K=>hi.2 j v (by rw[<-V7];exact K)) fun G T R f L w A B g hi n y=> ?_;have a:=n.length_eq;have o:=I.kept (t':=s.toks) A;refine⟨.ref G.objs.size,_,o.laid g (Sw _) ?_,rfl,q _ w (o.T9.fresh (Sw _)) n y⟩;refine⟨?_,f.toList,L,jq hi,B⟩;rw[Sj,a];have:(64:Nat)<=SD:=by decide
 omega
end L10
namespace PySem
open Sem (wp)
namespace F
theorem lk_tuple_keys:typeLookup (.type "tuple") "keys"=pure Sg:=by rw[Yj,Wm];kernel_rfl
theorem lk_tuple_hook:typeLookup (.type "tuple") "__getattr__"=pure Sg:=by rw[Yj,Wm];kernel_rfl
theorem sub_ae:isSubtype (.type "AttributeError") (.type "AttributeError")=pure Si:=by rw[ahr];kernel_rfl
end F
section
variable {prog:S0} {w:Tn} {A:Tc} {E:Sh->Sr->Prop} {h:Heap} {g:Array XS} {d:abJ} {t:Nat} {os:aaB} {a:So} {o:Obj}
theorem Ak {α:Type} {name f:Str} {Q:α->Sr->Prop} {E:Sh->Sr->Prop} (hm:f.length<=SD) (l:A.handled=Sg) (i:∀e h' t',(∀b o,h.get? b=lD o->h'.get? b=lD o)->(⟨h',g,d,t',os⟩:Sr).TypeIs e "AttributeError"->E e ⟨h',g,d,t',os⟩):
  wpAny (model prog w) A (raiseAttrError (.ref a) name f:Sem α) Q E ⟨h,g,d,t,os⟩:=by
 have j:¬f.length>SD:=Nat.not_lt.mpr hm;unfold raiseAttrError newExc newTuple
 repeat (any_goals (first|assumption|wp_step))
 refine aab (a:=Si) F.sub_ae ?_
 repeat (any_goals (first|assumption|wp_step))
 refine adn l (i _ _ _ (fun b o e=> ?_) ?_)
 .exact(Heap.get?_update_other _ _ (Ne.symm (S1 (Heap.lt_size (Heap.get?_push_of_some _ e))))).trans (Heap.get?_push_of_some _ (Heap.get?_push_of_some _ e))
 .exact⟨_,Heap.get?_update_self _ (Heap.get?_push_size _ rfl) rfl,rfl⟩
theorem nU {f:Tok} {Q:Fin->Sr->Prop} {E:Sh->Sr->Prop} {p:Array Sh} {n:Nat} {i:Array (Option Sh)} (j:h.get? a=lD ⟨.type "tuple",Sg,.seq p n,i⟩) (m:A.handled=Sg) (l:∀e h' t',(∀b o,h.get? b=lD o->h'.get? b=lD o)->(⟨h',g,d,t',os⟩:Sr).TypeIs e "AttributeError"->E e ⟨h',g,d,t',os⟩):
  wpAny (model prog w) A (Builtin.«object.__getattribute__» ⟨[.ref a,.str "keys" f],[]⟩) Q E ⟨h,g,d,t,os⟩:=by
 have q:(⟨h,g,d,t,os⟩:Sr).TypeIs (.ref a) "tuple":=⟨_,j,rfl⟩;have r:=F.lk_tuple_keys
 repeat (any_goals (first|assumption|wp_step))
 exact Ak (by left) m l
theorem tM {f:Tok} {Q:Sh->Sr->Prop} {E:Sh->Sr->Prop} {u:Array Sh} {n:Nat} {l:Array (Option Sh)} (i:h.get? a=lD ⟨.type "tuple",Sg,.seq u n,l⟩) (q:A.handled=Sg) (m:∀e h' t',(∀b o,h.get? b=lD o->h'.get? b=lD o)->(⟨h',g,d,t',os⟩:Sr).TypeIs e "AttributeError"->E e ⟨h',g,d,t',os⟩):
  wpAny (model prog w) A (getAttrBy (.ref a) (.str "keys" f) Sq) Q E ⟨h,g,d,t,os⟩:=by
 have r:(⟨h,g,d,t,os⟩:Sr).TypeIs (.ref a) "tuple":=⟨_,i,rfl⟩;have B:=F.slot_tuple_getattribute.lookup;have y:=F.slot_tuple_getattribute.bind (.ref a);have v:=F.lk_tuple_hook
 repeat (any_goals (first|assumption|wp_step))
 refine VF F.slot_tuple_getattribute.plain F.entry_tuple_ga (F.slot_tuple_getattribute.check _ _ _ _ _ _ _ _ r (F.args_tuple_getattribute_2 _ _) (nU i q fun e h' t' p j=> ?_));have fs:=F.sub_ae;show wpAny (model prog w) A (getattributeRaised (Sh.ref a) (Sh.str (Str.ofString "keys") f) (Sh.type "tuple") e Sg Sq Sq) Q E _;unfold getattributeRaised;refine Sf (XW j fs ?_)
 repeat (any_goals (first|assumption|wp_step))
 exact m e h' t' p j
theorem pJ (f:h.get? a=lD ⟨.type "tuple",Sg,.seq Tt n,sl⟩) (l:A.handled=Sg) (i:∀h' t',(∀b o,h.get? b=lD o->h'.get? b=lD o)->Q Sg ⟨h',g,d,t',os⟩):
  wpAny (model prog w) A (getAttr? (.ref a) "keys") Q E ⟨h,g,d,t,os⟩:=by
 unfold getAttr? getAttrBy?;have fs:=F.sub_ae;refine Sf ?_
 repeat (any_goals (first|assumption|(specialize tM f l fun e h' t' j m=> ?_)|wp_step))
 exact i h' t' j
namespace F
theorem entry_upd_loop:entryFor table "dict.update.loop"=lD Builtin.«dict.update.loop»:=entryFor_of_tree (by kernel_rfl)
theorem plain_upd_loop:plainId "dict.update.loop"=Si:=by left
end F
end
section
variable {prog:S0} {w:Tn} {A:Tc} {E:Sh->Sr->Prop} {s:Sr} {K:Type} [DecidableEq K] {knd:KeyKind prog w K} {I dd Z:So} {items:Array Sh} {ks:List (K×Sh)} {R:YD->Sr->Prop}
theorem zy (S4:List (K×Sh)) (k:K) (v:Sh):(stored S4 k v).length<=S4.length+1:=by
 unfold stored;split
 .rw[Sj];omega
 .rw[Su];exact Sw _
theorem oQ:∀(a S4:List (K×Sh)),(merged S4 a).length<=S4.length+a.length
 |[],S4=>Sw _
 |p::r,S4=>by have e:=oQ r (stored S4 p.1 p.2);have b:=zy S4 p.1 p.2;show(merged (stored S4 p.1 p.2) r).length<=_;rw[SJ];omega
theorem zr (a:List (K×Sh)):(merged [] a).length<=a.length:=by have:=oQ a [];simpa using this
theorem Ga {P:Heap} (hh:A.handled=Sg) (XZ:Z≠I) (O:I≠dd) (N:Z≠dd) (hp:∀(i:Nat) (v:Sh),items[i]? =lD v->∃q key k x,v= .ref q/\q≠dd/\q≠I/\ks[i]? =lD (k,x)/\knd.is k key=Si/\P.IsTuple q #[key,x]) (hs:ks.length=items.size) (hz:items.size<=SD)
  (hR:∀h' l,h'.DictOf knd dd (merged [] ks)->(∀b o,b≠dd->b≠I->P.get? b=lD o->h'.get? b=lD o)->R (.ok (.ret .none)) {s with heap:=h',toks:=l}):
  ∀(m i:Nat) (h:Heap) (l:Nat),items.size - i=m->i<=items.size->h.IsTupleIter I Z i->h.IsTuple Z items->h.DictOf knd dd (merged [] (ks.take i))->(∀b o,b≠dd->b≠I->P.get? b=lD o->h.get? b=lD o)->
   codeAny (model prog w) A (.builtin "dict.update.loop" ⟨[.ref dd,.ref I,rawInt i,.none],[]⟩) R {s with heap:=h,toks:=l}:=by
 have W:=Walks.tuple (prog:=prog) (w:=w) (A:=A.in1) hh I Z XZ items;intro m
 induction m with
 |zero=>
  intro i h l hm hi B u t r;have e:i=items.size:=by omega
  subst e;refine VW F.entry_upd_loop ?_;rw[Tc.under_plainId F.plain_upd_loop _];refine Sf (W.done _ _ _ ⟨B,u⟩ fun h' f g=> ?_);rw[Xp (by omega)] at t;refine Sf (Ss (Ss ?_));refine hR h' f (t.at fun o e=>g dd o (by simp;exact fun z=>O z.symm) e) fun b o j a e=>g b o (by simp;exact a) (r b o j a e)
 |succ m ih=>
  intro i h l hm hi B u t r;have U:i<items.size:=by omega
  refine VW F.entry_upd_loop ?_;rw[Tc.under_plainId F.plain_upd_loop _];refine Sf (W.item i _ _ _ U ⟨B,u⟩ fun v h' f hv T g=> ?_);obtain⟨q,key,k,x,rfl,G,n,J,H,ht⟩:=hp i v hv;have C:=ht.at fun o e=>g q o (by simp;exact n) (r q o G n e);have S:=t.at fun o e=>g dd o (by simp;exact fun z=>O z.symm) e;have y:=fun b o j a e=>g b o (by simp;exact a) (r b o j a e);obtain⟨oq,p,M,nq,L⟩:=C;obtain⟨cq,dq,dtq,X⟩:=oq;cases M;cases L;have hT:({s with heap:=h',toks:=f}:Sr).TypeIs (.ref q) "tuple":=⟨_,p,rfl⟩;refine Sf (Uo (Sf ?_));refine YG ?_;unfold Builtin.Dict.pairItems;refine Sf (Wh hT ?_);rw[if_pos (by decide)];refine Sf ?_;unfold seqItems?;refine Sf (adJ p (Ss (Ss ?_)));refine Uo (wpAny_dictSet_pairs H S (fun a d2 Y=> ?_) ?_)
  .refine Ss ⟨Vp F.plain_upd_loop _,?_⟩;have Q:∀b o,b≠dd->h'.get? b=lD o->a.get? b=lD o:=fun b o hb e=>(Y.2 b hb).trans e;refine ih (i+1) a (f+1) (by omega) U (T.1.at fun o e=>Q I o O e) (T.2.at fun o e=>Q Z o N e) ?_ fun b o j a e=>Q b o j (y b o j a e);rw[merged_take_succ [] ks i (k,x) J];exact d2
  .have:(merged [] (ks.take i)).length<=(ks.take i).length:=zr _;rw[TQ] at this;omega
end
end PySem
namespace PySem
open Sem (wp)
open PyProof.Rows
section
variable {prog:S0} {w:Tn} {A:Tc} {E:Sh->Sr->Prop} {s:Sr} {K:Type} [DecidableEq K] {knd:KeyKind prog w K} {Z:So} {items:Array Sh} {ks:List (K×Sh)} {R:YD->Sr->Prop}
theorem pK (C:A.handled=Sg) (B:s.heap.get? Z=lD ⟨.type "tuple",Sg,.seq items n,sl⟩) (I:ks.length=items.size) (hz:items.size<=SD)
  (J:∀(i:Nat) (v:Sh),items[i]? =lD v->∃q key k x,v= .ref q/\ks[i]? =lD (k,x)/\knd.is k key=Si/\s.heap.IsTuple q #[key,x])
  (h:∀h' tk,h'.DictOf knd s.heap.objs.size (merged [] ks)->(∀b o,s.heap.get? b=lD o->h'.get? b=lD o)->Q (.ref s.heap.objs.size) {s with heap:=h',toks:=tk}):
  wpAny (model prog w) A (call (.type "dict") [.ref Z]) Q E s:=by
 refine ahs (Q₁:=fun obj f=>obj= .ref s.heap.objs.size/\f={s with heap:=s.heap.push {cls:= .type "dict",data:= .dict #[]}}) F.kt_called_dict (F.kt_typeCall_dict_1 _) F.entry_dict_init (kt_code_dict_new _ ⟨rfl,rfl⟩) ?_;rintro obj f ⟨rfl,rfl⟩;have a:(s.heap.push {cls:= .type "dict",data:= .dict #[]}).DictOf knd s.heap.objs.size []:=Heap.DictOf.new s.heap;have g:(s.heap.push {cls:= .type "dict",data:= .dict #[]}).get? Z=lD ⟨.type "tuple",Sg,.seq items n,sl⟩:=Heap.get?_push_of_some _ B;have L:({s with heap:=s.heap.push {cls:= .type "dict",data:= .dict #[]}}:Sr).TypeIs (.ref Z) "tuple":=⟨_,g,rfl⟩;refine⟨a.typeIs,F.args_dict_init_2 _ _,?_⟩;unfold Builtin.«dict.__init__»;refine Sf ?_;unfold Builtin.Dict.selfAndRest;refine Sf (wpAny_notOrdered_dict a.typeIs ?_);refine Ss ?_;show wpAny _ _ (Builtin.Dict.updateFrom "dict.__init__" s.heap.objs.size (.ref Z) [] .none) _ _ _;unfold Builtin.Dict.updateFrom;refine Sf (Wh L ?_);rw[if_pos (by decide)];refine Sf (pJ g C fun h' G m=> ?_);rw[if_pos (show(Sg:Option Sh).isNone=Si from rfl)];refine Sf (X6 ?_);have l:=m _ _ g;have t:h'.IsTuple Z items:=⟨_,l,rfl,n,rfl⟩;refine Sf (Yo t ?_);refine Ss ⟨Vp F.plain_upd_loop _,?_⟩;have OU:s.heap.objs.size<h'.objs.size:=by obtain⟨o,_,_,p,_⟩:=a;exact Heap.lt_size (m _ _ p)
 have j:=Heap.lt_size B;refine Ga (A:=A.in1) (knd:=knd) C (S1 (V3 j OU)) (TY OU) (S1 j) (fun i v e=> ?_) I hz (fun u r O H=> ?_) items.size 0 _ G (by omega) (Th _) ⟨_,Heap.get?_push_size _ rfl,rfl,rfl⟩ ⟨_,Heap.get?_push_of_some _ l,rfl,n,rfl⟩ ?_ fun b o _ _ e=>e
 .obtain⟨q,key,k,x,rfl,N,u,o,p,M⟩:=J i v e;have y:=Heap.lt_size p;exact⟨q,key,k,x,rfl,S1 y,S1 (V3 y OU),N,u,o,Heap.get?_push_of_some _ (m _ _ (Heap.get?_push_of_some _ p)),M⟩
 .refine⟨rfl,h u r O fun b o e=> ?_⟩;have lb:=Heap.lt_size e;exact H b o (S1 lb) (S1 (V3 lb OU)) (Heap.get?_push_of_some _ (m _ _ (Heap.get?_push_of_some _ e)))
 .have:=a.at (h':=h'.push {cls:= .type "tuple_iterator",data:= .fields #[.ref Z,.int 0 0]}) fun o e=>Heap.get?_push_of_some _ (m _ _ e);exact this
end
end PySem
namespace L10
open PySem PySem.Spec PyProof.Rows L2 L3
inductive ZM (K:Ld) (H:Hp):List V->List (cJ×V)->Prop
 |nil:ZM K H [] []
 |cons {q:So} {k:cJ} {v:V} {vs:List V} {S4:List (cJ×V)}:WZ K H q [kV k,v]->ZM K H vs S4->ZM K H (.ref q::vs) ((k,v)::S4)
def HN (K:Ld):List V->Hp->VK->Prop:=fun xs H Q=>∃p ys S4,xs=[.ref p]/\WZ K H p ys/\ZM K H ys S4/\∀d,H d=Sg->Q (.ref d) (bx H d (.dK (nX [] S4)))
theorem Eb (I:Inv X pins σ H s):∀{ys:List V} {S4:List (cJ×V)} {us:List Sh},ZM X.K H ys S4->Vals ys us->∃ks:List (cJ×Sh),KV S4 ks/\ks.length=us.length/\∀(i:Nat) (v:Sh),us[i]? =lD v->∃q key k x,v= .ref q/\ks[i]? =lD (k,x)/\(cP X.prog X.w).is k key=Si/\s.heap.IsTuple q #[key,x]
 |_,_,_,.nil,.nil=>⟨[],.nil,rfl,fun i v e=>by simp at e⟩
 |_,_,_,.cons (q:=q) (k:=k) (v:=v) h t,.cons r rs=>by
  obtain⟨ks,o,n,m⟩:=Eb I t rs;obtain⟨p,rv,pl,_⟩:=I.tuple h;cases r;obtain⟨g,f,rfl,l,j⟩:∃g f,p=[g,f]/\RelV (kV k) g/\RelV v f:=by
   cases rv with
   |cons a b=>cases b with
    |cons b c=>cases c;exact⟨_,_,rfl,a,b⟩
  refine⟨(k,f)::ks,.cons ⟨rfl,j⟩ o,by rw[SJ,SJ,n],fun i u e=> ?_⟩;cases i with
  |zero=>cases e;exact⟨q,g,k,f,rfl,rfl,uQ l,pl⟩
  |succ i=>exact m i u (by simpa using e)
theorem Af (L:X.calm=Si):VR X (.type "dict") (HN X.K):=by
 intro f s M H xs O Q I r h;obtain⟨p,N,S4,rfl,A,B,q⟩:=h;obtain⟨u,rfl,j⟩:=lU r;cases j;obtain⟨Y,rv,⟨o,C,⟨b,n,J⟩,a⟩,y⟩:=I.ad4 A;obtain⟨T,g,w,t⟩:=Eb I B rv;obtain⟨S,R,m,l⟩:=o;cases b;cases J;cases a;have E:=rv.length;have F:=g.length;refine pK (I.ok.hd L) C (by rw[SE];exact w) (by rw[SE,<-E];exact y) (fun i v e=>t i v (by simpa using e)) fun U P dd G=> ?_;refine⟨.ref s.heap.objs.size,_,I.laid G (Sw _) ?_,rfl,q _ (I.T9.fresh (Sw _))⟩;refine zm ?_ ?_ (KV.merge g .nil) dd
 .have:=lP S4 [];rw[UM] at this;omega
 .exact beq_eq_false_iff_ne.mpr (TY I.big)
end L10
namespace L10
open PySem PyProof.Rows L2 L3
theorem OE:T1 "dict"=lD (.type "dict"):=by left
section
variable {B O O':cc} {K:Ld} {E:XK} {H H' R P:Hp} {Y α' U T:List So} {Z Z' Z1 X:aV} {S:L2.St} {ρ:bf} {v:V}
def tG:SV->Option cJ
 | .fz (.int i)=>lD (.inl i)
 | .fz (.str x)=>lD (.inr x)
 |_=>Sg
theorem qp (e:tG x=lD k) (h:VU O K H Y v x):v=kV k:=by
 unfold tG at e;split at e
 .cases e;cases h;rfl
 .cases e;cases h;rfl
 .cases e
abbrev w6 (O:cc) (K:Ld) (H:Hp) (Y:List So):List (cJ×V)->List (cJ×SV)->Prop:=Paired (fun(p:cJ×V) (q:cJ×SV)=>p.1=q.1/\VU O K H Y p.2 q.2)
def im (Z:aV):SV->Option (Nat×List (cJ×SV))
 | .rf i=>match Z[i]? with
  |some (.Yw S4)=>lD (i,S4)
  |_=>Sg
 |_=>Sg
theorem lV (s:Td B K H Y Z) (b:VU (ow B Y Z) K H Y v x) (h:im Z x=lD (i,S4)):Z[i]? =lD (.Yw S4)/\∃a ws,Y[i]? =lD a/\v= .ref a/\H a=lD (.dK ws)/\w6 (ow B Y Z) K H Y ws S4:=by
 cases x with
 |fz d=>cases h
 |tp l=>cases h
 |rf j=>
  obtain⟨a,ha,rfl⟩:=b;unfold im at h;dsimp only at h;cases q:Z[j]? with
  |none=>rw[q] at h;cases h
  |some c=>
   rw[q] at h;cases c with
   |Yw m=>have e:=SM h;cases e;obtain⟨ws,g,f⟩:=s.ZL i a _ ha q;exact⟨q,a,ws,ha,rfl,g,f⟩
   |_=>cases h
def jI (S4:List (cJ×SV)) (k:cJ):Option SV:=(S4.find? fun a=>decide (a.1=k)).map (·.2)
def jZ (S4:List (cJ×SV)) (k:cJ) (x:SV):List (cJ×SV):=
 if(S4.any fun a=>decide (a.1=k))=Si then S4.map (fun a=>if a.1=k then(a.1,x) else a) else S4++[(k,x)]
def mr (S4:List (cJ×SV)) (k:cJ):List (cJ×SV):=S4.filter fun a=>decide (a.1≠k)
theorem qL:∀{ws:List (cJ×V)} {S4:List (cJ×SV)},w6 O K H Y ws S4->(∀x,jI S4 k=lD x->∃v,j9 ws k=lD v/\VU O K H Y v x)/\(jI S4 k=Sg->j9 ws k=Sg)
 |_,_,.nil=>⟨fun x e=>(by cases e),fun _=>rfl⟩
 |(a,u)::ws,(b,y)::S4,.cons ⟨h1,h2⟩ t=>by
  cases h1;unfold jI j9;rw[Tu,Tu];by_cases e:a=k
  .simp only[decide_eq_true e];exact⟨fun x h=>⟨u,rfl,by cases h;exact h2⟩,fun h=>by cases h⟩
  .simp only[decide_eq_false e];exact qL t
theorem Qn:∀{ws:List (cJ×V)} {S4:List (cJ×SV)},w6 O K H Y ws S4->(ws.any fun kv=>decide (kv.1=k))=S4.any fun kv=>decide (kv.1=k)
 |_,_,.nil=>rfl
 |(a,u)::ws,(b,y)::S4,.cons ⟨h1,h2⟩ t=>by cases h1;rw[Wj,Wj,Qn t]
theorem NK (f:VU O K H Y v x):∀{ws:List (cJ×V)} {S4:List (cJ×SV)},w6 O K H Y ws S4->w6 O K H Y (ws.map (fun kv=>if kv.1=k then(kv.1,v) else kv)) (S4.map (fun kv=>if kv.1=k then(kv.1,x) else kv))
 |_,_,.nil=> .nil
 |(a,u)::ws,(b,y)::S4,.cons ⟨h1,h2⟩ t=>by
  cases h1;rw[SN,SN];by_cases e:a=k
  .rw[if_pos e,if_pos e];exact .cons ⟨rfl,f⟩ (NK f t)
  .rw[if_neg e,if_neg e];exact .cons ⟨rfl,h2⟩ (NK f t)
theorem GL (h:w6 O K H Y ws S4) (r:p.1=q.1/\VU O K H Y p.2 q.2):w6 O K H Y (ws++[p]) (S4++[q]):=by
 induction h with
 |nil=>exact .cons r .nil
 |cons a _ b=>exact .cons a b
theorem Cw (a:VU O K H Y v x) (h:w6 O K H Y ws S4):w6 O K H Y (jc ws k v) (jZ S4 k x):=by
 unfold jc jZ;rw[Qn h];split
 .exact NK a h
 .exact GL h ⟨rfl,a⟩
theorem sX:∀{ws:List (cJ×V)} {S4:List (cJ×SV)},w6 O K H Y ws S4->w6 O K H Y (nr ws k) (mr S4 k)
 |_,_,.nil=> .nil
 |(a,u)::ws,(b,y)::S4,.cons ⟨h1,h2⟩ t=>by
  cases h1;unfold nr mr;rw[We,We];by_cases e:a=k
  .have z:decide (a≠k)=Sq:=decide_eq_false fun n=>n e;simp only[z];exact sX t
  .have z:=decide_eq_true e;simp only[z];exact .cons ⟨rfl,h2⟩ (sX t)
def yt (neg:Bool) (a fd:dH):dH:=fun ρ Z=>(a ρ Z).bind fun x Z1=>(fd ρ Z1).bind fun o X=>(RS.TB X (tG x)).bind fun k X=>(RS.TB X (im X o)).bind fun p X=> .ok (.fz (.bool ((jI p.2 k).isSome !=neg))) X
theorem GG (h:w6 O K H Y ws S4):(j9 ws k).isSome=(jI S4 k).isSome:=by
 obtain⟨b,a⟩:=qL h;cases q:jI S4 k with
 |none=>rw[a q];rfl
 |some x=>obtain⟨u,e,_⟩:=b x q;rw[e];rfl
theorem HZ (p:cZ K E tk fk) (hd:cZ K E td fd):cZ K E (Qr tk td) (yt Sq fk fd):=by intro B S H Y Z ρ Q s e w;refine p B S H Y Z ρ _ s e (w.bind.imp fun x U Z1 R t h g v m=> ?_);refine hd B S R U Z1 ρ _ h (e.Vh t) (g.bind.imp fun o T X P y f b u n=> ?_);obtain⟨k,l,b⟩:=WS.TB b;obtain⟨⟨i,S4⟩,j,b⟩:=WS.TB b;obtain⟨_,a,ws,ha,rfl,r,q⟩:=lV f n j;refine⟨a,j9 ws k,rfl,by rw[qp l m];exact ZX.k r,?_⟩;rw[GG q];refine WS.now f b _ ?_;rw[Bool.bne_false];exact .bl _
def uU (fd a:dH):dH:=fun ρ Z=>(fd ρ Z).bind fun o Z1=>(a ρ Z1).bind fun x X=>(RS.TB X (tG x)).bind fun k X=>(RS.TB X (im X o)).bind fun p X=>RS.TB X (jI p.2 k)
theorem yM (hd:cZ K E td fd) (t:cZ K E tk fk):cZ K E (Lp td tk) (uU fd fk):=by
 intro B S H Y Z ρ Q s e w;refine hd B S H Y Z ρ _ s e (w.bind.imp fun o U Z1 R G j g u r=> ?_);refine t B S R U Z1 ρ _ j (e.Vh G) (g.bind.imp fun x T X P F f b v p=> ?_);obtain⟨k,m,b⟩:=WS.TB b;obtain⟨⟨i,S4⟩,l,b⟩:=WS.TB b;obtain⟨_,a,ws,ha,rfl,C,A⟩:=lV f (r.Vh F) l;dsimp only at b;cases q:jI S4 k with
 |none=>rw[q] at b;exact b.elim
 |some y=>rw[q] at b;obtain⟨z,n,h⟩:=(qL A).1 y q;exact⟨a,z,rfl,by rw[qp m p,<-n];exact ZX.k C,WS.now f b z h⟩
def xo (fd e b:dH):eP:=fun ρ Z=>(b ρ Z).bind fun y Z1=>(fd ρ Z1).bind fun o X=>(e ρ X).bind fun x a=>(RS.TB a (tG x)).bind fun k a=>(RS.TB a (im a o)).bind fun p a=>if p.2.length<1000000 then .ok (.nx ρ) (a.set p.1 (.Yw (jZ p.2 k y))) else .bad
theorem Gn (hd:cZ K E td fd) (hk:cZ K E tk fk) (hv:cZ K E tv fv):mE K E (K8 td tk tv) (xo fd fk fv):=by
 intro B S H Y Z ρ D s f w;refine hv B S H Y Z ρ _ s f (WS.imp (WS.bind w) fun y U Z1 R q L I t m=> ?_);refine hd B S R U Z1 ρ _ L (f.Vh q) (WS.imp (WS.bind I) fun o T X P p J G u hu=> ?_);refine hk B S P T X ρ _ J (f.Vh (q.trans p)) (WS.imp (WS.bind G) fun x b g j n A e z Q=> ?_);obtain⟨k,N,e⟩:=WS.TB e;obtain⟨⟨i,S4⟩,M,e⟩:=WS.TB e;obtain⟨l,a,ws,ha,rfl,g1,C⟩:=lV A (hu.Vh n) M;dsimp only at e;by_cases hn:S4.length<1000000
 .rw[if_pos hn] at e;have ev:Ev (ow B b g) j (ow B b g) (bx j a (.dK (jc ws k t))):=rG ha l (by intro z;cases z);have F:UD b g j b (g.set i (.Yw (jZ S4 k y))) (bx j a (.dK (jc ws k t))):=UD.put ha l (by intro z;cases z) (by intro z;cases z);have hl:=Paired.length C;refine⟨a,_,rfl,by rw[qp N Q];exact ab8.k g1 (uq (by omega)),?_⟩;exact e b _ F (A.put ha l (by intro z;cases z) (by intro z;cases z) ⟨_,aG,Cw ((m.Vh (p.trans n)).ev ev fun _ _ h=>h) (Paired.WK C fun _ _ r=>⟨r.1,r.2.ev ev fun _ _ h=>h⟩)⟩) S ((f.Vh (q.trans (p.trans n))).Vh F)
 .rw[if_neg hn] at e;exact e.elim
def x9 (fd a:dH):dH:=fun ρ Z=>(fd ρ Z).bind fun o Z1=>(RS.TB Z1 (im Z1 o)).bind fun _ Z1=>(a ρ Z1).bind fun x X=>(RS.TB X (tG x)).bind fun k X=>(RS.TB X (im X o)).bind fun p X=>(RS.TB X (jI p.2 k)).bind fun y X=> .ok y (X.set p.1 (.Yw (mr p.2 k)))
theorem FY (hd:cZ K E td fd) (L:cZ K E tk fk):cZ K E (Ei td tk) (x9 fd fk):=by intro B S H Y Z ρ Q s j w;refine hd B S H Y Z ρ _ s j (w.bind.imp fun o U Z1 R e1 m f u n=> ?_);obtain⟨⟨i0,ah4⟩,G,f⟩:=WS.TB f;obtain⟨_,a,e,_,rfl,N,_⟩:=lV m n G;refine⟨a,rfl,.inl ⟨e,.inl N⟩,?_⟩;refine L B S R U Z1 ρ _ m (j.Vh e1) (f.bind.imp fun x T X P e2 l b v J=> ?_);obtain⟨k,F,b⟩:=WS.TB b;obtain⟨⟨i,S4⟩,C,b⟩:=WS.TB b;obtain⟨g,a',ws,ha,ea,M,p⟩:=lV l (n.Vh e2) C;cases ea;dsimp only at b;obtain⟨y,q,b⟩:=WS.TB b;obtain⟨z,I,A⟩:=(qL p).1 y q;have ev:Ev (ow B T X) P (ow B T X) (bx P a (.dK (nr ws k))):=rG ha g (by intro z;cases z);have t:UD T X P T (X.set i (.Yw (mr S4 k))) (bx P a (.dK (nr ws k))):=UD.put ha g (by intro z;cases z) (by intro z;cases z);refine⟨ws,k,z,M,qp F J,I,?_⟩;exact b T _ t (l.put ha g (by intro z;cases z) (by intro z;cases z) ⟨_,aG,sX (Paired.WK p fun _ _ r=>⟨r.1,r.2.ev ev fun _ _ h=>h⟩)⟩) z (A.Vh t)
theorem nG (s:Td B K H Y Z) (a:H p=Sg) (w:WS K E B H Y Z (PQ B K Q) (.ok (.rf Z.length) (Z++[c]))) (f:∀e:UD Y Z H (Y++[p]) (Z++[c]) (bx H p o),COk (ow B (Y++[p]) (Z++[c])) K (bx H p o) (Y++[p]) p c):Q (.ref p) (bx H p o):=by have b:Uw H (bx H p o):=b4 a _;have e:UD Y Z H (Y++[p]) (Z++[c]) (bx H p o):=UD.ZA s.len b a;exact w _ _ e (s.ZA b a (by rw[aG];simp) (f e)) _ ⟨p,by rw[<-s.len];exact bc,rfl⟩
def Co (fd:dH):dH:=fun ρ Z=>(fd ρ Z).bind fun o Z1=>(RS.TB Z1 (im Z1 o)).bind fun p Z1=> .ok (.rf Z1.length) (Z1++[.lst (p.2.map (·.2))])
theorem xw:∀{ws:List (cJ×V)} {S4:List (cJ×SV)},w6 O K H Y ws S4->Vr O K H Y (ws.map (·.2)) (S4.map (·.2))
 |_,_,.nil=> .nil
 |_,_,.cons h t=> .cons h.2 (xw t)
theorem yk (hd:cZ K E td fd):cZ K E (Kd FX (jo (OW K "dict" Lh td) nk)) (Co fd):=by intro B S H Y Z ρ Q s m w;refine hd B S H Y Z ρ _ s m (w.bind.imp fun o U Z1 R G h f u t=> ?_);obtain⟨⟨i,S4⟩,q,f⟩:=WS.TB f;obtain⟨F,a,ws,ha,rfl,g,C⟩:=lV h t q;refine⟨.inr (.inr (.inl ⟨rfl,.inl ⟨ws,g⟩⟩)),a,ws,rfl,rfl,g,fun p y=> ?_⟩;have b:Uw R (bx R p (QA p a)):=b4 y _;have n:=h.grow b;have j:=WS.from (UD.same b) f;refine⟨p,a,ws,rfl,aG,b _ _ g,fun l A=> ?_⟩;refine nG n A j fun e=>⟨_,aG,xw (Paired.WK C fun _ _ r=>⟨r.1,(r.2.Vh (UD.same b)).Vh e⟩)⟩
def zJ:cJ->Option Int
 | .inl i=>lD i
 | .inr _=>Sg
def uB (fd:dH):dH:=fun ρ Z=>(fd ρ Z).bind fun o Z1=>(RS.TB Z1 (im Z1 o)).bind fun p Z1=>(RS.TB Z1 (aC zJ (p.2.map (·.1)))).bind fun a Z1=>if a.length<64 then .ok (.rf Z1.length) (Z1++[.lst ((kX a).map fun i=>SV.fz (.int i))]) else .bad
theorem rO:∀{ks:List cJ} {a:List Int},aC zJ ks=lD a->ks=a.map Sum.inl
 |[],_,e=>by cases e;rfl
 |k::r,a,e=>by
  unfold aC at e;cases k with
  |inr x=>cases e
  |inl i=>
   dsimp only[zJ] at e;cases q:aC zJ r with
   |none=>rw[q] at e;cases e
   |some b=>rw[q] at e;cases e;rw[SN,<-rO q]
theorem ym:∀{ws:List (cJ×V)} {S4:List (cJ×SV)},w6 O K H Y ws S4->ws.map (·.1)=S4.map (·.1)
 |_,_,.nil=>rfl
 |_,_,.cons h t=>by rw[SN,SN,h.1,ym t]
theorem Ck (O:cc) (K:Ld) (H:Hp) (Y:List So):∀ns:List Int,Vr O K H Y (ns.map V.int) (ns.map fun i=>SV.fz (.int i))
 |[]=> .nil
 |n::r=> .cons (.int n) (Ck O K H Y r)
theorem yS (hd:cZ K E td fd):cZ K E (Kd Ey (jo td nk)) (uB fd):=by
 intro B S H Y Z ρ Q s h w;refine hd B S H Y Z ρ _ s h (w.bind.imp fun o U Z1 R G g b u n=> ?_);obtain⟨⟨i,S4⟩,m,b⟩:=WS.TB b;obtain⟨C,a,ws,ha,rfl,y,t⟩:=lV g n m;obtain⟨f,j,b⟩:=WS.TB b;by_cases hn:f.length<64
 .rw[if_pos hn] at b;refine⟨a,ws,f,rfl,y,by rw[ym t];exact rO j,hn,fun l F r q p=> ?_⟩;have A:=k8 (q.trans (fq f).symm) p (eG f);subst A;exact nG g r b fun e=>⟨_,aG,Ck _ _ _ _ _⟩
 .rw[if_neg hn] at b;exact b.elim
def rH:D->Option (cJ×SV)
 | .tuple [.int i,d]=>lD (.inl i,.fz d)
 | .tuple [.str x,d]=>lD (.inr x,.fz d)
 |_=>Sg
def wU:SV->Option (List (cJ×SV))
 | .fz (.tuple ds)=>aC rH ds
 |_=>Sg
theorem C8 (e:wU x=lD ps):∃ds,x= .fz (.tuple ds)/\aC rH ds=lD ps:=by
 unfold wU at e;split at e
 .exact⟨_,rfl,e⟩
 .cases e
def lY (S4 a:List (cJ×SV)):List (cJ×SV):=a.foldl (fun b e=>jZ b e.1 e.2) S4
def xY (fe:dH):dH:=fun ρ Z=>(fe ρ Z).bind fun x Z1=>(RS.TB Z1 (wU x)).bind fun ps Z1=> .ok (.rf Z1.length) (Z1++[.Yw (lY [] ps)])
theorem yY:∀{vs:List V} {ds:List D} {ps:List (cJ×SV)},L3.Ur O K H vs ds->aC rH ds=lD ps->∃S4,ZM K H vs S4/\w6 O K H Y S4 ps
 |_,_,_,.nil,e=>by cases e;exact⟨[],.nil,.nil⟩
 |_,_,_,.cons (d:=d) (ds:=ds) h t,e=>by
  unfold aC at e;cases q:rH d with
  |none=>rw[q] at e;cases e
  |some p=>
   rw[q] at e;dsimp only at e;cases q2:aC rH ds with
   |none=>rw[q2] at e;cases e
   |some ps=>
    rw[q2] at e;cases e;obtain⟨S4,i,g⟩:=yY t q2;unfold rH at q;split at q
    .cases q
     cases h with
     |tup h f=>cases f with
      |cons a b=>cases b with
       |cons b c=>cases c;cases a;exact⟨(.inl _,_)::S4,.cons h.1 i,.cons ⟨rfl,b⟩ g⟩
    .cases q
     cases h with
     |tup h f=>cases f with
      |cons a b=>cases b with
       |cons b c=>cases c;cases a;exact⟨(.inr _,_)::S4,.cons h.1 i,.cons ⟨rfl,b⟩ g⟩
    .cases q
theorem B2:∀{e:List (cJ×V)} {f:List (cJ×SV)} {ws:List (cJ×V)} {S4:List (cJ×SV)},w6 O K H Y e f->w6 O K H Y ws S4->w6 O K H Y (nX ws e) (lY S4 f)
 |_,_,_,_,.nil,h=>h
 |(a,u)::e,(b,y)::f,_,_,.cons r t,h=>by obtain⟨i,g⟩:=r;cases i;show w6 O K H Y (nX (jc _ a u) e) (lY (jZ _ a y) f);exact B2 t (Cw g h)
theorem GM (n:cZ K E te fe):cZ K E (Kd (HN K) (jo te nk)) (xY fe):=by
 intro B S H Y Z ρ Q s f w;refine n B S H Y Z ρ _ s f (w.bind.imp fun x U Z1 R p g b u l=> ?_);obtain⟨ps,q,a⟩:=WS.TB b;obtain⟨ds,rfl,q⟩:=C8 q;have a:=a;cases l with
 |tup h m=>obtain⟨S4,j,i⟩:=yY m q;exact⟨_,_,S4,rfl,h.1,j,fun d o=>nG g o a fun e=>⟨_,aG,B2 (Paired.WK i fun _ _ r=>⟨r.1,r.2.Vh e⟩) .nil⟩⟩
end
end L10
namespace PySem
open PyProof.Rows
def kO:Option Int->Int->Option Int
 |none,x=>lD x
 |some m,x=>lD (if x>m then x else m)
def Qp:Option (Int×Tok)->Array Sh
 |none=> #[]
 |some (m,t)=> #[.int m t,.int m t]
def LL (d:Sh):Option (Int×Tok)->Sh
 |none=>d
 |some (m,t)=> .int m t
namespace F
theorem args_maxd (a b:Sh):checkBuiltinCall "max" ⟨[a],[("default",b)]⟩=pure ():=by kernel_rfl
end F
section
variable {prog:S0} {w:Tn} {A:Tc} {E:Sh->Sr->Prop} {R:YD->Sr->Prop} {I l S:So} {vs:List Sh} {d:Sh}
theorem HX (hh:A.handled=Sg) (XZ:l≠I) (r:S≠I) (T:S≠l) {s:Sr}:
  ∀{C:List Sh} {ns:List Int},IntsAre C ns->∀(i:Nat) (h:Heap) (N:Nat) (b:Option (Int×Tok)) (c:Nat),vs=vs.take i++C->i<=vs.length->h.IsListIter I l i->h.IsList l vs.toArray->h.get? S=lD {cls:= .type "list",dict:=Sg,data:= .seq (Qp b) c,slots:= #[]}->
  (∀h' N b',b'.map (·.1)=ns.foldl kO (b.map (·.1))->(∀a o,a≠I->a≠S->h.get? a=lD o->h'.get? a=lD o)->R (.ok (.ret (LL d b'))) {s with heap:=h',toks:=N})->
  codeAny (model prog w) A (.builtin "max.loop" ⟨[.ref I,.none,.ref S],[("default",d)]⟩) R {s with heap:=h,toks:=N}:=by
 have W:=Walks.list (prog:=prog) (w:=w) (A:=A.in1) hh I l XZ vs.toArray;intro C ns hi
 induction hi with
 |nil=>
  intro i h N b c u hi it li U M;have e:i=vs.toArray.size:=by rw[S8] at u;have:=congrArg WW u;rw[TQ] at this;rw[SE];omega
  refine VW F.entry_max_loop ?_;rw[Tc.under_plainId F.plain_max_loop _];refine Sf (Uc U rfl ?_);refine Sf (YG (W.done _ _ _ (e▸⟨it,li⟩) fun h' g y=> ?_));have f:=y S _ (by simpa using r) U;cases b with
  |none=>refine Sf (X6 (Ss ?_));exact M h' g Sg rfl fun a o j B e=>y a o (by simpa using j) e
  |some p=>obtain⟨m,t⟩:=p;refine Sf (Yk f rfl (Sf (VD (Ss ?_))) (hz:=by show 2<=SD;decide));exact M _ g (lD (m,t)) rfl fun a o j B e=>(Heap.get?_update_other _ _ (Ne.symm B)).trans (y a o (by simpa using j) e)
 | @cons n t ahP afC hr ih=>
  intro i h N b c u hi it li U M;have WT:i<vs.toArray.size:=by have:=congrArg WW u;rw[Su,TQ,SJ] at this;rw[SE];omega
  have Q:vs[i]? =lD (.int n t):=by rw[u,Tb (by rw[TQ];omega),TQ,ado hi,aaR];rfl
  have G:vs=vs.take (i+1)++ahP:=by rw[VX,Q];rw[Tw];exact u
  have H:i+1<=vs.length:=by rw[SE] at WT;exact WT
  refine VW F.entry_max_loop ?_;rw[Tc.under_plainId F.plain_max_loop _];refine Sf (Uc U rfl ?_);refine Sf (YG (W.item i _ _ _ WT ⟨it,li⟩ fun v h' g hP L y=> ?_));have ev:v= .int n t:=by have X:=hP;rw[List.getElem?_toArray,Q] at X;exact(SM X).symm
  subst ev;have f:=y S _ (by simpa using r) U;have K:(toString "max"++toString ".loop":String)= "max.loop":=by decide
  cases b with
  |none=>
   show wpAny _ A.in1 (updateSeq S (fun _=> #[Sh.int n t,Sh.int n t])>>=_) _ _ _;refine Sf (Yk f rfl ?_);rw[K];refine Ss ⟨Vp F.plain_max_loop _,ih (i+1) _ g (lD (n,t)) _ G H (L.1.at fun o e=> ?_) (L.2.at fun o e=> ?_) (Heap.get?_update_self _ f rfl) fun B q Z Y O=>M B q Z Y fun a o j J e=>O a o j J ((Heap.get?_update_other _ _ (Ne.symm J)).trans (y a o (by simpa using j) e))⟩
   .exact(Heap.get?_update_other _ _ r).trans e
   .exact(Heap.get?_update_other _ _ T).trans e
  |some p=>
   obtain⟨m,t0⟩:=p;show wpAny _ A.in1 (tryCatch (holding [Sh.int n t,Sh.int n t] (richCompare .Gt (Sh.int n t) (Sh.int m t0)>>=_)) _>>=_) _ _ _;have ah6:=CmpOf.ints_gt (prog:=prog) (w:=w) (A:=A.in1) (P:=fun(k:Nat) v=>(k=0/\v=Sh.int n t)\/(k=1/\v=Sh.int m t0)) (fun k=>if k=0 then n else m) fun k v u=>by
    rcases u with⟨rfl,rfl⟩|⟨rfl,rfl⟩
    .exact⟨t,rfl⟩
    .exact⟨t0,rfl⟩
   refine Sf (YG (Uo (Sf (ah6 0 1 _ _ _ _ _ (.inl ⟨rfl,rfl⟩) (.inr ⟨rfl,rfl⟩) ?_))));refine Sf (Uo (Uz ?_));refine Sf (VD (Ss ?_));show wpAny _ A.in1 (if decide (n>m)=Si then _ else _) _ _ _;by_cases hb:n>m
   .rw[if_pos (decide_eq_true hb)]
    refine Sf (Yk f rfl (Sf (VD ?_)) (hz:=by show 2<=SD;decide));rw[K];refine Ss ⟨Vp F.plain_max_loop _,ih (i+1) _ g (lD (n,t)) _ G H (L.1.at fun o e=> ?_) (L.2.at fun o e=> ?_) (Heap.get?_update_self _ f rfl) fun B q Z Y O=>M B q Z ?_ fun a o j J e=>O a o j J ((Heap.get?_update_other _ _ (Ne.symm J)).trans (y a o (by simpa using j) e))⟩
    .exact(Heap.get?_update_other _ _ r).trans e
    .exact(Heap.get?_update_other _ _ T).trans e
    .rw[Y];show _=afC.foldl kO (lD (if n>m then n else m));rw[if_pos hb];rfl
   .rw[if_neg (by rw[decide_eq_false hb];exact SH)];refine Sf (VD ?_);rw[K];refine Ss ⟨Vp F.plain_max_loop _,ih (i+1) _ g (lD (m,t0)) c G H L.1 L.2 f fun B q Z Y O=>M B q Z ?_ fun a o j J e=>O a o j J (y a o (by simpa using j) e)⟩;rw[Y];show _=afC.foldl kO (lD (if n>m then n else m));rw[if_neg hb];rfl
theorem Dg (n:A.handled=Sg) (g:s.heap.IsList l vs.toArray) (hi:IntsAre vs ns)
  (q:∀h' tk b,b.map (·.1)=ns.foldl kO Sg->(∀a o,s.heap.get? a=lD o->h'.get? a=lD o)->Q (LL d b) {s with heap:=h',toks:=tk}):
  wpAny (model prog w) A (call (.builtin "max") [.ref l] [("default",d)]) Q E s:=by
 have j:l<s.heap.objs.size:=by obtain⟨_,e,_⟩:=g;exact Heap.lt_size e
 have h:(toString "max"++toString ".loop":String)= "max.loop":=by decide
 refine W7 (VF F.plain_max F.entry_max (aab (F.args_maxd _ _) ?_));refine Sf (aab (show Builtin.Builtins.bindParams "max" ["key","default"] 0 ⟨[],[("default",d)]⟩=pure [Sg,lD d] from rfl) ?_);refine Sf (Ss ?_);refine Sf (WO g ?_);refine Sf (T5 ?_);rw[h];have f:(s.heap.push {cls:= .type "list_iterator",data:= .fields #[.ref l,.int 0 0]}).objs.size=s.heap.objs.size+1:=Heap.size_push _ _;refine Ss ⟨Vp F.plain_max_loop _,HX n (S1 j) (by rw[f];exact Nat.succ_ne_self _) (by rw[f];exact TY (W3 j)) hi 0 _ s.toks Sg 0 rfl (Th _) ⟨_,Heap.get?_push_of_some _ (Heap.get?_push_size _ rfl),rfl,rfl⟩ ((g.push _).push _) (Heap.get?_push_size _ rfl) fun h' tk b p m=> ?_⟩;refine q h' tk b p fun a o e=> ?_;have i:=Heap.lt_size e;exact m a o (S1 i) (by rw[f];exact S1 (W3 i)) (Heap.get?_push_of_some _ (Heap.get?_push_of_some _ e))
end
end PySem
namespace L10
open PySem PySem.Spec PyProof.Rows L2 L3
def LH (K:Ld) (i:Int):List V->Hp->VK->Prop:=fun xs H Q=>∃(p:So) (a:List Int),xs=[.ref p]/\Xa K H p (a.map V.int)/\Q (.int ((a.foldl kO Sg).getD i)) H
theorem CJ (E:X.calm=Si) (C:Gl X "max") (hm:X.mg "max"=Sg) (ha:PA X [l] ta) (g:P3 l=Sq:=by rfl):
  PE X (.Call (.Name "max" p) [l] [⟨lD "default",.Constant (.int i) j p1,p2⟩] pos) (Kd (LH X.K i) ta):=by
 intro e s n H Q I h;refine Uu (kW I C hm LF (callWith_kw (cz (ha pos e s n H _ I h) fun J o ⟨vs,G,f,v,w⟩=> ?_) (by rw[uu _ _ _ g];rfl) (by rw[uu _ _ _ g];rfl) rfl rfl));obtain⟨a,y,rfl,A,q⟩:=w;obtain⟨u,rfl,r⟩:=lU v;cases r;obtain⟨O,rv,pl,M⟩:=f.list A;refine agg (adH (agh ?_));have P:=f.tok (o.toks+1);refine Dg (f.ok.hd E) pl.isList (mi rv) fun N L b F B=> ?_;refine⟨.int ((y.foldl kO Sg).getD i),G,f.kept B,?_,q⟩;rw[<-F];cases b with
 |none=>exact⟨_,rfl⟩
 |some p=>obtain⟨m,t⟩:=p;exact⟨t,rfl⟩
def HD (i:Int):List D->Option RV
 |[.list ds]=>(oG ds).map fun a=> .fz (.int ((a.foldl kO Sg).getD i))
 |_=>Sg
theorem BW {K:Ld}:Gf K (LH K i) (HD i):=by
 intro O H xs ds rv Q n f e q;unfold HD at e;split at e
 .rename_i m
  cases f with
  |cons l j=>
   cases j;cases qa:oG m with
   |none=>rw[qa] at e;cases e
   |some b=>rw[qa] at e;cases e;obtain⟨a,vs,rfl,h,g⟩:=Cl l;obtain rfl:=qM g qa;exact⟨a,b,rfl,h.sq,q.at (.int _)⟩
 .cases e
end L10
namespace L10
open PySem L2 L3
section
variable {B O O':cc} {K:Ld} {E:XK} {H H' H1 H2:Hp} {X Y T α2:List So} {Z U Z1 Z2:aV} {σ:L2.St} {ρ:bf} {v:V}
theorem gZ {l r:List A} (h:(l++r)[i]? =lD y):l[i]? =lD y\/∃j,i=l.length+j/\r[j]? =lD y:=by
 by_cases hi:i<l.length
 .rw[SG hi] at h;exact .inl h
 .rw[Tb (by omega)] at h;exact .inr ⟨i - l.length,by omega,h⟩
theorem II {l r:List A} {i:Nat} (h:l[i]? =lD y):(l++r)[i]? =lD y:=by rw[SG (Sl.mp h).1];exact h
theorem Eu {l r:List A} (h:r[i]? =lD y):(l++r)[l.length+i]? =lD y:=by rw[Tb (by omega),VS];exact h
theorem Ep (g:X.length=Z.length) (h:Lv (X++ps) (Z++cs) b):Lv X Z b\/b∈ps:=by
 obtain⟨i,d,f,e,a⟩:=h;rcases gZ f with g1|⟨j,e1,g1⟩
 .rcases gZ e with g2|⟨k,e2,g2⟩
  .exact .inl ⟨i,d,g1,g2,a⟩
  .have:=(Sl.mp g1).1;omega
 .exact .inr (S7 g1)
theorem UD.ZY (s:Td B K H X Z) (e:Uw H H') (f:∀p∈ps,H p=Sg):UD X Z H (X++ps) (Z++cs) H':=
 ⟨fun i a h=>II h,fun b u q _=>e b u q,fun b z=>(Ep s.len z).imp id fun z=>f b z⟩
theorem Td.ZY (s:Td B K H X Z) (e:Uw H H') (f:∀p∈ps,H p=Sg) (m:∀p∈ps,H' p≠Sg) (nd:∀(i j:Nat) (a:So),ps[i]? =lD a->ps[j]? =lD a->i=j) (t:ps.length=cs.length)
  (new:∀(i:Nat) (a:So) (c:Cell),ps[i]? =lD a->cs[i]? =lD c->COk (ow B (X++ps) (Z++cs)) K H' (X++ps) a c):Td B K H' (X++ps) (Z++cs):=by
 have ev:UD X Z H (X++ps) (Z++cs) H':=UD.ZY s e f;have n:∀b,H b≠Sg->H' b≠Sg:=fun b h z=>h (e.free z);refine⟨by rw[Su,Su,s.len,t],fun i j a g l=> ?_,fun a h=>n a (s.bn a h),fun a h i q=> ?_,fun i a h=> ?_,fun i a d g l=> ?_⟩
 .rcases gZ g with g1|⟨i',e1,g1⟩<;>rcases gZ l with g2|⟨j',e2,g2⟩
  .exact s.nd i j a g1 g2
  .exact absurd (f a (S7 g2)) (s.al i a g1)
  .exact absurd (f a (S7 g1)) (s.al j a g2)
  .have:=nd i' j' a g1 g2;omega
 .rcases gZ q with q|⟨j,_,q⟩
  .exact s.ba a h i q
  .exact s.bn a h (f a (S7 q))
 .rcases gZ h with h|⟨j,_,h⟩
  .exact n a (s.al i a h)
  .exact m a (S7 h)
 .have r:=s.len
  rcases gZ l with g2|⟨j,e2,g2⟩
  .rcases gZ g with g1|⟨k,e1,g1⟩
   .exact(s.ZL i a d g1 g2).ev ev.ev ev.pre fun o q=>e _ _ q
   .have:=(Sl.mp g2).1;omega
  .rcases gZ g with g1|⟨k,e1,g1⟩
   .have:=(Sl.mp g1).1;omega
   .have:k=j:=by omega
    subst this;exact new k a d g1 g2
def D6 (U:aV):Nat->List AV->Option (List AV×List (List D)×List Nat)
 |_,[]=>lD ([],[],[])
 |n,.fz d::r=>match D6 U n r with
  |some (l,cs,js)=>lD (.fz d::l,cs,js)
  |none=>Sg
 |n,.rf i::r=>match sh U (.rf i) with
  |some (.list ds)=>(match D6 U (n+1) r with
   |some (l,cs,js)=>lD (.rf n::l,ds::cs,i::js)
   |none=>Sg)
  |_=>Sg
def QU (ds:List D):Cell:= .lst (ds.map .fz)
def qB (x:SV) (U Z:aV):RS SV:=match x with
 | .fz d=> .ok (.fz d) Z
 | .rf i=>(match sh U (.rf i) with
  |some (.list ds)=>lQ Z (.ow ds)
  |_=> .bad)
 | .tp l=>(match D6 U Z.length l with
  |some (l',cs,js)=>if js.Nodup then .ok (.tp l') (Z++cs.map QU) else .bad
  |none=> .bad)
theorem qG (h:sh Z (.rf i)=lD (.list ds)):∃xs,Z[i]? =lD (.lst xs)/\aC wo xs=lD ds:=by
 unfold sh at h;dsimp only at h;cases q:Z[i]? with
 |none=>rw[q] at h;cases h
 |some c=>
  rw[q] at h;cases c with
  |lst xs=>
   dsimp only at h;cases q2:aC wo xs with
   |none=>rw[q2] at h;cases h
   |some a=>rw[q2] at h;cases h;exact⟨xs,rfl,q2⟩
  |_=>cases h
theorem ir (s:Td B K H X Z) (h:sh Z (.rf i)=lD (.list ds)):∃a vs,X[i]? =lD a/\H a=lD (.lst vs)/\L3.Ur (ow B X Z) K H vs ds/\ow B X Z a:=by obtain⟨xs,b,f⟩:=qG h;obtain⟨a,ha⟩:=s.at b;obtain⟨vs,j,g⟩:=s.ZL i a _ ha b;exact⟨a,vs,ha,j,iS (cH (R:=VU (ow B X Z) K H X) (fun v x y r e=>Ap r e) g f),.inr ⟨i,_,ha,b,by intro z;cases z⟩⟩
theorem Hq {o:cc} (s:Td o K H' Y U):∀{n:Nat} {l u:List AV} {cs:List (List D)} {g:List Nat} {xs:List V},D6 U n l=lD (u,cs,g)->Paired (AOk (ow o Y U) K H' Y) xs l->
  ∃ps:List So,ps.length=g.length/\cs.length=g.length/\(∀(k j:Nat),g[k]? =lD j->∃a ds vs,ps[k]? =lD a/\cs[k]? =lD ds/\Y[j]? =lD a/\H' a=lD (.lst vs)/\L3.Ur (ow o Y U) K H' vs ds/\ow o Y U a)/\
   ∀(b:List So),b.length=n->Paired (AOk (ow o Y U) K H' (b++ps)) xs u
 |_,[],_,_,_,_,e,.nil=>by cases e;exact⟨[],rfl,rfl,fun k j h=>by simp at h,fun b _=> .nil⟩
 |n,.fz d::r,u,cs,g,_,e,.cons h t=>by
  unfold D6 at e;cases q:D6 U n r with
  |none=>rw[q] at e;cases e
  |some p=>obtain⟨J,G,w⟩:=p;rw[q] at e;cases e;obtain⟨ps,F,C,A,y⟩:=Hq s q t;exact⟨ps,F,C,A,fun b f=> .cons h (y b f)⟩
 |n,.rf i::r,u,cs,g,_,e,.cons h t=>by
  unfold D6 at e;cases qs:sh U (.rf i) with
  |none=>rw[qs] at e;cases e
  |some d=>
   rw[qs] at e;cases d with
   |list ds=>
    dsimp only at e;cases q:D6 U (n+1) r with
    |none=>rw[q] at e;cases e
    |some p=>
     obtain⟨J,G,w⟩:=p;rw[q] at e;cases e;obtain⟨ps,F,C,A,y⟩:=Hq s q t;obtain⟨a,vs,ha,L,N,M⟩:=ir s qs;refine⟨a::ps,by rw[SJ,SJ,F],by rw[SJ,SJ,C],fun k j I=> ?_,fun b f=> ?_⟩
     .cases k with
      |zero=>cases I;exact⟨a,ds,vs,rfl,rfl,ha,L,N,M⟩
      |succ k=>exact A k j (by simpa using I)
     .have P:b++a::ps=(b++[a])++ps:=by simp
      obtain⟨Q,m,rfl⟩:=h;rw[ha] at m;cases m;refine .cons ⟨a,by rw[<-f];exact Eu (l:=b) (r:=a::ps) (i:=0) rfl,rfl⟩ ?_;rw[P];exact y (b++[a]) (by rw[Su,f];rfl)
   |_=>cases e
theorem Dn (s:Td B K H X Z) (w:WS K E B H X Z (PQ B K Q) (qB x U Z)) (e':UD [] [] H Y U H') (G:Td (ow B X Z) K H' Y U) (J:VU (ow (ow B X Z) Y U) K H' Y v x):Q v H':=by
 have C:=fun b o h=>e'.kp b o h fun⟨i,c,q,_⟩=>by simp at q
 have sub:∀b,ow B X Z b->ow (ow B X Z) Y U b:=fun b z=> .inl z;have fr:=fun i a c R h2 h3=>(e'.lv a ⟨i,c,R,h2,h3⟩).elim (fun⟨i,c,q,_⟩=>by simp at q) id;cases x with
 |fz d=>exact w X H' (UD.same C) (s.grow C) v (DV.ev (Ev.sub sub) J)
 |rf i=>
  unfold qB at w;dsimp only at w;cases qs:sh U (.rf i) with
  |none=>rw[qs] at w;exact w.elim
  |some d=>
   rw[qs] at w;cases d with
   |list ds=>obtain⟨a,vs,ha,R,hd,M⟩:=ir G qs;obtain⟨xs,e,_⟩:=qG qs;obtain⟨a',F,rfl⟩:=J;rw[ha] at F;cases F;exact ro s w C (fr i a _ ha e (by intro z;cases z)) R hd sub M
   |_=>exact w.elim
 |tp l=>
  unfold qB at w;dsimp only at w;cases qg:D6 U Z.length l with
  |none=>rw[qg] at w;exact w.elim
  |some p=>
   obtain⟨l',cs,I⟩:=p;rw[qg] at w;dsimp only at w;by_cases hn:I.Nodup
   .rw[if_pos hn] at w
    obtain⟨a,xs,rfl,ht,hl⟩:=J;obtain⟨ps,g1,g2,g3,g4⟩:=Hq G qg hl;have A:∀(k:Nat) (b:So),ps[k]? =lD b->∃j ds vs,I[k]? =lD j/\cs[k]? =lD ds/\Y[j]? =lD b/\H' b=lD (.lst vs)/\L3.Ur (ow (ow B X Z) Y U) K H' vs ds/\ow (ow B X Z) Y U b:=fun k b hb=>by
     have f:k<I.length:=by rw[<-g1];exact(Sl.mp hb).1
     obtain⟨b',ds,vs,e,y,u,m,t,g⟩:=g3 k _ (SI f);rw[hb] at e;cases e;exact⟨_,ds,vs,SI f,y,u,m,t,g⟩
    have nB:∀(j:Nat) (b:So),Y[j]? =lD b->ow (ow B X Z) Y U b->H b=Sg:=fun j b N M=>by
     rcases M with z|⟨i,c,z1,z2,z3⟩
     .exact absurd N (G.ba b z j)
     .exact fr i b c z1 z2 z3
    have fp:∀p∈ps,H p=Sg:=fun p L=>by obtain⟨k,f⟩:=TJ.mp L;obtain⟨j,ds,vs,e,y,u,m,t,g⟩:=A k p f;exact nB j p u g
    have n:∀b,ow B (X++ps) (Z++cs.map QU) b->ow (ow B X Z) Y U b:=fun b z=>by
     rcases z with z|z
     .exact .inl (.inl z)
     .rcases Ep s.len z with z|z
      .exact .inl (.inr z)
      .obtain⟨k,f⟩:=TJ.mp z;obtain⟨j,ds,vs,e,y,u,m,t,g⟩:=A k b f;exact g
    have ev:=UD.ZY (cs:=cs.map QU) s C fp;refine w (X++ps) H' ev (s.ZY C fp (fun p L=> ?_) (fun i j b hi N=> ?_) (by rw[Sj,g1,g2]) fun i b c hi hc=> ?_) (.ref a) ⟨a,xs,rfl,ht.ev (Ev.sub n),Paired.WK (g4 X s.len) fun _ _ r=>r.ev (Ev.sub n) fun _ _ h=>h⟩
    .obtain⟨k,f⟩:=TJ.mp L;obtain⟨j,ds,vs,e,y,u,m,t,g⟩:=A k p f;rw[m];simp
    .obtain⟨j1,_,_,S,_,p3,_⟩:=A i b hi;obtain⟨j2,_,_,r1,_,r3,_⟩:=A j b N;have:=G.nd j1 j2 b p3 r3;subst this;have P:=(Sl.mp S).1;exact(ab3 P hn).mp (S.trans r1.symm)
    .obtain⟨j,ds,vs,e,y,u,m,t,g⟩:=A i b hi;rw[Sx,y] at hc;cases hc;exact⟨vs,m,jG _ _ (t.ev (Ev.sub n))⟩
   .rw[if_neg hn] at w;exact w.elim
def nu (F:iA) (n:Nat) (xs:List SV) (Z:aV):RS SV:=if xs.length=n then(match aC wo xs with
 |some ds=>(match F (ds.map .fz) [] with
  | .ok x U=>qB x U Z
  | .er x _=> .er x Z
  | .bad=> .bad)
 |none=> .bad) else .bad
def uh (F:iA) (n:Nat) (fa:uS):dH:=fun ρ Z=>(fa ρ Z).bind fun xs Z1=>lL (nu F n xs Z1)
theorem zT (h:∀a,B a->H a≠Sg):Td B K H [] []:=⟨rfl,fun i j a h=>by simp at h,h,fun a h i=>by simp,fun i a h=>by simp at h,fun i a c h=>by simp at h⟩
theorem Bw:∀{xs:List SV} {ds:List D},aC wo xs=lD ds->xs=ds.map .fz
 |[],_,e=>by cases e;rfl
 |x::r,ds,e=>by
  unfold aC at e;cases x with
  |fz d=>
   dsimp only[wo] at e;cases q:aC wo r with
   |none=>rw[q] at e;cases e
   |some a=>rw[q] at e;cases e;rw[SN,<-Bw q]
  |rf i=>cases e
  |tp l=>cases e
theorem ye (s:Td B K H X Z) (e:Vr (ow B X Z) K H X vs xs) (w:WS K E B H X Z (PQ B K Q) (nu F n xs Z)):db K n F vs H Q E:=by
 unfold nu at w;by_cases hn:xs.length=n
 .rw[if_pos hn] at w
  refine⟨e.length.trans hn,?_⟩;cases q:aC wo xs with
  |none=>rw[q] at w;exact w.elim
  |some ds=>
   rw[q] at w;dsimp only at w;have l:=Bw q;refine⟨ow B X Z,[],[],ds.map .fz,zT s.owd,?_,?_⟩
   .rw[l] at e;exact jG _ _ ((Fc e).ev (Ev.sub fun b z=>z.elim id fun⟨i,c,q,_⟩=>by simp at q))
   .cases qF:F (ds.map .fz) [] with
    |bad=>rw[qF] at w;exact w.elim
    |ok x U=>rw[qF] at w;exact fun Y H' f j v a=>Dn s w f j a
    |er x U=>
     rw[qF] at w;intro c dx Y H' f j k;have g:=fun b o h=>f.kp b o h fun⟨i,c,q,_⟩=>by simp at q
     exact w c dx X H' (UD.same g) (s.grow g) (XOk.sub (fun b z=> .inl z) k)
 .rw[if_neg hn] at w;exact w.elim
theorem t8 (ha:vJ K E ta fa):cZ K E (jX (db K n F) [] E0 ta) (uh F n fa):=by intro B σ H X Z ρ Q s b w;refine ha B σ H X Z ρ _ s b (w.bind.imp fun xs T Z1 H1 g e a vs f=> ?_);rw[S8];exact ye e f (WS.e0 a)
def Pz (F:iA):FN:=fun ds=>match F (ds.map .fz) [] with
 | .ok (.fz d) _=> .ok (.fz d)
 | .ok (.rf i) Z=>(match sh Z (.rf i) with
  |some (.list ds)=> .ok (.ow ds)
  |_=> .bad)
 | .ok (.tp _) _=> .bad
 | .er x _=> .er x
 | .bad=> .bad
theorem N3 (h:pp K n (Pz F) vs H Q E):db K n F vs H Q E:=by
 obtain⟨u,B,ds,A,G,w⟩:=h;refine⟨u,B,[],[],ds.map .fz,zT A,jG _ _ (G.ev (Ev.sub fun b z=>z.elim id fun⟨i,c,q,_⟩=>by simp at q)),?_⟩;unfold Pz at w;cases qF:F (ds.map .fz) [] with
 |bad=>rw[qF] at w;exact w.elim
 |er x U=>rw[qF] at w;intro c dx Y H' f j k;exact w c dx H' (fun b o h=>f.kp b o h fun⟨i,c,q,_⟩=>by simp at q) (XOk.sub (fun b z=> .inl z) k)
 |ok x U=>
  rw[qF] at w;intro Y H' f j v m;have g:=fun b o h=>f.kp b o h fun⟨i,c,q,_⟩=>by simp at q
  cases x with
  |fz d=>exact w v H' g (DV.ev (Ev.sub fun b z=> .inl z) m)
  |tp l=>exact w.elim
  |rf i=>
   dsimp only at w;cases qs:sh U (.rf i) with
   |none=>rw[qs] at w;exact w.elim
   |some d=>
    rw[qs] at w;cases d with
    |list I=>obtain⟨a,p,ha,C,y,t⟩:=ir j qs;obtain⟨xs,r,_⟩:=qG qs;obtain⟨J,e,rfl⟩:=m;rw[ha] at e;cases e;refine w a p H' g ((f.lv a ⟨i,_,ha,r,by intro z;cases z⟩).elim (fun⟨i,c,q,_⟩=>by simp at q) id) C (y.ev (Ev.sub fun b z=>z.elim (fun z=> .inl z) fun z=>by rw[z];exact t))
    |_=>exact w.elim
end
def bW (P:S0) (w:Tn) (K:Ld) (mg:Str->Option Sh) (base:Heap) (a:wg) (k:Nat) (C m:Str) (ps:List Str) (sp:Sp):Prop:=
 ∃Ca f fd,SU K SK C=lD (lD (.ref Ca))/\Cls K Ca/\Meth K Ca m f/\FnOk P w K mg base a k f fd ps sp/\Binds K fd ps []
def yw (P:S0) (w:Tn) (K:Ld) (mg:Str->Option Sh) (base:Heap) (a:wg) (k:Nat) (C:Str) (ps:List Str) (sp:Sp):Prop:=
 ∃Ca f fd,SU K SK C=lD (lD (.ref Ca))/\mg C=lD (.ref Ca)/\Mk K Ca f/\FnOk P w K mg base a k f fd ps sp/\Binds K fd ps []
def uY (K:Ld) (C m:Str) (sp:Sp) (E:XK) (ta:TE) (t:TA):TE:=fun a H Q=>∃Ca,SU K SK C=lD (lD (.ref Ca))/\uj Ca m sp [] E ta t a H Q
def AJ (K:Ld) (C:Str) (sp:Sp) (E:XK) (t:TA):TE:=fun a H Q=>∃Ca,SU K SK C=lD (lD (.ref Ca))/\zc Ca sp [] E t a H Q
section
variable {X:Cx} {Y:wg} {E:XK} {k j:Nat} {C m:Str} {ps:List Str} {sp:Sp} {o e:TF} {es:List TF} {ta:TE} {t:TA} {Z pos p:Pos}
theorem Be (M:bW X.prog X.w X.K X.mg X.base Y k C m ps sp) (l:gc Y X E) (q:UP j X.A) (r:PE X o ta) (ha:PA X (e::es) t) (b:k<=j:=by decide)
  (dJ:SY (e::es) X.env=(Sq,eval e X.env)::SY es X.env:=by rfl) (G:(backTo pos (SY es X.env)).any (·.1)=Sq:=by rfl)
  (n:eval (.Call (.Attribute o m Z) (e::es) [] pos) X.env=(do
   let ov<-eval o X.env
   standAt Z.atName
   let(f,first)<-holding [ov] (getMethod ov m pl)
   callWith pos f first (backTo pos (SY (e::es) X.env)) (backToKw pos (keywordEach [] X.env))):=by rfl):PE X (.Call (.Attribute o m Z) (e::es) [] pos) (uY X.K C m sp E ta t):=by
 obtain⟨Ca,f,J,F,B,y,v,u⟩:=M;intro a s i H Q I ⟨L,g,h⟩;rw[F] at g;cases g;exact JG r B y v (q.mono b) u .nil l ha dJ G n a s i H Q I h
theorem En (M:bW X.prog X.w X.K X.mg X.base Y k C m ps sp) (l:gc Y X E) (q:UP j X.A) (r:PE X o ta) (b:k<=j:=by decide)
  (n:eval (.Call (.Attribute o m Z) [] [] pos) X.env=(do
   let ov<-eval o X.env
   standAt Z.atName
   let(f,first)<-holding [ov] (getMethod ov m pl)
   callWith pos f first (backTo pos (SY [] X.env)) (backToKw pos (keywordEach [] X.env))):=by rfl):PE X (.Call (.Attribute o m Z) [] [] pos) (uY X.K C m sp E ta nk):=by
 obtain⟨Ca,f,G,F,B,y,v,u⟩:=M;intro a s i H Q I ⟨J,g,h⟩;rw[F] at g;cases g;exact Fe r B y v (q.mono b) u .nil l n a s i H Q I h
theorem Lz (M:yw X.prog X.w X.K X.mg X.base Y k C ps sp) (l:gc Y X E) (n:UP j X.A) (ha:PA X (e::es) t) (b:k+1<=j:=by decide) (q:Gl X C:=by rfl)
  (G:(C==("__debug__":Str))=Sq:=by decide) (r:SY (e::es) X.env=(Sq,eval e X.env)::SY es X.env:=by rfl) (J:(backTo pos (SY es X.env)).any (·.1)=Sq:=by rfl):
  PE X (.Call (.Name C p) (e::es) [] pos) (AJ X.K C sp E t):=by
 obtain⟨Ca,f,L,F,B,y,v,u⟩:=M;intro a s i H Q I ⟨N,g,h⟩;rw[F] at g;cases g;exact J5 y v (n.mono b) q B u .nil l ha G r J a s i H Q I h
end
section
variable {K:Ld} {E:XK} {C m:Str} {F:iA} {n:Nat} {to:TE} {ta:TA} {fo:dH} {fa:uS} {L:List Str}
theorem EJ (a:fU K C L) (f:cZ K E to fo) (ha:vJ K E ta fa):cZ K E (uY K C m (db K n F) E to ta) (sO C m F n fo fa):=by obtain⟨Ca,a,_⟩:=a;exact fun B b H α Z ρ Q s e w=>⟨Ca,a,E4 a f ha B b H α Z ρ Q s e w⟩
theorem wE (a:fU K C L) (f:cZ K E to fo) (ha:vJ K E ta fa):cZ K E (uY K C m (db K n F) E0 to ta) (aU C m F n fo fa):=by obtain⟨Ca,a,_⟩:=a;exact fun B b H α Z ρ Q s e w=>⟨Ca,a,DG a f ha B b H α Z ρ Q s e w⟩
theorem NO (a:fU K C L) (ha:vJ K E ta fa):cZ K E (AJ K C (db K n F) E ta) (Hl C F n fa):=by obtain⟨Ca,a,_⟩:=a;exact fun B b H α Z ρ Q s e w=>⟨Ca,a,IT a ha B b H α Z ρ Q s e w⟩
theorem J4 (a:fU K C L) (ha:vJ K E ta fa):cZ K E (AJ K C (db K n F) E0 ta) (ut C F n fa):=by obtain⟨Ca,a,_⟩:=a;exact fun B b H α Z ρ Q s e w=>⟨Ca,a,Fu a ha B b H α Z ρ Q s e w⟩
end
section
variable {ρ ρ1 ρ2:bf} {Z Z1 Y Z3 Z4:aV} {x y z:SV} {i n:Nat} {d dx dy:D} {ds:List D} {b:Bool}
theorem bv (h:ρ[i]? =lD (lD x)):ar i ρ Z= .ok x Z:=by unfold ar;rw[h]
theorem ag (h:f (cx ρ)= .ok (.fz d,ρ')):ae f ρ Z= .ok (.fz d) Z:=by unfold ae;rw[h]
theorem ef (h:f (cx ρ)= .ok (.ow ds,ρ')):ae f ρ Z= .ok (.rf Z.length) (Z++[.lst (ds.map .fz)]):=by unfold ae;rw[h];rfl
theorem bH (h:f (cx ρ)= .ok (b,ρ')):bO f ρ Z= .ok b Z:=by unfold bO;rw[h]
theorem rB (h:f (cx ρ)= .ok (ds,ρ')):pf f ρ Z= .ok ds Z:=by unfold pf;rw[h]
theorem gF (g:e ρ Z= .ok (.rf i) Z1) (h:Z1[i]? =lD (.obj C fs)) (a:fs.lookup f=lD x):a9 C f e ρ Z= .ok x Z1:=by unfold a9;rw[g,RS.bind_ok];dsimp only;rw[h];dsimp only;rw[if_pos rfl,a];rfl
theorem cW (ha:fa ρ Z= .ok x Z1) (e:fb ρ Z1= .ok y Y) (a:rC f x y Y= .ok z Z3):kZ f fa fb ρ Z= .ok z Z3:=by unfold kZ;rw[ha,RS.bind_ok,e,RS.bind_ok,a]
theorem cr (h:f dx dy=lD (.fz d)):rC f (.fz dx) (.fz dy) Z= .ok (.fz d) Z:=by unfold rC;show((RS.TB Z (f dx dy)).bind fun rv Z1=>lQ Z1 rv)=_;rw[h];rfl
theorem vK (e:sh Z x=lD dx) (a:sh Z y=lD dy) (h:f dx dy=lD (.fz d)):rC f x y Z= .ok (.fz d) Z:=by unfold rC;rw[e,a];show((RS.TB Z (f dx dy)).bind fun rv Z1=>lQ Z1 rv)=_;rw[h];rfl
theorem mH:∀ds:List D,aC wo (ds.map .fz)=lD ds
 |[]=>rfl
 |d::r=>by rw[SN];unfold aC;rw[mH r];rfl
theorem gI (h:Z[i]? =lD (.lst (ds.map .fz))):sh Z (.rf i)=lD (.list ds):=by unfold sh;dsimp only;rw[h];dsimp only;rw[mH];rfl
theorem aZ (h:fa ρ Z= .ok (.fz (.bool b)) Z1):bJ fa ρ Z= .ok b Z1:=by unfold bJ;rw[h];rfl
theorem ja (h:fa ρ Z= .ok Si Z1) (k:fb ρ Z1=r):na fa fb ρ Z=r:=by unfold na;rw[h,RS.bind_ok,if_pos rfl,k]
theorem hG (h:fa ρ Z= .ok Sq Z1):na fa fb ρ Z= .ok Sq Z1:=by unfold na;rw[h,RS.bind_ok,if_neg SH]
theorem rD (h:fa ρ Z= .ok Si Z1):DU fa fb ρ Z= .ok Si Z1:=by unfold DU;rw[h,RS.bind_ok,if_pos rfl]
theorem jh (h:fa ρ Z= .ok Sq Z1) (k:fb ρ Z1=r):DU fa fb ρ Z=r:=by unfold DU;rw[h,RS.bind_ok,if_neg SH,k]
theorem mQ (h:fa ρ Z= .ok b Z1):ri fa ρ Z= .ok (!b) Z1:=by unfold ri;rw[h];rfl
theorem D3 (h:bJ fa ρ Z= .ok Si Z1) (k:fb ρ Z1=r):DZ fa fb ρ Z=r:=by unfold DZ;rw[h,RS.bind_ok,if_pos rfl,k]
theorem Dp (h:bJ fa ρ Z= .ok Sq Z1):DZ fa fb ρ Z= .ok (.fz (.bool Sq)) Z1:=by unfold DZ;rw[h,RS.bind_ok,if_neg SH]
theorem CM (h:c ρ Z= .ok Si Z1) (k:fa ρ Z1=r):HR c fa fb ρ Z=r:=by unfold HR;rw[h,RS.bind_ok,if_pos rfl,k]
theorem Bt (h:c ρ Z= .ok Sq Z1) (k:fb ρ Z1=r):HR c fa fb ρ Z=r:=by unfold HR;rw[h,RS.bind_ok,if_neg SH,k]
theorem aO:aQ ρ Z= .ok [] Z:=rfl
theorem aq (ha:fa ρ Z= .ok x Z1) (a:fr ρ Z1= .ok xs Y):aj fa fr ρ Z= .ok (x::xs) Y:=by unfold aj;rw[ha,RS.bind_ok,a,RS.bind_ok]
theorem uW (ha:fa ρ Z= .ok (ds.map .fz) Z1) (a:ds.length<=1000):mJ fa ρ Z= .ok (.fz (.tuple ds)) Z1:=by unfold mJ;rw[ha,RS.bind_ok,Sj,if_pos a];unfold QG;rw[mH];rfl
theorem K2 (ha:fa ρ Z= .ok xs Z1) (a:xs.length<=1000) (f:aC wo xs=Sg) (e:aC QR xs=lD l):mJ fa ρ Z= .ok (.tp l) Z1:=by unfold mJ;rw[ha,RS.bind_ok,if_pos a];unfold QG;rw[f];dsimp only;rw[e];rfl
theorem Bl (ha:fa ρ Z= .ok xs Z1) (a:aC (sh Z1) xs=lD ds) (h:f ds=lD (.fz d)):GR f fa ρ Z= .ok (.fz d) Z1:=by unfold GR;rw[ha,RS.bind_ok];unfold Mi;rw[a];show((RS.TB Z1 (f ds)).bind fun rv Z1=>lQ Z1 rv)=_;rw[h];rfl
theorem Ab (ha:fa ρ Z= .ok (ds.map .fz) Z1) (hn:ds.length=n) (a:F ds= .ok (.fz d)):jm F n fa ρ Z= .ok (.fz d) Z1:=by unfold jm;rw[ha,RS.bind_ok];unfold yD;rw[Sj,if_pos hn,mH];dsimp only;rw[a];rfl
theorem vQ (ha:fa ρ Z= .ok (ds.map .fz) Z1) (hn:ds.length=n) (a:F ds= .ok (.ow es)):jm F n fa ρ Z= .ok (.rf Z1.length) (Z1++[.lst (es.map .fz)]):=by unfold jm;rw[ha,RS.bind_ok];unfold yD;rw[Sj,if_pos hn,mH];dsimp only;rw[a];rfl
theorem yq:lL (RS.ok a Z)= .ok a Z:=rfl
theorem BK (e:fo ρ Z= .ok (.rf i) Z1) (f:Z1[i]? =lD (.obj C fs)) (hm:fs.lookup m=Sg) (ha:fa ρ Z1= .ok xs Y) (hn:(SV.rf i::xs).length=n) (g:F (.rf i::xs) Y= .ok x Z3):aU C m F n fo fa ρ Z= .ok x Z3:=by
 have a:lO Z1 C m (.rf i)=Si:=by unfold lO;dsimp only;rw[f];dsimp only;rw[hm,decide_eq_true rfl];rfl
 unfold aU;rw[e,RS.bind_ok,if_pos a,ha,RS.bind_ok,if_pos hn,g];rfl
theorem Ni (ha:fa ρ Z= .ok xs Z1) (hn:(SV.rf Z1.length::xs).length=n) (a:F (.rf Z1.length::xs) (Z1++[.obj C []])= .ok (.fz .none) Y):ut C F n fa ρ Z= .ok (.rf Z1.length) Y:=by unfold ut;rw[ha,RS.bind_ok];unfold tZ;rw[if_pos hn,a,RS.bind_ok,if_pos (show Dk (.fz .none)=Si from rfl)];rfl
theorem de (ha:fa ρ Z= .ok (.fz dx) Z1) (a:fb ρ Z1= .ok (.fz dy) Y) (h:bj dx dy=lD (.fz d)):j8 fa fb ρ Z= .ok (.fz d) Y:=by unfold j8;rw[ha,RS.bind_ok,a,RS.bind_ok];exact cr h
theorem ml (a:fo ρ Z= .ok (.rf i) Z1) (h:Z1[i]? =lD (.lst xs)) (f:fe ρ Z1= .ok x Y) (g:Y[i]? =lD (.lst ys)) (e:ys.length<1000000):l4 fo fe ρ Z= .ok (.fz .none) (Y.set i (.lst (ys++[x]))):=by
 have l:io Z1 (.rf i)=lD (i,xs):=by unfold io;dsimp only;rw[h]
 have j:io Y (.rf i)=lD (i,ys):=by unfold io;dsimp only;rw[g]
 unfold l4;rw[a,RS.bind_ok,l];show((fe ρ Z1).bind _)=_;rw[f,RS.bind_ok,j];show(if ys.length<1000000 then _ else _)=_;rw[if_pos e]
theorem l8 (h:Z[i]? =lD (.Yw S4)):im Z (.rf i)=lD (i,S4):=by unfold im;dsimp only;rw[h]
theorem AF (a:fk ρ Z= .ok x Z1) (hd:fd ρ Z1= .ok (.rf i) Y) (f:tG x=lD k) (e:Y[i]? =lD (.Yw S4)):yt neg fk fd ρ Z= .ok (.fz (.bool ((jI S4 k).isSome !=neg))) Y:=by unfold yt;rw[a,RS.bind_ok,hd,RS.bind_ok,f];show((RS.TB Y (im Y (.rf i))).bind _)=_;rw[l8 e];rfl
theorem Im (hd:fd ρ Z= .ok (.rf i) Z1) (a:fk ρ Z1= .ok x Y) (g:tG x=lD k) (f:Y[i]? =lD (.Yw S4)) (e:jI S4 k=lD y):uU fd fk ρ Z= .ok y Y:=by unfold uU;rw[hd,RS.bind_ok,a,RS.bind_ok,g];show((RS.TB Y (im Y (.rf i))).bind _)=_;rw[l8 f];show RS.TB Y (jI S4 k)=_;rw[e];rfl
theorem JC (a:fv ρ Z= .ok y Z1) (hd:fd ρ Z1= .ok (.rf i) Y) (f:fk ρ Y= .ok x Z3) (h:tG x=lD k) (g:Z3[i]? =lD (.Yw S4)) (e:S4.length<1000000):xo fd fk fv ρ Z= .ok (.nx ρ) (Z3.set i (.Yw (jZ S4 k y))):=by unfold xo;rw[a,RS.bind_ok,hd,RS.bind_ok,f,RS.bind_ok,h];show((RS.TB Z3 (im Z3 (.rf i))).bind _)=_;rw[l8 g];show(if S4.length<1000000 then _ else _)=_;rw[if_pos e]
theorem J9 (hd:fd ρ Z= .ok (.rf i) Z1) (h:Z1[i]? =lD (.Yw ah4)) (a:fk ρ Z1= .ok x Y) (g:tG x=lD k) (f:Y[i]? =lD (.Yw S4)) (e:jI S4 k=lD y):x9 fd fk ρ Z= .ok y (Y.set i (.Yw (mr S4 k))):=by unfold x9;rw[hd,RS.bind_ok,l8 h];show((fk ρ Z1).bind _)=_;rw[a,RS.bind_ok,g];show((RS.TB Y (im Y (.rf i))).bind _)=_;rw[l8 f];show((RS.TB Y (jI S4 k)).bind _)=_;rw[e];rfl
theorem Jb (hd:fd ρ Z= .ok (.rf i) Z1) (h:Z1[i]? =lD (.Yw S4)):Co fd ρ Z= .ok (.rf Z1.length) (Z1++[.lst (S4.map (·.2))]):=by unfold Co;rw[hd,RS.bind_ok,l8 h];rfl
theorem Ju (hd:fd ρ Z= .ok (.rf i) Z1) (h:Z1[i]? =lD (.Yw S4)) (e:aC zJ (S4.map (·.1))=lD ns) (a:ns.length<64):uB fd ρ Z= .ok (.rf Z1.length) (Z1++[.lst ((kX ns).map fun i=>SV.fz (.int i))]):=by unfold uB;rw[hd,RS.bind_ok,l8 h];show((RS.TB Z1 (aC zJ (S4.map (·.1)))).bind _)=_;rw[e];show(if ns.length<64 then _ else _)=_;rw[if_pos a]
theorem JM (a:fe ρ Z= .ok x Z1) (h:wU x=lD ps):xY fe ρ Z= .ok (.rf Z1.length) (Z1++[.Yw (lY [] ps)]):=by unfold xY;rw[a,RS.bind_ok,h];rfl
variable {fl:FlS} {r:RS FlS}
theorem cV (h:f ρ Z= .ok (.nx ρ1) Z1) (k:g ρ1 Z1=r):aK f g ρ Z=r:=by unfold aK;rw[h,RS.bind_ok];exact k
theorem oj (h:f ρ Z= .ok (.rt x) Z1):aK f g ρ Z= .ok (.rt x) Z1:=by unfold aK;rw[h];rfl
theorem fH (h:c ρ Z= .ok Si Z1) (k:f ρ Z1=r):cB c f g ρ Z=r:=by unfold cB;rw[h,RS.bind_ok,if_pos rfl,k]
theorem ip (h:c ρ Z= .ok Sq Z1) (k:g ρ Z1=r):cB c f g ρ Z=r:=by unfold cB;rw[h,RS.bind_ok,if_neg SH,k]
theorem iY (h:f ρ Z= .ok x Z1):gC f ρ Z= .ok (.rt x) Z1:=by unfold gC;rw[h];rfl
theorem gw (h:f ρ Z= .ok x Z1):bM f ρ Z= .ok (.nx ρ) Z1:=by unfold bM;rw[h];rfl
theorem vT (h:f ρ Z= .ok x Z1) (e:ρ.set i (lD x)=ρ1):cL f (fD i) ρ Z= .ok (.nx ρ1) Z1:=by subst e;unfold cL;rw[h];rfl
theorem gQ:cO ρ Z= .ok (.nx ρ) Z:=rfl
theorem oA (h:fe ρ Z= .ok x Z1) (a:fo ρ Z1= .ok (.rf i) Y) (j:Y[i]? =lD (.obj C fs)) (g:fs.length<100):fQ C f fo fe ρ Z= .ok (.nx ρ) (Y.set i (.obj C (eT f x fs))):=by
 have e:Gr Y C (.rf i)=lD (i,fs):=by unfold Gr;dsimp only;rw[j];dsimp only;rw[if_pos rfl]
 unfold fQ;rw[h,RS.bind_ok,a,RS.bind_ok,e];show(if fs.length<100 then _ else _)=_;rw[if_pos g]
theorem mh (h:f ρ Z= .ok x Z1) (k:frz 4 Z1 x=lD (d,Y)):nO f ρ Z= .ok (.fz d) Y:=by unfold nO;rw[h,RS.bind_ok];unfold NG;rw[k]
theorem jJ (e:xs.map lD++Sz (N - xs.length) Sg=ρ) (h:g ρ Z= .ok (.rt x) Z1):cU N g xs Z= .ok x Z1:=by subst e;unfold cU;rw[h];rfl
theorem nt (e:xs.map lD++Sz (N - xs.length) Sg=ρ) (h:g ρ Z= .ok (.nx ρ1) Z1):cU N g xs Z= .ok (.fz .none) Z1:=by subst e;unfold cU;rw[h];rfl
end
section
variable {ρ ρ1 ρ2:bf} {Z Z1 Y Z3 Z4:aV} {x y z:SV} {i n:Nat} {d dx dy:D} {ds:List D} {b:Bool}
theorem oz (e:α->D) (f:α->SV) (Z:aV) (I:bf->Prop):∀(xs:List α) (ρ:bf) (a:List SV),I ρ->a.length+xs.length<=1000000->(∀x∈xs,∀ρ,I ρ->∃ρ',gt (.fz (e x)) ρ Z= .ok ρ' Z/\ft ρ' Z= .ok Si Z/\fe ρ' Z= .ok (f x) Z/\I ρ')->eA gt ft fe (xs.map e) ρ Z a= .ok (a++xs.map f) Z
 |[],ρ,a,_,_,_=>by show RS.ok a Z=_;rw[Wz,S8]
 |x::r,ρ,a,h0,hl,hs=>by obtain⟨ρ',m,l,j,h⟩:=hs x Sv ρ h0;rw[SJ] at hl;show((gt (.fz (e x)) ρ Z).bind _)=_;rw[m,RS.bind_ok,l,RS.bind_ok,if_pos rfl,j,RS.bind_ok,if_pos (by omega),oz e f Z I r ρ' _ h (by rw[Su,Wb];omega) fun y g=>hs y (Sy _ g),Tw];rfl
theorem Bj (hi:fi ρ Z= .ok ds Z1) (a:eA gt ft fe ds (oV n fj ρ) Z1 []= .ok xs Y):rU n fj fi gt ft fe ρ Z= .ok (.rf Y.length) (Y++[.lst xs]):=by unfold rU;rw[hi,RS.bind_ok,a,yq,RS.bind_ok]
theorem ww (m:Nat):∀(ds:List D),pM (frz m) Z (ds.map .fz)=lD (ds,Z)
 |[]=>rfl
 |d::r=>by rw[SN];unfold pM;rw[show frz m Z (.fz d)=lD (d,Z) by cases m<;>rfl];dsimp only;rw[ww m r]
theorem jO (h:Z[i]? =lD (.lst (ds.map .fz))):frz 4 Z (.rf i)=lD (.list ds,Z.set i .dead):=by unfold frz;rw[h];dsimp only;rw[ww]
theorem Au (h:fe ρ Z= .ok (.rf i) Z1) (a:Z1[i]? =lD (.lst (ds.map .fz))):jf fe ρ Z= .ok ds (Z1.set i .dead):=by unfold jf;rw[h,RS.bind_ok,jO a];rfl
def PN (N C:bf->aV->Prop) (T:SV->aV->Prop):RS FlS->Prop
 | .ok (.nx ρ) Z=>N ρ Z
 | .ok (.ct ρ) Z=>C ρ Z
 | .ok (.rt v) Z=>T v Z
 |_=>False
structure Wa (r:RS FlS) (N C:bf->aV->Prop) (T:SV->aV->Prop):Prop where
 out:PN N C T r
variable {f g:eP} {fe:dH} {N C:bf->aV->Prop} {T:SV->aV->Prop}
theorem Wa.eq (e:r=r') (h:Wa r' N C T):Wa r N C T:=by rw[e];exact h
theorem Wa.imp (h:Wa r N C T) (e:∀ρ Z,N ρ Z->N' ρ Z) (j:∀ρ Z,C ρ Z->C' ρ Z) (a:∀v Z,T v Z->T' v Z):Wa r N' C' T':=by
 refine⟨?_⟩;have h:=h.out;cases r with
 |bad=>exact h
 |er x Z=>exact h
 |ok l Z=>
  cases l with
  |nx r=>exact e _ _ h
  |ct r=>exact j _ _ h
  |rt v=>exact a _ _ h
  |bk r=>exact h
theorem og (h:Wa (f ρ Z) (fun r o=>Wa (g r o) N C T) C T):Wa (aK f g ρ Z) N C T:=by
 refine⟨?_⟩;have h:=h.out;unfold aK;cases q:f ρ Z with
 |bad=>rw[q] at h;exact h.elim
 |er x o=>rw[q] at h;exact h.elim
 |ok a o=>
  rw[q] at h;cases a with
  |nx r=>exact(show Wa (g r o) N C T from h).out
  |ct r=>exact h
  |rt v=>exact h
  |bk r=>exact h.elim
theorem xl (h:c ρ Z= .ok b Z1) (a:b=Si->Wa (f ρ Z1) N C T) (e:b=Sq->Wa (g ρ Z1) N C T):Wa (cB c f g ρ Z) N C T:=by
 unfold cB;rw[h,RS.bind_ok];cases b with
 |true=>exact a rfl
 |false=>exact e rfl
theorem sE (e:c ρ Z= .ok Si Z1) (a:Wa (f ρ Z1) N C T):Wa (cB c f g ρ Z) N C T:=xl e (fun _=>a) fun h=>by cases h
theorem eB (e:c ρ Z= .ok Sq Z1) (a:Wa (g ρ Z1) N C T):Wa (cB c f g ρ Z) N C T:=xl e (fun h=>by cases h) fun _=>a
theorem Ew (e:fe ρ Z= .ok x Z1) (a:gt x ρ Z1= .ok ρ1 Y) (h:N ρ1 Y):Wa (cL fe gt ρ Z) N C T:=by refine⟨?_⟩;unfold cL;rw[e,RS.bind_ok,a,RS.bind_ok];exact h
theorem mY (a:f ρ Z= .ok (.nx ρ1) Z1) (h:N ρ1 Z1):Wa (f ρ Z) N C T:=⟨by rw[a];exact h⟩
theorem Qk (a:f ρ Z= .ok (.rt x) Z1) (h:T x Z1):Wa (f ρ Z) N C T:=⟨by rw[a];exact h⟩
theorem iG (a:fe ρ Z= .ok x Z1) (h:N ρ Z1):Wa (bM fe ρ Z) N C T:=mY (gw a) h
theorem Ez (a:fe ρ Z= .ok x Z1) (h:T x Z1):Wa (gC fe ρ Z) N C T:=Qk (iY a) h
theorem JL (h:T (.fz .none) Z):Wa (uD ρ Z) N C T:=⟨h⟩
theorem lh (h:N ρ Z):Wa (cO ρ Z) N C T:=⟨h⟩
theorem gG {gt:D8} (e:fe ρ Z= .ok x Z1) (a:gt x ρ Z1= .ok ρ1 Y) (h:Wa (g ρ1 Y) N C T):Wa (aK (cL fe gt) g ρ Z) N C T:=og (Ew e a h)
theorem AZ (a:f ρ Z= .ok (.nx ρ1) Z1) (h:Wa (g ρ1 Z1) N C T):Wa (aK f g ρ Z) N C T:=og (mY a h)
theorem jL (a:fe ρ Z= .ok x Z1) (h:Wa (g ρ Z1) N C T):Wa (aK (bM fe) g ρ Z) N C T:=og (iG a h)
theorem xT {h a:eP} (m:c ρ Z= .ok b Z1) (j:b=Si->Wa (aK h g ρ Z1) N C T) (l:b=Sq->Wa (aK a g ρ Z1) N C T):Wa (aK (cB c h a) g ρ Z) N C T:=by
 have e:aK (cB c h a) g ρ Z=if b=Si then aK h g ρ Z1 else aK a g ρ Z1:=by unfold aK cB;rw[m,RS.bind_ok];cases b<;>rfl
 refine .eq e ?_;cases b with
 |true=>exact j rfl
 |false=>exact l rfl
theorem vZ {a l:eP} (j:c ρ Z= .ok Si Z1) (e:Wa (aK a g ρ Z1) N C T):Wa (aK (cB c a l) g ρ Z) N C T:=xT j (fun _=>e) fun h=>by cases h
theorem sF {l a:eP} (j:c ρ Z= .ok Sq Z1) (e:Wa (aK a g ρ Z1) N C T):Wa (aK (cB c l a) g ρ Z) N C T:=xT j (fun h=>by cases h) fun _=>e
theorem wv (h:T (.fz .none) Z):Wa (aK uD g ρ Z) N C T:=og (JL h)
theorem mP (h:Wa (g ρ Z) N C T):Wa (aK cO g ρ Z) N C T:=og (lh h)
theorem Nz {a e:eP} (h:Wa (aK a (aK e g) ρ Z) N C T):Wa (aK (aK a e) g ρ Z) N C T:=by
 refine .eq ?_ h;unfold aK;cases a ρ Z with
 |bad=>rfl
 |er x o=>rfl
 |ok j o=>cases j<;>rfl
theorem CC {b:eP} (I:Nat->bf->aV->Prop):∀(ds:List D) (k:Nat) (ρ:bf) (Z:aV),I k ρ Z->(∀i d ρ Z,ds[i]? =lD d->I (k+i) ρ Z->∃ρ1 Z1,gt (.fz d) ρ Z= .ok ρ1 Z1/\Wa (b ρ1 Z1) (I (k+i+1)) (I (k+i+1)) T)->Wa (jp gt b ds ρ Z) (I (k+ds.length)) C T
 |[],k,ρ,Z,h0,_=>⟨h0⟩
 |d::r,k,ρ,Z,h0,hs=>by
  obtain⟨ρ1,Z1,w,a⟩:=hs 0 d ρ Z rfl h0;have a:=a.out;have l:∀j p,I (k+1) j p->Wa (jp gt b r j p) (I (k+(r.length+1))) C T:=fun j p h=>by
   have e:k+(r.length+1)=k+1+r.length:=by omega
   rw[e];refine CC I r (k+1) j p h fun i B m t hi u=> ?_;have e:k+1+i=k+(i+1):=by omega
   rw[e] at u⊢;exact hs (i+1) B m t (by simpa using hi) u
  refine⟨?_⟩;show PN _ _ _ ((gt (.fz d) ρ Z).bind _);rw[w,RS.bind_ok];cases q:b ρ1 Z1 with
  |bad=>rw[q] at a;exact a.elim
  |er x o=>rw[q] at a;exact a.elim
  |ok A o=>
   rw[q] at a;cases A with
   |nx r=>exact(l _ _ a).out
   |ct r=>exact(l _ _ a).out
   |rt v=>exact a
   |bk r=>exact a.elim
theorem NU {b:eP} (I:Nat->bf->aV->Prop) (hi:fi ρ Z= .ok ds Z1) (j:I 0 ρ Z1) (a:∀i d ρ Z,ds[i]? =lD d->I i ρ Z->∃ρ1 Z1,gt (.fz d) ρ Z= .ok ρ1 Z1/\Wa (b ρ1 Z1) (I (i+1)) (I (i+1)) T) (e:∀ρ' Z',I ds.length ρ' Z'->N ρ' Z'):Wa (sg fi gt b ρ Z) N C T:=by have:=CC (C:=C) I ds 0 ρ Z1 j (by simpa using a);rw[UX] at this;refine .eq ?_ (this.imp e (fun _ _ h=>h) fun _ _ h=>h);unfold sg;rw[hi,RS.bind_ok]
theorem NQ (a:xs.map lD++Sz (n - xs.length) Sg=ρ) (h:Wa (g ρ Z) (fun _ Z'=>T (.fz .none) Z') (fun _ _=>False) T):∃x Z',cU n g xs Z= .ok x Z'/\T x Z':=by
 have h:=h.out;unfold cU;rw[a];cases q:g ρ Z with
 |bad=>rw[q] at h;exact h.elim
 |er x o=>rw[q] at h;exact h.elim
 |ok e o=>
  rw[q] at h;cases e with
  |nx r=>exact⟨_,_,rfl,h⟩
  |ct r=>exact h.elim
  |rt v=>exact⟨_,_,rfl,h⟩
  |bk r=>exact h.elim
theorem ig {W:aV->Prop} (a:xs.map lD++Sz (n - xs.length) Sg=ρ) (h:Wa (g ρ Z) (fun _ Z'=>SV.fz .none=v/\W Z') (fun _ _=>False) (fun r Z'=>r=v/\W Z')):∃Z',cU n g xs Z= .ok v Z'/\W Z':=by obtain⟨x,Z',l,j,e⟩:=NQ (T:=fun r Z'=>r=v/\W Z') a h;exact⟨Z',by rw[l,j],e⟩
end
def QW (Z:aV):AV->Option D
 | .fz d=>lD d
 | .rf i=>sh Z (.rf i)
def QQ (F:iA):FN:=fun ds=>match F (ds.map .fz) [] with
 | .ok (.fz d) _=> .ok (.fz d)
 | .ok (.rf i) Z=>(match sh Z (.rf i) with
  |some (.list ds)=> .ok (.ow ds)
  |_=> .bad)
 | .ok (.tp l) Z=>(match aC (QW Z) l with
  |some ds=> .ok (.fz (.tuple ds))
  |none=> .bad)
 | .er x _=> .er x
 | .bad=> .bad
section
variable {B O O':cc} {K:Ld} {E:XK} {H H' H1 H2:Hp} {U Y α1 α2:List So} {Z X Z1 Z2:aV} {σ:L2.St} {ρ:bf} {v:V}
theorem PD (s:Td B K H U Z) (h:AOk (ow B U Z) K H U v x) (e:QW Z x=lD d):L3.DV B K H v d:=by
 have sub:∀b,B b->ow B U Z b:=fun b z=> .inl z;cases x with
 |fz n=>cases e;exact DV.ev (Ev.sub sub) h
 |rf i=>
  obtain⟨a,ha,rfl⟩:=h;have f:sh Z (.rf i)=lD d:=e;have:∃ds,d= .list ds:=by
   unfold sh at f;dsimp only at f;split at f
   .rename_i xs _
    cases q:aC wo xs with
    |none=>rw[q] at f;cases f
    |some ds=>rw[q] at f;cases f;exact⟨_,rfl⟩
   .cases f
  obtain⟨ds,rfl⟩:=this;obtain⟨o,vs,g,l,j,m⟩:=ir s f;rw[ha] at g;cases g;exact .lst ⟨Ww.of l,fun z=>absurd ha (s.ba a z i)⟩ (j.ev (Ev.sub sub))
theorem Oj (h:pp K n (QQ F) vs H Q E):db K n F vs H Q E:=by
 obtain⟨I,B,ds,L,P,w⟩:=h;refine⟨I,B,[],[],ds.map .fz,zT L,jG _ _ (P.ev (Ev.sub fun b z=>z.elim id fun⟨i,c,q,_⟩=>by simp at q)),?_⟩;unfold QQ at w;cases qF:F (ds.map .fz) [] with
 |bad=>rw[qF] at w;exact w.elim
 |er x X=>rw[qF] at w;intro c dx Y H' g m k;exact w c dx H' (fun b o h=>g.kp b o h fun⟨i,c,q,_⟩=>by simp at q) (XOk.sub (fun b z=> .inl z) k)
 |ok x X=>
  rw[qF] at w;intro Y H' g m v p;have j:=fun b o h=>g.kp b o h fun⟨i,c,q,_⟩=>by simp at q
  cases x with
  |fz d=>exact w v H' j (DV.ev (Ev.sub fun b z=> .inl z) p)
  |tp l=>
   dsimp only at w;cases qs:aC (QW X) l with
   |none=>rw[qs] at w;exact w.elim
   |some N=>rw[qs] at w;obtain⟨a,xs,rfl,A,C⟩:=p;exact w (.ref a) H' j (.tup (A.ev (Ev.sub fun b z=> .inl z)) (iS (cH (R:=AOk (ow B Y X) K H' Y) (fun v x y r e=>PD m r e) C qs)))
  |rf i=>
   dsimp only at w;cases qs:sh X (.rf i) with
   |none=>rw[qs] at w;exact w.elim
   |some d=>
    rw[qs] at w;cases d with
    |list N=>obtain⟨a,t,ha,M,J,G⟩:=ir m qs;obtain⟨xs,u,_⟩:=qG qs;obtain⟨S,f,rfl⟩:=p;rw[ha] at f;cases f;refine w a t H' j ((g.lv a ⟨i,_,ha,u,by intro z;cases z⟩).elim (fun⟨i,c,q,_⟩=>by simp at q) id) M (J.ev (Ev.sub fun b z=>z.elim (fun z=> .inl z) fun z=>by rw[z];exact G))
    |_=>exact w.elim
end
end L10
namespace L10
open PySem PySem.SeqAt PySem.Spec PySem.W PyProof.Rows L2 L3
section
variable {K:Ld} {E:XK}
def Jy (i:Nat) (fe:FE):FE:=fun ρ=>(Res.TB (zl ρ[i]?)).bind fun _=>(fe ρ).bind fun a=>match a.1 with
 | .ow es=>(Res.TB (zl a.2[i]?)).bind fun ds=>if ds.length+es.length<=1000000 then .ok (.fz .none,a.2.set i (lD (.ow (ds++es)))) else .bad
 |_=> .bad
theorem G5 {i:Nat} {o:TE} {fe:FE} (L:EO K E o fe):EO K E (PL K "list" C3 (yr i) (jo o nk)) (Jy i fe):=by
 intro B Y O A H ρ Q R w;obtain⟨T,F,w⟩:=w.TB;obtain⟨v,m,a,vs,rfl,g2,g3,M,g5⟩:=R.slot i _ (qh F);refine⟨_,m,.inl ⟨rfl,_,Xa.of M⟩,?_⟩;refine L B Y O A H ρ _ R (w.bind.imp fun b e X y H1 P n p=> ?_);obtain⟨pv,C⟩:=b;dsimp only at e n p;cases pv with
 |fz d=>exact e.elim
 |pl j=>exact e.elim
 |ow N=>
  dsimp only at e;obtain⟨ds,f,e⟩:=e.TB;have f:=qh f;obtain⟨U,g,rfl,m1,m2,G,q,m5⟩:=p;obtain⟨Z,u,a',h,S,t,J,I,r⟩:=n.slot i _ f;subst S;rw[m] at u;cases u;by_cases l:ds.length+N.length<=1000000
  .rw[if_pos l] at e;refine⟨a,U,h,g,rfl,rfl,I,G,sr (by rw[r.length,q.length];exact l),?_⟩;exact e X .UT _ (P.trans (Ev.mut t _)) (n.mut f m t J (r.append q)) .UT
  .rw[if_neg l] at e;exact e.elim
theorem NW {i:Nat} {fe:FE} {ρ ρ1:aY} {a ds es:List D} (g:ρ[i]? =lD (lD (.ow a))) (f:fe ρ= .ok (.ow es,ρ1)) (e:ρ1[i]? =lD (lD (.ow ds))) (b:ds.length+es.length<=1000000):Jy i fe ρ= .ok (.fz .none,ρ1.set i (lD (.ow (ds++es)))):=by unfold Jy;rw[g,i8,aH,Res.bind_ok,f,Res.bind_ok];dsimp only;rw[e,i8,aH,Res.bind_ok,if_pos b]
end
end L10
namespace L10
open PySem PyProof.Rows L2 L3
section
variable {B O O':cc} {K:Ld} {E:XK} {H H' H1 H2:Hp} {α α' α1 α2:List So} {Z Z' Z1 Y:aV} {σ:L2.St} {ρ:bf} {v:V}
theorem zA {fa fb:dH} {y z:SV} {i:Nat} {n:Int} {xs:List SV} (ha:fa ρ Z= .ok (.rf i) Z1) (e:fb ρ Z1= .ok y Y) (hn:G2 y=lD n) (a:Y[i]? =lD (.lst xs)) (b:l9 xs n=lD z):j8 fa fb ρ Z= .ok z Y:=by unfold j8;rw[ha,RS.bind_ok,e,RS.bind_ok];unfold Mr;simp only[a,hn];show RS.TB Y (l9 xs n)=_;rw[b];rfl
end
end L10
namespace L10
open PySem PySem.Spec PyProof.Rows L2 L3
end L10
namespace L10
open PySem PyProof.Rows L2 L3
section
variable {O Z:cc} {K:Ld} {H H':Hp} {a b:So} {xs:List V} {Y:Heap->Prop}
def Qz (a:So) (O:cc) (H:Hp) (Z:cc) (H':Hp):Prop:=∀b o,b≠a->H b=lD o->¬O b->H' b=lD o/\¬Z b
theorem Y2.evx (i:H a=lD (.ext Y)) (h:Y2 O K H b xs) (e:Qz a O H Z H'):Y2 Z K H' b xs:=by
 obtain⟨h,k⟩:=h;by_cases z:O b
 .exact⟨Ww.same (lC H') (k z),fun _=>k z⟩
 .rcases h with(h|⟨o,h⟩)|h
  .obtain⟨g,f⟩:=e b _ (fun y=>by rw[y,i] at h;cases h) h z;exact⟨.inl (.inl g),fun y=>absurd y f⟩
  .obtain⟨g,f⟩:=e b _ (fun y=>by rw[y,i] at h;cases h) h z;exact⟨.inl (.inr ⟨o,g⟩),fun y=>absurd y f⟩
  .exact⟨.inr h,fun _=> .inr h⟩
theorem XJ.evx (i:H a=lD (.ext Y)) (h:XJ O K H b xs) (e:Qz a O H Z H'):XJ Z K H' b xs:=by
 obtain⟨h,k⟩:=h;by_cases z:O b
 .exact⟨(lC H').tup (k z),fun _=>k z⟩
 .rcases h with(h|⟨o,h⟩)|h
  .obtain⟨g,f⟩:=e b _ (fun y=>by rw[y,i] at h;cases h) h z;exact⟨.inl (.inl g),fun y=>absurd y f⟩
  .obtain⟨g,f⟩:=e b _ (fun y=>by rw[y,i] at h;cases h) h z;exact⟨.inl (.inr ⟨o,g⟩),fun y=>absurd y f⟩
  .exact⟨.inr h,fun _=> .inr h⟩
mutual
theorem DV.evx (f:H a=lD (.ext Y)) (e:Qz a O H Z H'):∀{v:V} {d:D},L3.DV O K H v d->L3.DV Z K H' v d
 |_,_,.UT=> .UT
 |_,_,.bl b=> .bl b
 |_,_,.int i=> .int i
 |_,_,.str x=> .str x
 |_,_,.tup h hs=> .tup (XJ.evx f h e) (Ur.evx f e hs)
 |_,_,.lst h hs=> .lst (Y2.evx f h e) (Ur.evx f e hs)
theorem Ur.evx (f:H a=lD (.ext Y)) (e:Qz a O H Z H'):∀{vs:List V} {ds:List D},L3.Ur O K H vs ds->L3.Ur Z K H' vs ds
 |_,_,.nil=> .nil
 |_,_,.cons h hs=> .cons (DV.evx f e h) (Ur.evx f e hs)
end
end
end L10
namespace PySem
open Sem (wp)
open PyProof.Rows
end PySem
namespace L10
open PySem PySem.Spec PyProof.Rows L2 L3
end L10
namespace L10
open PySem PyProof.Rows L2 L3
end L10
namespace L3
open PySem PySem.Spec PyProof.Rows L2
end L3
namespace L3
open PySem L2
structure NI (K:Ld) (f:So) (n:Str) (t:UL):Prop where
 a:SU K SK n=lD (lD (.ref f))
 F:∃fd,VT K n n t f fd
structure MI (K:Ld) (C f:So) (m q:Str) (t:UL):Prop where
 a:Ti K (.ref C) m=lD (lD (.ref f))
 i:Vk K (.ref f)=Si
 F:∃fd,VT K m q t f fd
structure CI (K:Ld) (C:So) (n:Str) (fs:List Str):Prop where
 a:SU K SK n=lD (lD (.ref C))
 pg:V2 K C Str.empty=Si
 hd:Vb K C=Si
 po:Yn K C=Si
 sa:Ti K (.ref C) "__setattr__"=lD (lD (.builtin "object.__setattr__"))
 mm:YX K C=Si
 kc:Uq K (.ref C)=Si
 fl:∀x∈fs,WN K C x
def BA (n q:Str) (t:UL) (ps:List Str):Prop:=∀(kV b e:Sh) (f:Option So) (g ct:Sh) (a:List Sh),a.length=ps.length->bindArgs (Ui n q (fG t) (cg t) (az t) .none kV b e f g ct) ⟨a,[]⟩=pure (ps.zip a)
section
variable {P:S0} {w:Tn} {K:Ld} {mg:Str->Option Sh} {base h:Heap} {f C:So} {n m q:Str} {t:UL} {ps fs:List Str} {Z k:Nat} {sp sp':Sp}
theorem CI.cls (c:CI K C n fs):Cls K C:=⟨c.pg,c.hd,c.po,c.sa⟩
theorem CI.cf (c:CI K C n fs):L10.fU K n fs:=⟨C,c.a,c.cls,c.fl⟩
theorem NI.cal (i:NI K f n t) (X:K.In h) (G:h.Ns SK mg) (b:BA n n t ps) (ok:∀fd,VT K n n t f fd->FnOk P w K mg base dG Z f fd ps sp):xX P w K mg base Z n ps sp:=
 let⟨fd,z⟩:=i.F;⟨f,fd,ok fd z,z.binds b,z.kp,Uy X G i.a⟩
theorem NI.law (i:NI K f "law" t) (X:K.In h) (G:h.Ns SK mg) (b:mg "law"=lD (.ref fa)) (p:BA "law" "law" t [x]) (ok:∀base fd,VT K "law" "law" t f fd->FnOk P w K mg base dG Z f fd [x] sp):∃fd:TL,(∀(s:Sr) (v:Sh),X5 s fd ⟨[v],[]⟩ [(x,v)])/\∀base:Heap,K.In base->base.Ns SK mg->FnOk P w K mg base dG Z fa fd [x] sp:=by have e:=b.symm.trans (Uy X G i.a);cases e;obtain⟨fd,z⟩:=i.F;obtain⟨A,y,kV,g,j,r,u,ct,l,rfl,B,o⟩:=z.ex;exact⟨_,fun s v=> .of_eq (p kV g j r u ct [v] rfl),fun base _ _=>ok base _ z⟩
theorem BJ (a:UP k A):A.units+65<cLine:=by have:=a.un;omega
theorem Fg (p:SO K E u g) (h:YM X b u):∃t,YM X b t/\SO K E t g:=⟨_,h,p⟩
theorem Bp (p:L10.mE K E u g) (h:YM X b u):∃t,YM X b t/\L10.mE K E t g:=⟨_,h,p⟩
theorem pN {x a:Str} {st:UL} {fd:TL} {N:List Str} {n m:Nat} {g:FS} {i:FN} (F:VT K x a st f fd) (S:Vc N ps (az st)) (hn:ps.length=n) (hm:N.length=m) (j:i=ic m g)
  (l:∀(b:Sh) (A:Tc) (outer:List Env) (s:Sr) (H:Hp) (E:XK),N.Nodup->UP k (A.deeper (S3 a (az st) s.heap.objs.size f b))->(A.deeper (S3 a (az st) s.heap.objs.size f b)).units+64<cLine->(A.deeper (S3 a (az st) s.heap.objs.size f b)).units+1<cLine->(A.deeper (S3 a (az st) s.heap.objs.size f b)).units+65<cLine->
   ∃t,YM (gb dG P w K mg base N a (az st) f b A outer s H E).nox (cg st) t/\SO K E t g):FnOk P w K mg base dG (k+1) f fd ps (pp K n i):=
 RZ F S hn hm j fun b A outer s H E e=>l b A outer s H E S.nd e e.units (CV e) (BJ e)
theorem ka {n m:Nat} (F:VT K x qual st f fd) (S:Vc N ps (az st)) (hn:ps.length=n) (hm:N.length=m) (e:FF=L10.cU m g)
  (i:∀(a:Sh) (A:Tc) (outer:List Env) (s:Sr) (H:Hp) (E:XK),N.Nodup->UP k (A.deeper (S3 qual (az st) s.heap.objs.size f a))->(A.deeper (S3 qual (az st) s.heap.objs.size f a)).units+64<cLine->(A.deeper (S3 qual (az st) s.heap.objs.size f a)).units+1<cLine->(A.deeper (S3 qual (az st) s.heap.objs.size f a)).units+65<cLine->
   ∃t,YM (gb dG P w K mg base N qual (az st) f a A outer s H E).nox (cg st) t/\L10.mE K E t g):FnOk P w K mg base dG (k+1) f fd ps (L10.db K n FF):=
 L10.RU F S hn hm e fun a A outer s H E b=>i a A outer s H E S.nd b b.units (CV b) (BJ b)
theorem Iw {W:So} {a:Array Sh} {g:Nat} {ss:Array (Option Sh)} {xs:List V} {ds:List D} (l:K.lookup W=lD ⟨.type "tuple",Sg,.seq a g,ss⟩) (e:a.size<=SD) (b:Vals xs a.toList) (hd:∀O H,Ur O K H xs ds):∀O H,DV O K H (.ref W) (.tuple ds):=fun O H=>
 .tup (xs:=xs) ⟨.inr ⟨_,_,_,l,⟨rfl,rfl⟩,rfl,e,b⟩,fun _=> .inr ⟨_,_,_,l,⟨rfl,rfl⟩,rfl,e,b⟩⟩ (hd O H)
end
end L3
namespace L2
open PySem PySem.Spec PyProof.Rows
end L2
namespace L3
open PySem PySem.Spec PyProof.Rows L2
end L3
namespace L10R
open PySem PySem.Calls PyProof.Rows
theorem Md:typeLookup (.type "list_reverseiterator") "__len__"=pure Sg:=by rw[Yj,Wm];kernel_rfl
theorem Ds:typeLookup (.type "list_reverseiterator") "__length_hint__"=pure (lD (.builtin "list_reverseiterator.__length_hint__")):=by rw[Yj,Wm];kernel_rfl
section
variable {prog:S0} {w:Tn} {A:Tc} {E:Sh->Sr->Prop} {s:Sr} {r l:So} {items:Array Sh}
theorem HH {Q:Bool->Sr->Prop} (e:s.TypeIs (.ref r) "list_reverseiterator") (h:Q Sq s):wpAny (model prog w) A (Builtin.List.listLengthHint (.ref r)) Q E s:=by
 unfold Builtin.List.listLengthHint;refine Sf (Yi e Md ?_);dsimp only;refine VY (fun a=>absurd a (by decide)) (fun _=> ?_);refine VY (fun a=>absurd a (by decide)) (fun _=> ?_);refine Sf (Yi e Ds ?_);generalize hid:("list_reverseiterator.__length_hint__":String)=id0
 wp_delta
 rw[show splitId id0=lD ("list_reverseiterator","__length_hint__") from by subst hid;left];subst hid;refine Sf (XW (T:= "list_reverseiterator") (b:=Si) e (by rw[ahr];kernel_rfl) ?_);refine VY (fun a=>absurd a (by decide)) (fun _=> ?_);refine VY (fun _=> ?_) (fun a=>absurd (by left) a);refine VY (fun a=>absurd a (by left)) (fun _=> ?_);exact Ss h
theorem z9 {R:YD->Sr->Prop} (G:A.handled=Sg) (N:l≠r) (C:s.heap.IsList l items) (j:s.heap.IsRevIter r l ((items.size:Int) - 1)) (S:So) (h:S≠r) (t:S≠l) (res:Sh) (a:Nat) (I:s.heap.get? S=lD {cls:= .type "list",data:= .seq #[] a})
  (J:∀h' tk XY c',(∀b o,b≠S->b≠r->s.heap.get? b=lD o->h'.get? b=lD o)->h'.get? S=lD {cls:= .type "list",dict:=Sg,data:= .seq XY c',slots:= #[]}->XX (fun i v=>items[items.size - 1 - i]? =lD v) XY items.size->R (.ok (.ret res)) {s with heap:=h',toks:=tk}) (hn:items.size<=SD):
  wpAny (model prog w) A.in1 (Builtin.List.listExtendWith (.ref S) (.ref r) res)
   (fun fin s'=>match fin with| .done f=>R (.ok f) s'| .again c'=>c'.quiet=Si/\codeAny (model prog w) A c' R s') (fun e s'=>R (.error e) s') s:=by
 have q:S∉[r,l]:=by simp only[SS,Ue,or_false,not_or];exact⟨h,t⟩
 have W:=Walks.listRev (prog:=prog) (w:=w) (A:=A.in1) G r l N items;have B:0<=items.size/\s.heap.IsRevIter r l ((items.size:Int) - 1 - ((0:Nat):Int))/\s.heap.IsList l items:=⟨Th _,by rw[show(items.size:Int) - 1 - ((0:Nat):Int)=(items.size:Int) - 1 by omega];exact j,C⟩;have m:codeAny (model prog w) A (.builtin "list.extend.loop" ⟨[.ref S,.ref r,res],[]⟩) R s:=by
  refine codeAny_extend_loopS W.toS hn S q res items.size 0 _ #[] a rfl (Th _) B I (XX.nil _) fun s' XY c' hm u y=> ?_;rw[Moved.eq_with hm];refine J s'.heap s'.toks XY c' (fun b o H n e=>hm.heap b o (fun g=> ?_) e) u y;rcases SS.mp g with e'|g
  .exact H e'
  .exact n (SQ.mp g)
 unfold Builtin.List.listExtendWith;refine Sf (Wh (T:= "list_reverseiterator") j.typeIs ?_);have M:Builtin.List.listSameRef (.ref S) (.ref r)=Sq:=by simp[Builtin.List.listSameRef,h]
 have L:(Sh.type "list_reverseiterator"==Sh.type "list")=Sq:=by left
 have K:(Sh.type "list_reverseiterator"==Sh.type "tuple")=Sq:=by left
 simp only[M,L,K,aaa,U8,if_false];refine Sf (wpAny_pyIter_revIter j ?_);refine Sf (Uo (HH j.typeIs ?_));refine VY (fun p=>absurd p (by left)) (fun _=>Ss ⟨Vp PySem.F.plain_extend_loop _,m⟩)
theorem GN {R:YD->Sr->Prop} (C:A.handled=Sg) (G:l≠r) (y:s.heap.IsList l items) (u:s.heap.IsRevIter r l ((items.size:Int) - 1)) (S:So) (g:S≠r) (h:S≠l) (p:s.heap.get? S=lD {cls:= .type "list",data:= .seq #[]})
  (F:∀h' tk XY c',(∀b o,b≠S->b≠r->s.heap.get? b=lD o->h'.get? b=lD o)->h'.get? S=lD {cls:= .type "list",dict:=Sg,data:= .seq XY c',slots:= #[]}->XX (fun i v=>items[items.size - 1 - i]? =lD v) XY items.size->R (.ok (.ret .none)) {s with heap:=h',toks:=tk}) (hn:items.size<=SD):
  wpAny (model prog w) A.in1 (Builtin.«list.__init__» ⟨[.ref S,.ref r],[]⟩)
   (fun fin s'=>match fin with| .done f=>R (.ok f) s'| .again c'=>c'.quiet=Si/\codeAny (model prog w) A c' R s') (fun e s'=>R (.error e) s') s:=by
 show wpAny _ _ (do let old<-Builtin.List.listItems (.ref S);Builtin.List.listUpdate (.ref S) (fun _=> #[]);letGo old.toList.reverse;Builtin.List.listExtendWith (.ref S) (.ref r) .none) _ _ s;refine Sf ?_;unfold Builtin.List.listItems;refine Sf (Uc p rfl (Ss ?_));show wpAny _ _ (updateSeq S (fun _=> #[])>>=fun _=>letGo (#[]:Array Sh).toList.reverse>>=fun _=>Builtin.List.listExtendWith (.ref S) (.ref r) .none) _ _ s;refine Sf (Yk p rfl ?_);have a:=Heap.get?_update_self (Obj.mapSeq (fun _=>(#[]:Array Sh))) p rfl
 have t:∀b o,b≠S->s.heap.get? b=lD o->(s.heap.update S (Obj.mapSeq (fun _=>(#[]:Array Sh)))).get? b=lD o:=
  fun b o j e=>(Heap.get?_update_other _ _ (Ne.symm j)).trans e
 refine Sf (VD ?_);refine z9 C G (y.at fun o e=>t l o h.symm e) (u.at fun o e=>t r o g.symm e) S g h .none _ a (fun h' tk XY c' B n q=> ?_) hn;exact F h' tk XY c' (fun b o j m e=>B b o j m (t b o j e)) n q
theorem ack {Q:Sh->Sr->Prop} (u:A.handled=Sg) (C:l≠r) (m:s.heap.IsList l items) (j:s.heap.IsRevIter r l ((items.size:Int) - 1)) (hn:items.size<=SD)
  (B:∀h' tk XY c',(∀b o,b≠r->s.heap.get? b=lD o->h'.get? b=lD o)->h'.get? s.heap.objs.size=lD {cls:= .type "list",dict:=Sg,data:= .seq XY c',slots:= #[]}->XX (fun i v=>items[items.size - 1 - i]? =lD v) XY items.size->Q (.ref s.heap.objs.size) {s with heap:=h',toks:=tk}):
  wpAny (model prog w) A (call (.type "list") [.ref r]) Q E s:=by
 refine ahs (Q₁:=fun obj a=>obj= .ref s.heap.objs.size/\a={s with heap:=s.heap.push {cls:= .type "list",data:= .seq #[]}}) PySem.F.called_list (PySem.F.typeCall_list_1 _) PySem.F.entry_list_init
  (code_list_new _ ⟨rfl,rfl⟩) fun obj a f=> ?_
 obtain⟨rfl,rfl⟩:=f;have n:(s.heap.push {cls:= .type "list",data:= .seq #[]}).get? s.heap.objs.size=lD {cls:= .type "list",data:= .seq #[]}:=Heap.get?_push_size _ rfl;have p:r<s.heap.objs.size:=by obtain⟨o,e,_⟩:=j;exact Heap.lt_size e
 have q:l<s.heap.objs.size:=by obtain⟨o,e,_⟩:=m;exact Heap.lt_size e
 refine⟨⟨_,n,rfl⟩,PySem.F.args_list_init_2 _ _,GN (A:=A.in1) u C (m.at fun o e=>Heap.get?_push_of_some _ e) (j.at fun o e=>Heap.get?_push_of_some _ e) _ (TY p) (TY q) n (fun h' tk XY c' t g h=> ?_) hn⟩;exact⟨rfl,B h' tk XY c' (fun b o y e=>t b o (S1 (Heap.lt_size e)) y (Heap.get?_push_of_some _ e)) g h⟩
end
end L10R
namespace L2
open PySem PySem.Spec PyProof.Rows
section
variable {X:Cx} {e:TF} {Z:TE} {p q p1 Y:Pos}
def xz (K:Ld) (Z:TE):TE:=fun f H Q=>Z f H fun x b=>∃a xs,x= .ref a/\Xa K b a xs/\∀l,b l=Sg->Q (.ref l) (bx b l (.lst xs.reverse))
theorem AX:T1 "reversed"=lD (.type "reversed"):=by rfl
theorem Dl {xs:List V} {us:List Sh} (h:Vals xs us):Vals xs.reverse us.reverse:=by
 induction h with
 |nil=>exact .nil
 |cons h _ a=>rw[VZ,VZ];exact a.append (.cons h .nil)
theorem Da {items a:Array Sh} (h:XX (fun i v=>items[items.size - 1 - i]? =lD v) a items.size):a.toList=items.toList.reverse:=by
 apply List.ext_getElem?;intro j;by_cases b:j<items.size
 .have f:j<a.size:=by rw[h.1];exact b
  have e:=h.2 j _ (ZJ f);rw[V7,ZJ f,List.getElem?_reverse (by rw[TH];exact b),TH,V7];exact e.symm
 .rw[aaS (by rw[TH,h.1];omega),aaS (by rw[Yl,TH];omega)]
theorem EU {a:List (So×Obj)} {j:St} {H:Hp} {s:Sr} {e:So} {o:HO} (I:Inv X a j H s) (f:mZ X a H e) (A:X.s₀.heap.get? e=Sg) (new:ObjOk X.prog X.w (bx H e o) s.heap e o):Inv X a j (bx H e o) s:=by
 obtain⟨ne,t,_,_,v,i⟩:=f;have m:∀b o,X.s₀.heap.get? b=lD o->b≠e:=fun b o z y=>by rw[y,A] at z;cases z
 have g:∀b o,H b=lD o->b≠e:=fun b o z y=>by rw[y,ne] at z;cases z
 have B:=I.base;refine⟨I.ok,I.os,I.bare,⟨B.keep,B.slot,fun b o z n x=> ?_,B.there,fun b xs z=> ?_,fun b o u z=> ?_,fun b ps z=> ?_⟩,I.loc,I.cell,?_,fun x c z=> ?_,fun p l=> ?_,fun b u z=> ?_,I.len⟩
 .rw[ay (m b o z)];exact B.free b o z n x
 .have:=B.YJ b xs z;rw[ay (g b _ this)];exact this
 .have:=B.Yu b o u z;rw[ay (g b _ this)];exact this
 .obtain⟨h,y⟩:=B.YL b ps z;exact⟨h,by rw[ay (g b _ y)];exact y⟩
 .rw[ay t.symm];exact I.free
 .rw[ay (v x c z)];exact I.V1 x c z
 .obtain⟨z,n,r⟩:=I.pin p l;exact⟨z,by rw[ay (i p l)];exact n,r⟩
 .by_cases y:b=e
  .subst y;rw[aG] at z;cases z;exact new
  .rw[ay y] at z;exact(I.T9 b u z).Xb (fun _ _ _ y=>y) (fun c y=>by rw[ay (g c _ y)];exact y) fun c xs y=>by rw[ay (g c _ y)];exact y
theorem Am (hc:X.calm=Si) (C:Gl X "list") (A:X.mg "list"=Sg) (B:Gl X "reversed") (y:X.mg "reversed"=Sg) (U:PE X e Z)
  (L:SY [.Call (.Name "reversed" q) [e] [] Y] X.env=[(Sq,eval (.Call (.Name "reversed" q) [e] [] Y) X.env)]:=by rfl) (J:SY [e] X.env=[(Sq,eval e X.env)]:=by rfl):
  PE X (.Call (.Name "list" p) [.Call (.Name "reversed" q) [e] [] Y] [] p1) (xz X.K Z):=by
 intro g s v H Q I h;refine Uu (kW I C A AC ?_);refine Us ?_ L rfl;rw[L];show wpAny _ _ (spliced ((Sq,eval (.Call (.Name "reversed" q) [e] [] Y) X.env)::[])) _ _ s;refine Calls.spliced_cons ?_;refine Uu (kW I B y AX ?_);refine Us ?_ J rfl;rw[J];show wpAny _ _ (spliced ((Sq,eval e X.env)::[])) _ _ s;refine Calls.spliced_cons (cz (U g s v H _ I h) fun u f ⟨x,t,m,N,a,xs,ex,S,O⟩=>Calls.spliced_nil ?_);subst ex;obtain rfl:u=Sh.ref a:=N;obtain⟨i,rv,pl,G⟩:=m.list S;have w:=pl.isList;refine call_reversed_list w (Calls.spliced_nil ?_);have R:a<f.heap.objs.size:=by obtain⟨o,e,_⟩:=w;exact Heap.lt_size e
 have n:Inv X g v t {f with heap:=f.heap.push (revObj a ((i.toArray.size:Int) - 1))}:=m.kept (t':=f.toks) fun b o e=>Heap.get?_push_of_some _ e;have j:i.toArray.size<=SD:=by rw[SE,<-rv.length];exact G
 refine L10R.ack (r:=f.heap.objs.size) (l:=a) (items:=i.toArray) (m.ok.hd hc) (S1 R) (w.at fun o e=>Heap.get?_push_of_some _ e) ⟨_,Heap.get?_push_size _ rfl,rfl,rfl⟩ j fun h' F E c T hL hi=> ?_;obtain⟨f0,f1,M,f3,f4,f5⟩:=m.aax (Sw f.heap.objs.size) (m.T9.fresh (Sw _));have I3:Inv X g v t {f with heap:=h',toks:=F}:=Inv.turned (s:={f with heap:=f.heap.push (revObj a ((i.toArray.size:Int) - 1))}) (t':=F) (it:=f.heap.objs.size) n (fun b o hb e=>T b o hb e) f0 f1 f3 f4 f5;have ea:=Da hi;have hn:t (f.heap.push (revObj a ((i.toArray.size:Int) - 1))).objs.size=Sg:=n.T9.fresh (Sw _);refine⟨.ref (f.heap.push (revObj a ((i.toArray.size:Int) - 1))).objs.size,_,?_,rfl,O _ hn⟩;have M:=n.aax (H':=t) (Sw (f.heap.push (revObj a ((i.toArray.size:Int) - 1))).objs.size) hn;have P:X.s₀.heap.get? (f.heap.push (revObj a ((i.toArray.size:Int) - 1))).objs.size=Sg:=by
  cases z:X.s₀.heap.get? (f.heap.push (revObj a ((i.toArray.size:Int) - 1))).objs.size with
  |none=>rfl
  |some o=>exact absurd (SX (Heap.lt_size z) n.sz) (Ul _)
 refine EU I3 M P ⟨by rw[Yl];exact G,E.toList,c,by rw[ea];exact Dl rv,by rw[aaQ];exact hL⟩
end
end L2
namespace L10
open PySem PySem.Spec PyProof.Rows L2 L3
end L10
namespace L9
open PySem PySem.Spec PyProof.Rows L2 L3 L4
end L9
namespace L2
open PySem PySem.Spec PyProof.Rows
end L2
namespace L3
open PySem L2
end L3
namespace L10
open PySem PySem.Spec PyProof.Rows L2 L3
section
variable {B O O':cc} {K:Ld} {E:XK} {H H' U H2:Hp} {α α' Y α2:List So} {Z Z' Z1 X:aV} {σ:L2.St} {ρ:bf} {v:V}
def Bq (fa:dH):dH:=fun ρ Z=>(fa ρ Z).bind fun x Z1=>(RS.TB Z1 (io Z1 x)).bind fun p X=> .ok (.rf X.length) (X++[.lst p.2.reverse])
theorem Nw {a:Type} {R:V->a->Prop} {vs:List V} {xs:List a} (h:Paired R vs xs):Paired R vs.reverse xs.reverse:=by
 induction h with
 |nil=>exact .nil
 |cons h t b=>rw[VZ,VZ];exact wK b h
theorem Fs {h:TE} {fe:dH} (o:cZ K E h fe):cZ K E (xz K h) (Bq fe):=by intro B σ H α Z ρ Q s m w;refine o B σ H α Z ρ _ s m (w.bind.imp fun x Y Z1 U y b f u n=> ?_);obtain⟨⟨i,xs⟩,q,f⟩:=WS.TB f;obtain⟨t,a,vs,ha,rfl,r,p⟩:=wX b n q;refine⟨a,vs,rfl,Xa.of r,fun l g=> ?_⟩;have j:Uw U (bx U l (.lst vs.reverse)):=b4 g _;have e:UD Y Z1 U (Y++[l]) (Z1++[.lst xs.reverse]) (bx U l (.lst vs.reverse)):=UD.ZA b.len j g;exact f _ _ e (b.ZA j g (by rw[aG];simp) ⟨_,aG,Paired.WK (Nw p) fun _ _ d=>d.Vh e⟩) _ ⟨l,by rw[<-b.len];exact bc,rfl⟩
theorem Jo {i:Nat} {fa:dH} {xs:List SV} (h:fa ρ Z= .ok (.rf i) Z1) (a:Z1[i]? =lD (.lst xs)):Bq fa ρ Z= .ok (.rf Z1.length) (Z1++[.lst xs.reverse]):=by
 have b:io Z1 (.rf i)=lD (i,xs):=by unfold io;dsimp only;rw[a]
 unfold Bq;rw[h,RS.bind_ok,b];rfl
theorem Ou {i:Nat} {f:D->D->Option RV} {fe:dH} {x y:SV} {z:SV} {Z3:aV} (a:ρ[i]? =lD (lD x)) (e:fe ρ Z= .ok y Z1) (b:rC f x y Z1= .ok z X):Hm i f fe ρ Z= .ok (.nx (ρ.set i (lD z))) X:=by unfold Hm;rw[bv a,RS.bind_ok,e,RS.bind_ok,b,RS.bind_ok]
end
end L10
namespace L4
open PySem PySem.Spec PyProof.Rows L2 L3
def Qt (X:Cx) (st:List UL) (b:L2.St) (t:TS):Prop:=∀(a:List (So×Obj)) (s:Sr) (H:Hp) (D:Ends),L2.Inv X a b H s->t D b H->wpAny (model X.prog X.w) X.A (execs st X.env) (SP X a D) X.xe s
def qu (X:Cx) (b:L2.St) (E2:XK):Sh->Sr->Prop:=fun x a=>∃H1 e c dx a0 T,x= .ref e/\L2.Inv X [] b H1 a/\HV a.heap e c dx a0 (lD T)/\Apart X e/\Apart X T/\H1 e=Sg/\H1 T=Sg/\E2 c dx H1
end L4
namespace L3
open PySem L2
end L3
namespace LD
open PySem PyProof.Rows L2 L3
def sQ (xs:List (KD×So×V)) (k:KD):Option V:=(xs.find? fun x=>decide (x.1=k)).map (·.2.2)
def rm (xs:List (KD×So×V)) (k:KD) (b:So) (v:V):List (KD×So×V):=
 if(xs.find? fun x=>decide (x.1=k)).isSome=Si then xs.map (fun x=>if x.1=k then(x.1,x.2.1,v) else x) else xs++[(k,b,v)]
abbrev RX:List (KD×So×V)->List (KD×So×Sh)->Prop:=Paired fun x y=>x.1=y.1/\x.2.1=y.2.1/\RelV x.2.2 y.2.2
theorem wT:∀{xs:List (KD×So×V)} {ys:List (KD×So×Sh)},RX xs ys->xs.map (·.1)=ys.map (·.1)
 |_,_,.nil=>rfl
 |_,_,.cons h t=>by rw[SN,SN,h.1,wT t]
theorem zH:∀{xs:List (KD×So×V)} {ys:List (KD×So×Sh)},RX xs ys->WJ (sQ xs k) ((atKey ys k).map (·.2))
 |_,_,.nil=>by unfold sQ atKey;exact trivial
 |x::xs,y::ys,.cons h t=>by
  unfold sQ atKey;rw[Tu,Tu,h.1];by_cases e:y.1=k
  .rw[decide_eq_true e];exact h.2.2
  .rw[decide_eq_false e];exact zH t
theorem CK:∀{xs:List (KD×So×V)} {ys:List (KD×So×Sh)},RX xs ys->(xs.find? fun x=>decide (x.1=k)).isSome=(atKey ys k).isSome
 |_,_,.nil=>rfl
 |x::xs,y::ys,.cons h t=>by
  unfold atKey;rw[Tu,Tu,h.1];by_cases e:y.1=k
  .rw[decide_eq_true e];rfl
  .rw[decide_eq_false e];exact CK t
theorem Hd (r:RelV v u):∀{xs:List (KD×So×V)} {ys:List (KD×So×Sh)},RX xs ys->RX (xs.map fun x=>if x.1=k then(x.1,x.2.1,v) else x) (ys.map (putAt k u))
 |_,_,.nil=> .nil
 |x::xs,y::ys,.cons h t=>by
  rw[SN,SN];refine .cons ?_ (Hd r t);unfold putAt;by_cases e:y.1=k
  .rw[if_pos (h.1.trans e),if_pos e];exact⟨h.1,h.2.1,r⟩
  .rw[if_neg (by rw[h.1];exact e),if_neg e];exact h
theorem AY (h:x.1=y.1/\x.2.1=y.2.1/\RelV x.2.2 y.2.2):∀{xs:List (KD×So×V)} {ys:List (KD×So×Sh)},RX xs ys->RX (xs++[x]) (ys++[y])
 |_,_,.nil=> .cons h .nil
 |_,_,.cons g t=> .cons g (AY h t)
theorem Os (r:RelV v u) (h:RX xs ys):RX (rm xs k b v) (storedH ys k b u):=by
 unfold rm storedH;rw[CK h];split
 .exact Hd r h
 .exact AY ⟨rfl,rfl,r⟩ h
theorem xS (xs:List (KD×So×V)) (k:KD) (b:So) (v:V):(rm xs k b v).length<=xs.length+1:=by
 unfold rm;split
 .rw[Sj];omega
 .rw[Su];exact Sw _
def xK (K:Ld) (H:Hp) (xs:List (KD×So×V)):Prop:=∀x∈xs,L2.DV K H (.ref x.2.1) x.1.1
section
variable {X:Cx} {Z:List (So×Obj)} {Y:L2.St} {H:Hp} {s:Sr} {a b:So} {xs:List (KD×So×V)} {k:KD} {v:V} {u r:Sh} {A:Tc} {E:Sh->Sr->Prop}
theorem LJ:∀{xs:List (KD×So×V)} {es:List V5},Paired (fun(x:KD×So×V) (e:V5)=>e.hash=sC w x.1.1/\e.key= .ref x.2.1/\RelV x.2.2 e.val) xs es->∃ys,RX xs ys/\es=ys.map (entryOfKey (ie P w))
 |_,_,.nil=>⟨[],.nil,rfl⟩
 |x::_,e::_,.cons ⟨h1,h2,h3⟩ t=>by obtain⟨ys,g,f⟩:=LJ t;refine⟨(x.1,x.2.1,e.val)::ys,.cons ⟨rfl,rfl,h3⟩ g,?_⟩;rw[SN,<-f];obtain⟨i,h,ev⟩:=e;dsimp only at h1 h2;subst h1 h2;rfl
theorem K3:∀{xs:List (KD×So×V)} {ys:List (KD×So×Sh)},RX xs ys->Paired (fun(x:KD×So×V) (e:V5)=>e.hash=sC w x.1.1/\e.key= .ref x.2.1/\RelV x.2.2 e.val) xs (ys.map (entryOfKey (ie P w)))
 |_,_,.nil=> .nil
 |_,_,.cons h t=> .cons ⟨by rw[h.1];rfl,by rw[h.2.1];rfl,h.2.2⟩ (K3 t)
theorem wf (I:L2.Inv X Z Y H s) (h:L2.DV X.K H (.ref b) k.1):(ie X.prog X.w).is s.heap k b:=L2.DV.reads I h rfl
theorem Fh (I:L2.Inv X Z Y H s) (e:H a=lD (DkO a xs)) (j:xK X.K H xs):xs.length<=SD/\(a==UK)=Sq/\∃ys,RX xs ys/\s.heap.DictOfH (ie X.prog X.w) a ys:=by
 obtain⟨⟨⟨z,n,nd⟩,o,L,M,G,F,C,B⟩,_⟩:=(show ObjOk X.prog X.w H s.heap a (DkO a xs) from I.T9 a _ e);obtain⟨ys,h,J⟩:=LJ B;refine⟨z,n,ys,h,o,L,M,G,F,C,J,?_,by rw[<-wT h];exact nd⟩;have all:∀{l:List (KD×So×V)} {m:List (KD×So×Sh)},RX l m->(∀x∈l,L2.DV X.K H (.ref x.2.1) x.1.1)->∀y∈m,(ie X.prog X.w).is s.heap y.1 y.2.1:=by
  intro l m q
  induction q with
  |nil=>intro _ y f;exact nomatch f
  | @cons p q ps qs hq t ih=>
   intro g y f;rcases SS.mp f with e|f
   .subst e;have:=wf I (g p (Sv ..));rw[hq.1,hq.2.1] at this;exact this
   .exact ih (fun x i=>g x (Sy _ i)) y f
 exact all h j
theorem FM (z:xs.length<=SD) (hd:(a==UK)=Sq) (e:RX xs ys) (dd:h'.DictOfH (ie P w) a ys):ObjOk P w H' h' a (DkO a xs):=by obtain⟨o,f,g,h,n,m,l,y,j⟩:=dd;refine⟨⟨⟨z,hd,by rw[wT e];exact j⟩,o,f,g,h,n,m,by rw[l];exact K3 e⟩,⟨o,h⟩,?_⟩;rintro C B ⟨q,o,f,g,t,p⟩ i;exact⟨q,o,f,g,i o t,p⟩
theorem xg (e:A.units+64<cLine):(ie X.prog X.w).room A.in1:=by show A.in1.units+8<cLine;rw[Tc.in1_units];omega
theorem NL (m:A.units+64<cLine) (I:L2.Inv X Z Y H s) (e:H a=lD (DkO a xs)) (o:xK X.K H xs) (q:L2.DV X.K H (.ref b) k.1) (g:sQ xs k=lD v) (h:∀w' s',L2.Inv X Z Y H s'->RelV v w'->Q w' s'):
  wpAny (model X.prog X.w) A (getItem (.ref a) (.ref b)) Q E s:=by
 obtain⟨z,y,t,i,dd⟩:=Fh I e o;obtain⟨w',l,f⟩:=WJ.some_of (by rw[<-g];exact zH i);obtain⟨p,n,j⟩:=aac.mp l;refine adK (xg m) (wf I q) dd n ?_;rw[j];exact h w' _ (I.tok _) f
theorem Oc (g:A.units+64<cLine) (I:L2.Inv X Z Y H s) (e:H a=lD (DkO a xs)) (i:xK X.K H xs) (l:L2.DV X.K H (.ref b) k.1) (h:∀s',L2.Inv X Z Y H s'->Q (.bool (!(sQ xs k).isSome)) s'):
  wpAny (model X.prog X.w) A (Up .NotIn (.ref b) (.ref a)) Q E s:=by
 obtain⟨z,j,m,f,dd⟩:=Fh I e i;refine wpAny_notIn_heap (xg g) (wf I l) j dd ?_;have q:=(zH (k:=k) f).XN;rw[Yz] at q;rw[<-q];exact h _ (I.tok _)
theorem MQ (m:A.units+64<cLine) (I:L2.Inv X Z Y H s) (e:H a=lD (DkO a xs)) (o:xK X.K H xs) (y:L2.DV X.K H (.ref b) k.1) (rv:RelV v r) (C:xs.length<SD) (h:∀s',L2.Inv X Z Y (bx H a (DkO a (rm xs k b v))) s'->Q () s'):
  wpAny (model X.prog X.w) A (setItem (.ref a) (.ref b) r) Q E s:=by
 obtain⟨z,t,j,f,dd⟩:=Fh I e o;have l:j.length<=SD:=by rw[<-Paired.length f];exact z
 have i:(rm xs k b v).length<=SD:=by have:=xS xs k b v;omega
 refine adL (hsz:=l) (xg m) (wf I y) dd fun B g n=>h _ ?_;have p:∃q,B.get? a=lD q:=let⟨q,_,_,hq,_⟩:=g;⟨q,hq⟩
 exact qv I (by rw[e];exact True.intro) n p (FM i t (Os rv f) g)
theorem KJ (I:L2.Inv X Z Y H s) (e:H a=lD (DkO a xs)):s.TypeIs (.ref a) "dict"/\(∀b,Sh.ref a= .ref b->∃ob,s.heap.get? b=lD ob/\ob.dict=Sg)/\(a==UK)=Sq:=by obtain⟨⟨⟨z,h,nd⟩,o,l,m,g,f,j,i⟩,_⟩:=(show ObjOk X.prog X.w H s.heap a (DkO a xs) from I.T9 a _ e);refine⟨⟨o,g,f.1⟩,fun b q=> ?_,h⟩;cases q;exact⟨o,g,f.2.1⟩
end
section
variable (K:Ld)
def LZ (neg:Bool) (ty g:TE):TE:=fun f H Q=>ty f H fun y h=>g f h fun x e=>∃a b xs k,x= .ref a/\y= .ref b/\e a=lD (DkO a xs)/\xK K e xs/\L2.DV K e (.ref b) k.1/\Q (.bl ((sQ xs k).isSome !=neg)) e
def Gp (g ty:TE):TE:=fun f H Q=>g f H fun x h=>ty f h fun y e=>∃a b xs k v,x= .ref a/\y= .ref b/\e a=lD (DkO a xs)/\xK K e xs/\L2.DV K e (.ref b) k.1/\sQ xs k=lD v/\Q v e
def FB (h ty g:TE):TS:=fun D e H=>g e H fun v j=>h e j fun x i=>ty e i fun y f=>∃a b xs k,x= .ref a/\y= .ref b/\f a=lD (DkO a xs)/\xK K f xs/\L2.DV K f (.ref b) k.1/\xs.length<SD/\D.nx e (bx f a (DkO a (rm xs k b v)))
def EG:TE:=fun _ H Q=>∀p,H p=Sg->Q (.ref p) (bx H p (DkO p []))
end
section
variable {X:Cx} {o i e f Z:TF} {T U tx tv:TE} {pos Y apos VQ:Pos}
theorem aav (v:X.A.units+64<cLine) (hi:PE X i U) (w:PE X o T):PC X .NotIn i o (LZ X.K Si U T):=by intro g s j H Q I h;refine cz (hi g s j H _ I h) fun O m ⟨y,L,G,n,q⟩=>cz (w g m j L _ G q) fun u N ⟨x,J,F,p,a,b,xs,k,C,B,e,r,t,l⟩=> ?_;subst C B;obtain rfl:=p;obtain rfl:=n;rw[Bool.bne_true] at l;exact Oc v F e r t fun M E=>⟨.bl _,J,E,rfl,l⟩
theorem aao (E:X.A.units+64<cLine) (G:PE X o T) (hi:PE X i U) (F:Nj i):PE X (.Subscript o i pos) (Gp X.K T U):=by intro j s m H Q I h;refine CS Zo.lookup F (cz (G j s m H _ I h) fun u p ⟨x,P,N,r,w⟩=>cz (hi j p m P _ N w) fun iv s2 ⟨y,O,n,q,a,b,xs,k,v,L,J,e,B,C,g,t⟩=> ?_);subst L J;obtain rfl:=r;obtain rfl:=q;exact⟨(KJ n e).1,NL E n e B C g fun R S M l=>⟨v,O,M,l,t⟩⟩
theorem ach (F:X.A.units+64<cLine) (J:PE X o T) (hi:PE X i U) (E:PE X Z tv) (G:Uk Z (lD (.Subscript o i Y)) pos.line X.env=pure Sq):
  PS X (.Assign [.Subscript o i Y] Z pos) (FB X.K T U tv):=by
 intro g s j H D I h;refine ab2 (cz (E g s j H _ I h) fun r m ⟨v,H1,R,rv,w⟩=>cz (J g m j H1 _ R w) fun u l ⟨x,S,Q,p,t⟩=>cz (hi g l j S _ Q t) fun iv s3 ⟨y,H3,P,n,a,b,xs,k,N,M,e,B,C,L,q⟩=> ?_) G;subst N M;obtain rfl:=p;obtain rfl:=n;exact MQ F P e B C rv L fun s4 O=>⟨j,_,O,q⟩
theorem acF:PE X (.Dict [] [] pos) EG:=fun a s b H Q I h=>
 wpAny_Dict_empty ⟨.ref s.heap.objs.size,_,I.laid (fun _ _ q=>Heap.get?_push_of_some _ q) (Sw _) (FM (Th _) (beq_eq_false_iff_ne.mpr (Ne.symm (S1 I.big))) .nil (Heap.DictOfH.new s.heap)),rfl,h _ (I.T9.fresh (Sw _))⟩
end
mutual
def OU:Sk->Sk->Option Bool
 | .int i,.int j=>lD (decide (i<j))
 | .str x,.str y=>lD (decide (x.cps.toList<y.cps.toList))
 | .tuple xs,.tuple ys=>OZ xs ys
 |_,_=>Sg
def OZ:List Sk->List Sk->Option Bool
 |[],[]=>lD Sq
 |[],_::_=>lD Si
 |_::_,[]=>lD Sq
 |x::xs,y::ys=>if Sk.eqv x y=Si then OZ xs ys else OU x y
end
end LD
namespace LD
open PySem PyProof.Rows
structure VE (es:List V5) (S4:List (Unit×Sh)):Prop where
 vals:es.map (·.val)=S4.map (·.2)
end LD
namespace LD
open PySem PyProof.Rows L2 L3 L10
end LD
namespace L10
open PySem PyProof.Rows L2 L3 LD
def oW:SV->Option D
 | .fz d=>if keyD d=Si then lD d else Sg
 |_=>Sg
def Ry:SV->Option D
 | .fz d=>lD d
 |_=>Sg
def tF (Z:aV):SV->Option (Nat×List (D×D))
 | .rf i=>match Z[i]? with
  |some (.dd S4)=>lD (i,S4)
  |_=>Sg
 |_=>Sg
def iH (S4:List (D×D)) (k:D):Option D:=(S4.find? fun a=>Sk.eqv a.1 k).map (·.2)
def sZ (S4:List (D×D)) (k v:D):List (D×D):=if(S4.find? fun a=>Sk.eqv a.1 k).isSome=Si then S4.map (fun a=>if Sk.eqv a.1 k=Si then(a.1,v) else a) else S4++[(k,v)]
section
variable {B O O':cc} {K:Ld} {E:XK} {H H' R P:Hp} {X α' U S:List So} {Z Z' Z1 Y:aV} {T:L2.St} {ρ:bf} {v:V} {k:KD}
theorem rA (e:oW x=lD d) (h:VU O K H X v x):∃(k:KD) (b:So),k.1=d/\v= .ref b/\L3.DV O K H (.ref b) d:=by
 cases x with
 |fz z=>
  have e:(if keyD z=Si then lD z else Sg)=lD d:=e;by_cases a:keyD z=Si
  .rw[if_pos a] at e
   cases e;have h:=h;cases d with
   |tuple xs=>cases h with
    |tup g f=>exact⟨⟨_,a⟩,_,rfl,rfl,.tup g f⟩
   |_=>simp[keyD] at a
  .rw[if_neg a] at e;cases e
 |rf i=>cases e
 |tp l=>cases e
theorem EI (s:Td B K H X Z) (b:VU (ow B X Z) K H X v x) (h:tF Z x=lD (i,S4)):Z[i]? =lD (.dd S4)/\∃a xs,X[i]? =lD a/\v= .ref a/\H a=lD (DkO a xs)/\PrD (ow B X Z) K H xs S4:=by
 cases x with
 |fz d=>cases h
 |tp l=>cases h
 |rf j=>
  obtain⟨a,ha,rfl⟩:=b;unfold tF at h;dsimp only at h;cases q:Z[j]? with
  |none=>rw[q] at h;cases h
  |some c=>
   rw[q] at h;cases c with
   |dd m=>have e:=SM h;cases e;obtain⟨ws,g,f⟩:=s.ZL i a _ ha q;exact⟨q,a,ws,ha,rfl,g,f⟩
   |_=>cases h
theorem BR:∀{xs:List (KD×So×V)} {S4:List (D×D)},PrD O K H xs S4->xK K H xs
 |_,_,.nil=>fun _ h=>nomatch h
 |x::xs,kv::S4,.cons h t=>fun y a=>by
  rcases SS.mp a with e|a
  .subst e;rw[h.1];exact h.2.1.plain
  .exact BR t y a
theorem vV {x:KD×So×V} {a:D×D} (h:x.1.1=a.1):decide (x.1=k)=Sk.eqv a.1 k.1:=by
 rw[<-h]
 haveI:Decidable (x.1.1=k.1):=Classical.propDecidable _
 rw[Hw (keyD_kd x.1.2).1 (keyD_kd k.2).1];by_cases e:x.1=k
 .rw[decide_eq_true e,decide_eq_true (congrArg Subtype.val e)]
 .rw[decide_eq_false e,decide_eq_false fun z=>e (Subtype.ext z)]
theorem qZ:∀{xs:List (KD×So×V)} {S4:List (D×D)},PrD O K H xs S4->(∀d,iH S4 k.1=lD d->∃v,sQ xs k=lD v/\L3.DV O K H v d)/\(iH S4 k.1=Sg->sQ xs k=Sg)
 |_,_,.nil=>⟨fun x e=>(by cases e),fun _=>rfl⟩
 |x::xs,kv::S4,.cons h t=>by
  unfold iH sQ;rw[Tu,Tu,vV h.1];cases Sk.eqv kv.1 k.1 with
  |true=>exact⟨fun d e=>⟨x.2.2,rfl,by cases e;exact h.2.2⟩,fun e=>by cases e⟩
  |false=>exact qZ t
theorem Ax (h:PrD O K H xs S4):(sQ xs k).isSome=(iH S4 k.1).isSome:=by
 obtain⟨b,a⟩:=qZ h;cases q:iH S4 k.1 with
 |none=>rw[a q];rfl
 |some x=>obtain⟨u,e,_⟩:=b x q;rw[e];rfl
theorem ES:∀{xs:List (KD×So×V)} {S4:List (D×D)},PrD O K H xs S4->(xs.find? fun x=>decide (x.1=k)).isSome=(S4.find? fun kv=>Sk.eqv kv.1 k.1).isSome
 |_,_,.nil=>rfl
 |x::xs,kv::S4,.cons h t=>by
  rw[Tu,Tu,vV h.1];cases Sk.eqv kv.1 k.1 with
  |true=>rfl
  |false=>exact ES t
theorem La (a:L3.DV O K H v d):∀{xs:List (KD×So×V)} {S4:List (D×D)},PrD O K H xs S4->PrD O K H (xs.map fun x=>if x.1=k then(x.1,x.2.1,v) else x) (S4.map fun kv=>if Sk.eqv kv.1 k.1=Si then(kv.1,d) else kv)
 |_,_,.nil=> .nil
 |x::xs,kv::S4,.cons h t=>by
  rw[SN,SN];refine .cons ?_ (La a t);have e:=vV (k:=k) h.1;by_cases z:x.1=k
  .rw[if_pos z,if_pos (by rw[<-e];exact decide_eq_true z)];exact⟨h.1,h.2.1,a⟩
  .rw[if_neg z,if_neg (by rw[<-e,decide_eq_false z];simp)];exact h
theorem xn (r:x.1.1=kv.1/\L3.DV O K H (.ref x.2.1) kv.1/\L3.DV O K H x.2.2 kv.2):∀{xs:List (KD×So×V)} {S4:List (D×D)},PrD O K H xs S4->PrD O K H (xs++[x]) (S4++[kv])
 |_,_,.nil=> .cons r .nil
 |_,_,.cons g t=> .cons g (xn r t)
theorem Hf (e:L3.DV O K H (.ref b) k.1) (a:L3.DV O K H v d) (h:PrD O K H xs S4):PrD O K H (rm xs k b v) (sZ S4 k.1 d):=by
 unfold rm sZ;rw[ES h];split
 .exact La a h
 .exact xn ⟨rfl,e,a⟩ h
theorem MN (e:Ev O H O' H') (h:PrD O K H xs S4):PrD O' K H' xs S4:=Paired.WK h fun _ _ q=>⟨q.1,q.2.1.ev e,q.2.2.ev e⟩
def xO (neg:Bool) (a fd:dH):dH:=fun ρ Z=>(a ρ Z).bind fun x Z1=>(fd ρ Z1).bind fun o Y=>(RS.TB Y (oW x)).bind fun k Y=>(RS.TB Y (tF Y o)).bind fun p Y=> .ok (.fz (.bool ((iH p.2 k).isSome !=neg))) Y
theorem xI (r:cZ K E tk fk) (hd:cZ K E td fd):cZ K E (LZ K neg tk td) (xO neg fk fd):=by intro B T H X Z ρ Q s f w;refine r B T H X Z ρ _ s f (w.bind.imp fun x U Z1 R C l j v p=> ?_);refine hd B T R U Z1 ρ _ l (f.Vh C) (j.bind.imp fun o S Y P A g e u q=> ?_);obtain⟨d,n,e⟩:=WS.TB e;obtain⟨⟨i,S4⟩,m,e⟩:=WS.TB e;obtain⟨_,a,xs,ha,rfl,y,h⟩:=EI g q m;obtain⟨k,b,rfl,rfl,t⟩:=rA n (p.Vh A);refine⟨a,b,xs,k,rfl,rfl,y,BR h,t.plain,?_⟩;rw[Ax h];exact WS.now g e _ (.bl _)
def l7 (fd a:dH):dH:=fun ρ Z=>(fd ρ Z).bind fun o Z1=>(a ρ Z1).bind fun x Y=>(RS.TB Y (oW x)).bind fun k Y=>(RS.TB Y (tF Y o)).bind fun p Y=>(RS.TB Y (iH p.2 k)).bind fun d Y=> .ok (.fz d) Y
theorem t6 (hd:cZ K E td fd) (C:cZ K E tk fk):cZ K E (Gp K td tk) (l7 fd fk):=by intro B T H X Z ρ Q s f w;refine hd B T H X Z ρ _ s f (w.bind.imp fun o U Z1 R J m j u A=> ?_);refine C B T R U Z1 ρ _ m (f.Vh J) (j.bind.imp fun x S Y P I g e v t=> ?_);obtain⟨d,q,e⟩:=WS.TB e;obtain⟨⟨i,S4⟩,p,e⟩:=WS.TB e;obtain⟨_,a,xs,ha,rfl,G,h⟩:=EI g (A.Vh I) p;obtain⟨k,b,rfl,rfl,F⟩:=rA q t;obtain⟨y,n,e⟩:=WS.TB e;obtain⟨z,r,l⟩:=(qZ h).1 y n;exact⟨a,b,xs,k,z,rfl,rfl,G,BR h,F.plain,r,WS.now g e z l⟩
def wY (fd e b:dH):eP:=fun ρ Z=>(b ρ Z).bind fun y Z1=>(fd ρ Z1).bind fun o Y=>(e ρ Y).bind fun x a=>(RS.TB a (oW x)).bind fun k a=>(RS.TB a (tF a o)).bind fun p a=>(RS.TB a (Ry y)).bind fun d a=>if p.2.length<1000000 then .ok (.nx ρ) (a.set p.1 (.dd (sZ p.2 k d))) else .bad
theorem NH (e:Ry x=lD d) (h:VU O K H X v x):L3.DV O K H v d:=by
 cases x with
 |fz z=>cases e;exact h
 |rf i=>cases e
 |tp l=>cases e
theorem Dr (hd:cZ K E td fd) (hk:cZ K E tk fk) (hv:cZ K E tv fv):mE K E (FB K td tk tv) (wY fd fk fv):=by
 intro B T H X Z ρ D s g w;refine hv B T H X Z ρ _ s g (WS.imp (WS.bind w) fun y U Z1 R r L I t m=> ?_);refine hd B T R U Z1 ρ _ L (g.Vh r) (WS.imp (WS.bind I) fun o S Y P q J G u hu=> ?_);refine hk B T P S Y ρ _ J (g.Vh (r.trans q)) (WS.imp (WS.bind G) fun x e h j p A f z hz=> ?_);obtain⟨kd,Q,f⟩:=WS.TB f;obtain⟨⟨i,S4⟩,N,f⟩:=WS.TB f;obtain⟨d,M,f⟩:=WS.TB f;obtain⟨l,a,xs,ha,rfl,g1,n⟩:=EI A (hu.Vh p) N;obtain⟨k,b,rfl,rfl,C⟩:=rA Q hz;have hy:=NH M (m.Vh (q.trans p));dsimp only at f;by_cases hn:S4.length<1000000
 .rw[if_pos hn] at f;have ev:Ev (ow B e h) j (ow B e h) (bx j a (DkO a (rm xs k b t))):=rG ha l (by intro z;cases z);have F:UD e h j e (h.set i (.dd (sZ S4 k.1 d))) (bx j a (DkO a (rm xs k b t))):=UD.put ha l (by intro z;cases z) (by intro z;cases z);have hl:=Paired.length n;refine⟨a,b,xs,k,rfl,rfl,g1,BR n,C.plain,uq (by omega),?_⟩;exact f e _ F (A.put ha l (by intro z;cases z) (by intro z;cases z) ⟨_,aG,Hf (C.ev ev) (hy.ev ev) (MN ev n)⟩) T ((g.Vh (r.trans (q.trans p))).Vh F)
 .rw[if_neg hn] at f;exact f.elim
def Aw:dH:=fun _ Z=> .ok (.rf Z.length) (Z++[.dd []])
theorem DJ:cZ K E EG Aw:=by intro B T H X Z ρ Q s b w;exact fun p a=>nG s a w fun _=>⟨[],aG,.nil⟩
end
end L10
namespace PySem
open Sem (wp)
namespace F
end F
end PySem
namespace PySem
open Sem (wp)
open PyProof.Rows
end PySem
namespace L10
open PySem PySem.Spec PyProof.Rows L2 L3
end L10
namespace PySem
open Sem (wp)
open PyProof.Rows
end PySem
namespace L10
open PySem PySem.Spec PyProof.Rows L2 L3 LD
end L10
namespace L10
open PySem PyProof.Rows L2 L3 LD
end L10
namespace L10
open PySem PyProof.Rows L2 L3
end L10
namespace L3
open PySem PyProof.Rows L2
structure ZC (K:Ld) (x qual:Str) (st:UL) (f:So) (fd:TL) (T:So) (Tt:Array Sh):Prop where
 ex:∃(oc:Sh) (od:Option So) (kV doc pm:Sh) (an:Option So) (Ug ct:Sh) (osl:Array (Option Sh)),
  fd=Ui x qual (fG st) (cg st) (az st) (.ref T) kV doc pm an Ug ct/\K.lookup f=lD ⟨oc,od,.func fd,osl⟩/\Ws K Ug qual=Si
 kp:Uq K (.ref f)=Si
 tp:∃o n,K.lookup T=lD o/\o.data= .seq Tt n
section
variable {P:S0} {w:Tn} {K:Ld} {mg:Str->Option Sh} {base:Heap} {x Z:Str} {st:UL} {f:So} {fd:TL} {T:So} {Tt:Array Sh} {N ps:List Str} {k n m:Nat} {sp:Sp} {ds:List Sh}
theorem ZC.binds (F:ZC K x Z st f fd T Tt)
  (h:∀(kV a b:Sh) (e:Option So) (g ct:Sh) (us:List Sh),(us++ds).length=ps.length->∃k:Option (Array Sh)->Sem (List (Str×Sh)),bindArgs (Ui x Z (fG st) (cg st) (az st) (.ref T) kV a b e g ct) ⟨us,[]⟩=seqItems? (.ref T)>>=k/\k (lD Tt)=pure (ps.zip (us++ds))):Binds K fd ps ds:=by
 obtain⟨v,u,kV,a,b,e,g,ct,i,rfl,y,l⟩:=F.ex;obtain⟨o,n,q,p⟩:=F.tp;intro s us X j;obtain⟨k,t,r⟩:=h kV a b e g ct us j;exact X5.of_defaults (fd:=Ui x Z (fG st) (cg st) (az st) (.ref T) kV a b e g ct) rfl (X _ _ q) p t r
def mn (P:S0) (w:Tn) (K:Ld) (mg:Str->Option Sh) (base:Heap) (a:wg) (k:Nat) (x:Str) (ps:List Str) (dvs:List V) (sp:Sp):Prop:=
 ∃(f:So) (fd:TL) (ds:List Sh),FnOk P w K mg base a k f fd ps sp/\Binds K fd ps ds/\Vals dvs ds/\Uq K (.ref f)=Si/\mg x=lD (.ref f)
theorem mL (C:mn X.prog X.w X.K X.mg X.base CX k x ps dvs sp) (i:UP j X.A) (h:gc CX X E) (ha:PA X (e::es) t) (a:k<=j:=by decide) (l:Gl X x:=by rfl)
  (q:(x==("__debug__":Str))=Sq:=by decide) (o:SY (e::es) X.env=(Sq,eval e X.env)::SY es X.env:=by rfl) (r:(backTo pos (SY es X.env)).any (·.1)=Sq:=by rfl):
  PE X (.Call (.Name x p) (e::es) [] pos) (jX sp dvs E t):=by
 obtain⟨f,fd,ds,F,b,v,g,m⟩:=C;exact A7 F (i.mono a) l m g b v h ha q o r
end
end L3
namespace L10
open PySem PyProof.Rows L2 L3
section
variable {P:S0} {w:Tn} {K:Ld} {mg:Str->Option Sh} {base:Heap} {x Z:Str} {st:UL} {f:So} {fd:TL} {T:So} {Tt:Array Sh} {N ps:List Str} {k n m:Nat} {g:eP} {FF:iA}
theorem PX (F:ZC K x Z st f fd T Tt) (S:Vc N ps (az st)) (hn:ps.length=n) (hm:N.length=m) (q:FF=cU m g)
  (u:∀(a:Sh) (A:Tc) (outer:List Env) (s:Sr) (H:Hp) (E:XK),UP k (A.deeper (S3 Z (az st) s.heap.objs.size f a))->
   ∃t,YM (gb (L4.jw P w) P w K mg base N Z (az st) f a A outer s H E) (cg st) t/\mE K E t g):FnOk P w K mg base (L4.jw P w) (k+1) f fd ps (db K n FF):=by
 subst q hm;obtain⟨B,y,kV,r,v,C,a,ct,i,rfl,j,e⟩:=F.ex;refine FV j e S (fun vs H Q E h=>h.1.trans hn.symm) fun A outer s H vs Q E p b=> ?_;obtain⟨t,l,o⟩:=u a A outer s H E p;exact⟨t,l,zq (xs:=[]) o b⟩
end
section
variable {K:Ld} {E:XK}
def za (F:iA) (n:Nat) (es:List D) (fa:uS):dH:=fun ρ Z=>(fa ρ Z).bind fun xs a=>if(xs++es.map SV.fz).length=n then F (xs++es.map SV.fz) a else .bad
theorem zU:∀{vs ws:List V} {xs ys:List SV},Vr O K H α vs xs->Vr O K H α ws ys->Vr O K H α (vs++ws) (xs++ys)
 |_,_,_,_,.nil,h=>h
 |_,_,_,_,.cons a t,h=> .cons a (zU t h)
theorem uA (hd:∀O H,L3.Ur O K H dvs es) (ha:vJ K E ta fa):cZ K E (jX (db K n F) dvs E ta) (za F n es fa):=by
 intro B g H α Z ρ Q s h w;refine ha B g H α Z ρ _ s h (w.bind.imp fun xs a f l m i e vs j=> ?_);by_cases hn:(xs++es.map SV.fz).length=n
 .rw[if_pos hn] at e;have b:=zU j (jG (ow B a f) a (hd (ow B a f) l));exact⟨b.length.trans hn,B,a,f,_,i,b,e⟩
 .rw[if_neg hn] at e;exact e.elim
end
end L10
namespace L4
open PySem PyProof.Rows L2 L3
end L4
namespace L2
open PySem PySem.Spec PyProof.Rows
end L2
namespace L4
open PySem PyProof.Rows L2 L3
end L4
namespace L2
open PySem PySem.Spec PyProof.Rows
end L2
namespace L10
open PySem PyProof.Rows L2 L3
end L10
namespace L3
open PySem L2
section
variable {P:S0} {w:Tn} {K:Ld} {mg:Str->Option Sh} {base h:Heap} {f C:So} {n m q:Str} {t:UL} {ps fs:List Str} {Z k:Nat} {sp sp':Sp} {Y:wg}
theorem MI.afw (i:MI K C f m q t) (c:CI K C n fs) (b:BA m q t ps) (ok:∀fd,VT K m q t f fd->FnOk P w K mg base Y Z f fd ps sp):L10.bW P w K mg base Y Z n m ps sp:=
 let⟨fd,z⟩:=i.F;⟨C,f,fd,c.a,c.cls,⟨i.a,i.i,z.kp⟩,ok fd z,z.binds b⟩
theorem MI.ai3 (i:MI K C f "__init__" q t) (c:CI K C n fs) (X:K.In h) (G:h.Ns SK mg) (b:BA "__init__" q t ps) (ok:∀fd,VT K "__init__" q t f fd->FnOk P w K mg base Y Z f fd ps sp):L10.yw P w K mg base Y Z n ps sp:=
 let⟨fd,z⟩:=i.F;⟨C,f,fd,c.a,Uy X G c.a,⟨c.mm,i.a,i.i,c.kc⟩,ok fd z,z.binds b⟩
end
end L3
namespace L10
open PySem PySem.Spec PyProof.Rows L2 L3
section
variable {B O O':cc} {K:Ld} {E:XK} {H H' X H2:Hp} {α α' Y α2:List So} {Z Z' Z1 Z2:aV} {σ:L2.St} {ρ:bf} {v:V}
def pX (c f:Str) (fe:dH):eP:=fun ρ Z=>(fe ρ Z).bind fun x Z1=>match x with
 | .fz d=>if L9.PB d=Si then .er ⟨c,[(f,d)]⟩ Z1 else .bad
 |_=> .bad
theorem AB (M:SU K SK c=lD (lD (.ref C))) (L:cZ K E te fe):mE K E (L9.B0 C (L9.xa C f) E (jo te nk)) (pX c f fe):=by
 intro B σ H α Z ρ D s G w;refine L B σ H α Z ρ _ s G (WS.imp (WS.bind w) fun x Y Z1 X Q I a v h=> ?_)
 match x,h,a with
 | .fz d,h,a=>
  have h:=h;dsimp only at a;by_cases r:L9.PB d=Si
  .rw[if_pos r] at a
   have j:L9.QS v/\∀(O':cc) (H':Hp),L3.DV O' K H' v d:=by
    cases d with
    |none=>cases h;exact⟨.inl rfl,fun _ _=> .UT⟩
    |int i=>cases h;exact⟨.inr ⟨i,rfl,of_decide_eq_true r⟩,fun _ _=> .int i⟩
    |_=>cases r
   refine⟨by show 1<=SD;decide,fun e hn=>⟨e,v,rfl,j.1,aG,fun p F g=>⟨rfl,p,?_,?_⟩⟩⟩
   .rw[ay (Ne.symm g),aG]
   .have u:X p=Sg:=by rw[ay g] at F;exact F
    have A:Uw X (L9.OV (bx (bx (bx X e (.ext (L9.Kv C e))) e (.ext (L9.Pf C e p))) p (.xd [(f,v)])) e):=fun b o z=>by
     have t:b≠e:=fun y=>by rw[y,hn] at z;cases z
     have J:b≠p:=fun y=>by rw[y,u] at z;cases z
     rw[L9.jN t,ay J,ay t,ay t];exact z
    refine a (.ref C) (lD p) Y _ (UD.same A) (I.grow A) ⟨⟨C,rfl,M⟩,[(f,v)],fun P q=> ?_,fun m N l=>⟨(fun z=>nomatch z),?_⟩⟩
    .cases q;rw[L9.jN g,aG]
    .have n:(match m==f with|true=>lD d|false=>U7 m [])=lD N:=l
     cases hb:m==f with
     |true=>rw[hb] at n;cases n;refine⟨v,?_,j.2 _ _⟩;show(match m==f with|true=>lD v|false=>U7 m [])=lD v;rw[hb]
     |false=>rw[hb] at n;cases n
  .rw[if_neg r] at a;exact a.elim
 | .rf _,_,a=>exact a.elim
 | .tp _,_,a=>exact a.elim
end
end L10
namespace L10
open PySem L2 L3
section
variable {P:S0} {w:Tn} {K:Ld} {mg:Str->Option Sh} {base:Heap} {x Z:Str} {st:UL} {f:So} {fd:TL} {T:So} {Tt:Array Sh} {N ps:List Str} {k n m:Nat} {g:eP} {Y:iA}
theorem EN (F:VT K x Z st f fd) (S:Vc N ps (az st)) (hn:ps.length=n) (hm:N.length=m) (e:Y=cU m g)
  (h:∀(a:Sh) (A:Tc) (outer:List Env) (s:Sr) (H:Hp) (E:XK),N.Nodup->UP k (A.deeper (S3 Z (az st) s.heap.objs.size f a))->(A.deeper (S3 Z (az st) s.heap.objs.size f a)).units+64<cLine->(A.deeper (S3 Z (az st) s.heap.objs.size f a)).units+1<cLine->(A.deeper (S3 Z (az st) s.heap.objs.size f a)).units+65<cLine->
   ∃t,YM (gb (L4.jw P w) P w K mg base N Z (az st) f a A outer s H E) (cg st) t/\mE K E t g):FnOk P w K mg base (L4.jw P w) (k+1) f fd ps (db K n Y):=
 Q5 F S hn hm e fun a A outer s H E b=>h a A outer s H E S.nd b b.units (CV b) (BJ b)
theorem Fb (F:ZC K x Z st f fd T Tt) (S:Vc N ps (az st)) (hn:ps.length=n) (hm:N.length=m) (e:Y=cU m g)
  (h:∀(a:Sh) (A:Tc) (outer:List Env) (s:Sr) (H:Hp) (E:XK),N.Nodup->UP k (A.deeper (S3 Z (az st) s.heap.objs.size f a))->(A.deeper (S3 Z (az st) s.heap.objs.size f a)).units+64<cLine->(A.deeper (S3 Z (az st) s.heap.objs.size f a)).units+1<cLine->(A.deeper (S3 Z (az st) s.heap.objs.size f a)).units+65<cLine->
   ∃t,YM (gb (L4.jw P w) P w K mg base N Z (az st) f a A outer s H E) (cg st) t/\mE K E t g):FnOk P w K mg base (L4.jw P w) (k+1) f fd ps (db K n Y):=
 PX F S hn hm e fun a A outer s H E b=>h a A outer s H E S.nd b b.units (CV b) (BJ b)
end
end L10
namespace LD
open PySem PySem.Spec PyProof.Rows L2
end LD
namespace L10
open PySem PyProof.Rows L2 L3 LD
end L10
namespace L3
open PySem L2
theorem zN {X:Cx} {P:S0} {w:Tn}:gc (L4.jw P w) X E0:=fun _ _ _ _ _ _ _ ⟨_,_,_,_,_,_,_,_,_,_,_,_,_,_,_,_,h⟩=>h.elim
end L3
namespace L10
open PySem PyProof.Rows L2 L3
section
variable {B O O':cc} {K:Ld} {E:XK} {H H' H1 H2:Hp} {α α' Y α2:List So} {Z Z' Z1 Z2:aV} {σ:L2.St} {ρ:bf} {v:V}
def n6 (F:iA) (n:Nat) (es:List D) (fa:uS):dH:=fun ρ Z=>(fa ρ Z).bind fun xs Z1=>if(xs++es.map SV.fz).length=n then lL (F (xs++es.map SV.fz) Z1) else .bad
theorem md (hd:∀O H,L3.Ur O K H dvs es) (ha:vJ K E ta fa):cZ K E (jX (db K n F) dvs E0 ta) (n6 F n es fa):=by
 intro B σ H α Z ρ Q s e w;refine ha B σ H α Z ρ _ s e (w.bind.imp fun xs Y Z1 H1 h f b vs g=> ?_);by_cases hn:(xs++es.map SV.fz).length=n
 .rw[if_pos hn] at b;have a:=zU g (jG (ow B Y Z1) Y (hd (ow B Y Z1) H1));exact⟨a.length.trans hn,B,Y,Z1,_,f,a,WS.e0 b⟩
 .rw[if_neg hn] at b;exact b.elim
end
end L10
namespace L4
open PySem PySem.Spec PySem.W PyProof.Rows L2 L3
theorem zt {X:Cx} {i:L2.St} {E2:XK} {K:Ld} {P:S0} {w:Tn} {mg:Str->Option Sh} {base:Heap} {k j:Nat} {x:Str} {ps:List Str} {sp:Sp} {e:TF} {es:List TF} {t:TA} {p a B:Pos} (o:X.ex=[]) (C:mn P w K mg base (L4.jw P w) k x ps [] sp) (hP:X.prog=P) (hw:X.w=w) (hK:X.K=K) (hm:X.mg=mg) (M:X.base=base) (hr:UP j X.A) (ha:PA (X.XA (qu X i E2)) (e::es) t) (J:k<=j:=by decide) (hg:Gl X x:=by rfl)
  (ZD:(x==("__debug__":Str))=Sq:=by decide) (he:SY (e::es) X.env=(Sq,eval e X.env)::SY es X.env:=by rfl) (YT:(backTo a (SY es X.env)).any (·.1)=Sq:=by rfl) (hs:Uk (.Call (.Name x p) (e::es) [] a) Sg B.line X.env=pure Sq:=by rfl):
  Qt (X.XA (qu X i E2)) [.Expr (.Call (.Name x p) (e::es) [] a) B] i (zb (jX sp [] E2 t)):=by
 subst hP hw hK hm M;obtain⟨f,fd,dsv,S,b,L,kp,m⟩:=C;cases L;intro g s H D I h;refine ZN (cz (ahh (Q:=SP (X.XA (qu X i E2)) g D) ?_ I.quiet hs) fun N G q=> ?_)
 .refine Uu (jy I hg m ?_ ZD)
  refine Wr (h₀:=X.base) I.ok.mod.kin kp (cz (ha a g s i H _ I h) fun l G ⟨vs,H1,E,r,q⟩=>⟨E.XH,?_⟩) he YT;have R:Vals (vs++[]) (l++[]):=r.append .nil;have hl:(l++[]).length=ps.length:=by rw[<-R.length];exact S.len _ _ _ _ q
  refine W7 (WU (S.run X.A X.stack G H1 ⟨l,[]⟩ (l++[]) (vs++[]) _ E2 (hr.mono J) E.ade (b G l E.XH hl) R q) fun r s' n=> ?_);cases r with
  |error ex=>obtain⟨e,c,dx,a0,T,H',rfl,le,lT,F,ne,Z,Y,y,un,T9,q⟩:=n;have O:=E.Wx;have I':=O.acd (ch:=[]) Y un T9 y (fun b z=>nomatch z);exact⟨H',e,c,dx,a0,T,rfl,I'.ZZ (fun p z=>nomatch z),F,sI O o le,sI O o lT,ne,Z,q⟩
  |ok N=>
   cases N with
   |ret u=>obtain⟨v,H2,I2,rv,U⟩:=E.after n;exact⟨i,H2,I2,U⟩
   |next=>exact False.elim n
   |brk=>exact False.elim n
   |cont=>exact False.elim n
 .cases N with
  |next=>exact VV q
  |ret v=>exact q
  |brk=>exact q
  |cont=>exact q
end L4
namespace L10
open PySem L2 L3
def QX (T:A->aV->Prop) (X:Xc->Prop):RS A->Prop
 | .ok a Z=>T a Z
 | .er x _=>X x
 | .bad=>False
structure Out {A:Type} (r:RS A) (T:A->aV->Prop) (X:Xc->Prop):Prop where
 out:QX T X r
section
variable {A B:Type} {r r':RS A} {T T':A->aV->Prop} {U:B->aV->Prop} {X:Xc->Prop} {Z:aV}
theorem Out.eq (e:r=r') (h:Out r' T X):Out r T X:=by rw[e];exact h
theorem Out.imp (h:Out r T X) (k:∀a Z,T a Z->T' a Z):Out r T' X:=by
 refine⟨?_⟩;have h:=h.out;cases r with
 |bad=>exact h
 |er x o=>exact h
 |ok a o=>exact k a o h
theorem Out.bind (h:Out r (fun a o=>Out (f a o) U X) X):Out (r.bind f) U X:=by
 refine⟨?_⟩;have h:=h.out;cases r with
 |bad=>exact h
 |er x o=>exact h
 |ok a o=>exact(show Out (f a o) U X from h).out
theorem Out.all (h:Out r T fun _=>False):∃a o,r= .ok a o/\T a o:=by
 have h:=h.out;cases r with
 |bad=>exact h.elim
 |er x o=>exact h.elim
 |ok a o=>exact⟨a,o,rfl,h⟩
theorem Out.er (h:Out r (fun _ _=>False) X):∃x o,r= .er x o/\X x:=by
 have h:=h.out;cases r with
 |bad=>exact h.elim
 |er x o=>exact⟨x,o,rfl,h⟩
 |ok a o=>exact h.elim
end
section
variable {ρ ρ1 Y:bf} {Z Z1 U Z3:aV} {x y z:SV} {i n:Nat} {d:D} {ds:List D} {b:Bool} {f g:eP} {fe:dH} {N:bf->aV->Prop} {T:SV->aV->Prop} {X:Xc->Prop}
def RY (N:bf->aV->Prop) (T:SV->aV->Prop):FlS->aV->Prop
 | .nx ρ,Z=>N ρ Z
 | .rt v,Z=>T v Z
 |_,_=>False
abbrev mx (r:RS FlS) (N:bf->aV->Prop) (T:SV->aV->Prop) (X:Xc->Prop):Prop:=Out r (RY N T) X
theorem kL (h:mx (f ρ Z) (fun r o=>mx (g r o) N T X) T X):mx (aK f g ρ Z) N T X:=by
 refine Out.bind (h.imp fun a o k=> ?_);cases a with
 |nx r=>exact k
 |rt v=>exact⟨k⟩
 |ct r=>exact k.elim
 |bk r=>exact k.elim
theorem A8 (a:f ρ Z= .ok (.nx ρ1) Z1) (h:mx (g ρ1 Z1) N T X):mx (aK f g ρ Z) N T X:=kL (.eq a ⟨h⟩)
theorem zS (a:f ρ Z= .ok (.nx ρ1) Z1) (h:N ρ1 Z1):mx (f ρ Z) N T X:= .eq a ⟨h⟩
theorem dX (e:fe ρ Z= .ok x Z1) (a:gt x ρ Z1= .ok ρ1 U) (h:mx (g ρ1 U) N T X):mx (aK (cL fe gt) g ρ Z) N T X:=A8 (by unfold cL;rw[e,RS.bind_ok,a,RS.bind_ok]) h
theorem C2 (a:Out (fe ρ Z) (fun x Z1=>mx (g (ρ.set i (lD x)) Z1) N T X) X):mx (aK (cL fe (fD i)) g ρ Z) N T X:=kL (Out.bind (a.imp fun _ _ k=>⟨k⟩))
theorem GA (a:Out (fe ρ Z) (fun _ Z1=>N ρ Z1) X):mx (bM fe ρ Z) N T X:=Out.bind (a.imp fun _ _ k=>⟨k⟩)
theorem FL {a j:eP} (e:c ρ Z= .ok Si Z1) (h:mx (aK a g ρ Z1) N T X):mx (aK (cB c a j) g ρ Z) N T X:=by refine .eq ?_ h;unfold aK cB;rw[e,RS.bind_ok,if_pos rfl]
theorem vj {j a:eP} (e:c ρ Z= .ok Sq Z1) (h:mx (aK a g ρ Z1) N T X):mx (aK (cB c j a) g ρ Z) N T X:=by refine .eq ?_ h;unfold aK cB;rw[e,RS.bind_ok,if_neg SH]
theorem pV (h:mx (g ρ Z) N T X):mx (aK cO g ρ Z) N T X:=kL ⟨h⟩
theorem oE (a:fe ρ Z= .ok x Z1) (h:T x Z1):mx (gC fe ρ Z) N T X:= .eq (iY a) ⟨h⟩
theorem Ce (a:fe ρ Z= .ok x Z1) (h:T x Z1):mx (aK (gC fe) g ρ Z) N T X:=kL (oE a h)
theorem rN (a:xs.map lD++Sz (n - xs.length) Sg=ρ) (h:mx (g ρ Z) (fun _ Z'=>T (.fz .none) Z') T X):Out (cU n g xs Z) T X:=by
 unfold cU;rw[a];refine Out.bind (h.imp fun e o k=> ?_);cases e with
 |nx r=>exact⟨k⟩
 |rt v=>exact⟨k⟩
 |ct r=>exact k.elim
 |bk r=>exact k.elim
theorem GW {b:eP} (I:Nat->bf->aV->Prop) (M:Nat) (j:∀n ρ Z,I n ρ Z->(∃Z1,c ρ Z= .ok Sq Z1/\N ρ Z1)\/(n<M/\∃Z1,c ρ Z= .ok Si Z1/\mx (b ρ Z1) (I (n+1)) T X)):∀(m n:Nat) (ρ:bf) (Z:aV),M - n<m->I n ρ Z->mx (tI c b m ρ Z) N T X
 |0,n,_,_,h,_=>by omega
 |m+1,n,ρ,Z,h,h0=>by
  rcases j n ρ Z h0 with⟨Z1,e,p⟩|⟨hn,Z1,e,l⟩
  .refine .eq (show tI c b (m+1) ρ Z= .ok (.nx ρ) Z1 from ?_) ⟨p⟩;show((c ρ Z).bind _)=_;rw[e,RS.bind_ok,if_neg SH]
  .refine .eq (show tI c b (m+1) ρ Z=(b ρ Z1).bind fun a U=>match a with
    | .nx Y=>tI c b m Y U
    | .ct Y=>tI c b m Y U
    | .bk Y=> .ok (.nx Y) U
    | .rt x=> .ok (.rt x) U from ?_) (Out.bind (l.imp fun a o k=> ?_))
   .show((c ρ Z).bind _)=_
    rw[e,RS.bind_ok,if_pos rfl]
    all_goals (cases b ρ Z1 with
     |bad=>rfl
     |er x o=>rfl
     |ok a o=>cases a<;>rfl)
   .cases a with
    |nx r=>exact GW I M j m (n+1) r o (by omega) k
    |rt v=>exact⟨k⟩
    |ct r=>exact k.elim
    |bk r=>exact k.elim
theorem xD {b:eP} (I:Nat->bf->aV->Prop) (M:Nat) (h:M<1000000) (e:I 0 ρ Z) (a:∀n ρ Z,I n ρ Z->(∃Z1,c ρ Z= .ok Sq Z1/\N ρ Z1)\/(n<M/\∃Z1,c ρ Z= .ok Si Z1/\mx (b ρ Z1) (I (n+1)) T X)):mx (wN c b ρ Z) N T X:=GW I M a 1000000 0 ρ Z (by omega) e
theorem v7 {b:eP} (I:Nat->bf->aV->Prop):∀(ds:List D) (k:Nat) (ρ:bf) (Z:aV),I k ρ Z->(∀i d ρ Z,ds[i]? =lD d->I (k+i) ρ Z->∃ρ1 Z1,gt (.fz d) ρ Z= .ok ρ1 Z1/\mx (b ρ1 Z1) (I (k+i+1)) T X)->mx (jp gt b ds ρ Z) (I (k+ds.length)) T X
 |[],k,ρ,Z,h0,_=>⟨h0⟩
 |d::r,k,ρ,Z,h0,hs=>by
  obtain⟨ρ1,Z1,w,u⟩:=hs 0 d ρ Z rfl h0;have l:∀a p,I (k+1) a p->mx (jp gt b r a p) (I (k+(r.length+1))) T X:=fun a p h=>by
   have e:k+(r.length+1)=k+1+r.length:=by omega
   rw[e];refine v7 I r (k+1) a p h fun i A j q hi t=> ?_;have e:k+1+i=k+(i+1):=by omega
   rw[e] at t⊢;exact hs (i+1) A j q (by simpa using hi) t
  refine .eq (show jp gt b (d::r) ρ Z=(b ρ1 Z1).bind fun m U=>match m with
   | .nx Y=>jp gt b r Y U
   | .ct Y=>jp gt b r Y U
   | .bk Y=> .ok (.nx Y) U
   | .rt x=> .ok (.rt x) U from ?_) (Out.bind (u.imp fun m o k=> ?_))
  .show((gt (.fz d) ρ Z).bind _)=_
   rw[w,RS.bind_ok]
   all_goals (cases b ρ1 Z1 with
    |bad=>rfl
    |er x o=>rfl
    |ok m o=>cases m<;>rfl)
  .cases m with
   |nx r=>exact l _ _ k
   |rt v=>exact⟨k⟩
   |ct r=>exact k.elim
   |bk r=>exact k.elim
theorem NN {b:eP} (I:Nat->bf->aV->Prop) (hi:fi ρ Z= .ok ds Z1) (h:I 0 ρ Z1) (a:∀i d ρ Z,ds[i]? =lD d->I i ρ Z->∃ρ1 Z1,gt (.fz d) ρ Z= .ok ρ1 Z1/\mx (b ρ1 Z1) (I (i+1)) T X) (e:∀ρ' Z',I ds.length ρ' Z'->N ρ' Z'):mx (sg fi gt b ρ Z) N T X:=by
 have:=v7 I ds 0 ρ Z1 h (by simpa using a);rw[UX] at this;refine .eq ?_ (this.imp fun j o k=> ?_)
 .unfold sg;rw[hi,RS.bind_ok]
 .cases j with
  |nx r=>exact e _ _ k
  |rt v=>exact k
  |ct r=>exact k.elim
  |bk r=>exact k.elim
theorem Bm (a:fo ρ Z= .ok (.rf i) Z1) (h:Z1[i]? =lD (.obj C fs)) (hm:fs.lookup m=Sg) (ha:fa ρ Z1= .ok xs U) (hn:(SV.rf i::xs).length=n):sO C m F n fo fa ρ Z=F (.rf i::xs) U:=by
 have e:lO Z1 C m (.rf i)=Si:=by unfold lO;dsimp only;rw[h];dsimp only;rw[hm];simp
 unfold sO;rw[a,RS.bind_ok,if_pos e,ha,RS.bind_ok,if_pos hn]
theorem Ng (ha:fa ρ Z= .ok xs Z1) (hn:(SV.rf Z1.length::xs).length=n):Hl C F n fa ρ Z=(F (.rf Z1.length::xs) (Z1++[.obj C []])).bind fun r U=>(if Dk r=Si then .ok (.rf Z1.length) U else .bad):=by unfold Hl;rw[ha,RS.bind_ok];unfold tZ;rw[if_pos hn]
theorem yx (ha:fa ρ Z= .ok xs Z1) (hn:(xs++es.map SV.fz).length=n):za F n es fa ρ Z=F (xs++es.map SV.fz) Z1:=by unfold za;rw[ha,RS.bind_ok,if_pos hn]
theorem oJ (ha:fa ρ Z= .ok xs Z1) (hn:(xs++es.map SV.fz).length=n) (a:F (xs++es.map SV.fz) Z1= .ok x U):n6 F n es fa ρ Z= .ok x U:=by unfold n6;rw[ha,RS.bind_ok,if_pos hn,a];rfl
theorem Dq {c f:Str} (h:fe ρ Z= .ok (.fz d) Z1) (hd:L9.PB d=Si):pX c f fe ρ Z= .er ⟨c,[(f,d)]⟩ Z1:=by unfold pX;rw[h,RS.bind_ok];dsimp only;rw[if_pos hd]
end
end L10
namespace L3
open PySem PyProof.Rows L2
section
variable {P:S0} {w:Tn} {K:Ld} {mg:Str->Option Sh} {base h:Heap} {f T:So} {n:Str} {t:UL} {ps:List Str} {Y:Nat} {sp:Sp} {U:wg} {Z:Array Sh}
theorem NI.aif (i:NI K f n t) (X:K.In h) (G:h.Ns SK mg) (b:BA n n t ps) (ok:∀fd,VT K n n t f fd->FnOk P w K mg base U Y f fd ps sp):mn P w K mg base U Y n ps [] sp:=
 let⟨fd,z⟩:=i.F;⟨f,fd,[],ok fd z,z.binds b,.nil,z.kp,Uy X G i.a⟩
structure DI (K:Ld) (f T:So) (n:Str) (t:UL) (Z:Array Sh):Prop where
 a:SU K SK n=lD (lD (.ref f))
 F:∃fd,ZC K n n t f fd T Z
theorem JA {x a:Str} {st:UL} {q:Sh} {p:Option So} {kV b i:Sh} {j:Option So} {g ct:Sh} {e:Array (Option Sh)} {o:Sh} {m:Option So} {k:Nat} {l:Array (Option Sh)}
  (r:K.lookup f=lD ⟨q,p,.func (Ui x a (fG st) (cg st) (az st) (.ref T) kV b i j g ct),e⟩) (v:Ws K g a=Si) (u:Uq K (.ref f)=Si) (lt:K.lookup T=lD ⟨o,m,.seq Z k,l⟩):ZC K x a st f (Ui x a (fG st) (cg st) (az st) (.ref T) kV b i j g ct) T Z:=
 ⟨⟨_,_,_,_,_,_,_,_,_,rfl,r,v⟩,u,_,_,lt,rfl⟩
def BD (n:Str) (t:UL) (T:So) (Z:Array Sh) (ps:List Str) (ds:List Sh):Prop:=∀(kV b e:Sh) (g:Option So) (i ct:Sh) (a:List Sh),(a++ds).length=ps.length->∃k:Option (Array Sh)->Sem (List (Str×Sh)),bindArgs (Ui n n (fG t) (cg t) (az t) (.ref T) kV b e g i ct) ⟨a,[]⟩=seqItems? (.ref T)>>=k/\k (lD Z)=pure (ps.zip (a++ds))
theorem DI.cal {ds:List Sh} {dvs:List V} (i:DI K f T n t Z) (X:K.In h) (G:h.Ns SK mg) (e:BD n t T Z ps ds) (b:Vals dvs ds) (ok:∀fd,ZC K n n t f fd T Z->FnOk P w K mg base U Y f fd ps sp):mn P w K mg base U Y n ps dvs sp:=
 let⟨fd,z⟩:=i.F;⟨f,fd,ds,ok fd z,z.binds e,b,z.kp,Uy X G i.a⟩
end
structure Tp (P:S0) (w:Tn) (K:Ld) (mg:Str->Option Sh) (base h:Heap):Prop where
 X:K.In h
 G:h.Ns SK mg
section
variable {P:S0} {w:Tn} {K:Ld} {mg:Str->Option Sh} {base h:Heap} {f C T:So} {n m q:Str} {t:UL} {ps fs:List Str} {Z:Nat} {sp:Sp} {Y:wg} {U:Array Sh}
theorem NI.c (i:NI K f n t) (W:Tp P w K mg base h) (ok:∀fd,VT K n n t f fd->FnOk P w K mg base dG Z f fd ps sp) (a:BA n n t ps:=by fail "ba"):xX P w K mg base Z n ps sp:=i.cal W.X W.G a ok
theorem NI.d (i:NI K f n t) (W:Tp P w K mg base h) (ok:∀fd,VT K n n t f fd->FnOk P w K mg base Y Z f fd ps sp) (a:BA n n t ps:=by fail "ba"):mn P w K mg base Y Z n ps [] sp:=i.aif W.X W.G a ok
theorem MI.mt (i:MI K C f m q t) (c:CI K C n fs) (W:Tp P w K mg base h) (ok:∀fd,VT K m q t f fd->FnOk P w K mg base Y Z f fd ps sp) (a:BA m q t ps:=by fail "ba"):L10.bW P w K mg base Y Z n m ps sp:=i.afw c a ok
theorem MI.k (i:MI K C f "__init__" q t) (c:CI K C n fs) (W:Tp P w K mg base h) (ok:∀fd,VT K "__init__" q t f fd->FnOk P w K mg base Y Z f fd ps sp) (a:BA "__init__" q t ps:=by fail "ba"):L10.yw P w K mg base Y Z n ps sp:=i.ai3 c W.X W.G a ok
theorem DI.c {ds:List Sh} {dvs:List V} (i:DI K f T n t U) (W:Tp P w K mg base h) (a:Vals dvs ds) (ok:∀fd,ZC K n n t f fd T U->FnOk P w K mg base Y Z f fd ps sp) (b:BD n t T U ps ds:=by fail "bd"):mn P w K mg base Y Z n ps dvs sp:=i.cal W.X W.G b a ok
end
end L3
namespace LD
open PySem PySem.Spec PyProof.Rows L2 L3
end LD
namespace L10
open PySem PyProof.Rows L2 L3 LD
end L10
namespace LD
open PySem PySem.Spec PyProof.Rows L2 L3
end LD
namespace L10
open PySem PyProof.Rows L2 L3 LD
end L10
namespace L4
open PySem PySem.Spec PyProof.Rows L2 L3
end L4
namespace L10
open PySem PySem.Spec PyProof.Rows L2 L3
def Pj:D->D->Option RV:=fI fun i j=>i+j
def LK:R2:=Rx fun i j=>i+j
theorem JW {X:Cx}:Q8 X .Add LK:=MP
theorem DY {K:Ld}:nM K LK Pj:=by intro O H x y dx f rv Q n b a e q;obtain⟨i,j,rfl,rfl,rfl⟩:=yE e;cases b;cases a;exact⟨_,_,rfl,rfl,q.at (.int _)⟩
end L10
namespace L4
open PySem PySem.Spec PyProof.Rows L2 L3
def KU (E2:XK) (i:Nat) (h g:TS):TS:=fun D f H=>h D f H/\∀c dx H1,E2 c dx H1->∀(e:So) (a:Obj),H1 e=Sg->a.cls=c->a.dict=dx->ab4 a=Si->
 g {nx:=fun b j=>D.nx (b.set i Sg) j,rt:=D.rt} (f.set i (lD (.ref e))) (bx H1 e (.frz a (.own e)))
theorem Ku {X:Cx} {body adC:List UL} {b0:UL} {tb ts:TS} {E2:XK} {U:So} {x n:Str} {i:Nat} {np aiG pos:Pos} {mU:List Sh}
  (hex:X.ex=[]) (hN:X.N.Nodup) (dJ:X.stack=X.env::X.outer) (hfr:X.env.frame=lD X.env.locals) (hg:Gl X x) (hm:X.mg x=lD (.ref U)) (hU:CT X.K U mU) (hbU:mU.contains (.type "BaseException")=Si)
  (hi:X.N[i]? =lD n) (hlo:X.env.kindOf n=lD .local) (hb:∀l σ,Qt ((Cx.pinned X l).XA (qu (Cx.pinned X l) σ E2)) body σ tb) (hs:∀l e,YM (Cx.marked (Cx.pinned X l) e) (b0::adC) ts)
  (hE:∀c dx H,E2 c dx H->∃C m,c= .ref C/\CT X.K C m/\(Sh.ref C::m).contains (.ref U)=Si) (ZD:(x==("__debug__":Str))=Sq:=by decide):
  PS X (.Try body [.ExceptHandler (lD (.Name x np)) (lD n) (b0::adC) aiG] [] [] pos) (KU E2 i tb ts):=by
 intro pins s σ H D I ⟨h,hc⟩;have IY:=Ji I;have aeq:(Cx.pinned X (X.pn++pins)).ex=[]:=hex;refine wpAny_Try_except (wpAny_mono (hb (X.pn++pins) σ [] s H D (IY.XA _) h) (fun f s1 hf=> ?_) (fun v s1 hx=> ?_))
 .have hf:=SP.Wx hf
  cases f with
  |next=>obtain⟨σ1,H1,I1,q1⟩:=hf;exact VV ⟨σ1,H1,g8 I.ok I1,q1⟩
  |brk=>obtain⟨σ1,H1,I1,q1⟩:=hf;exact⟨σ1,H1,g8 I.ok I1,q1⟩
  |cont=>obtain⟨σ1,H1,I1,q1⟩:=hf;exact⟨σ1,H1,g8 I.ok I1,q1⟩
  |ret u=>obtain⟨v,σ1,H1,I1,r,q1⟩:=hf;exact⟨v,σ1,H1,g8 I.ok I1,r,q1⟩
 .obtain⟨H1,e,c,dx,a0,T,rfl,I1,F,aE,aT,ne,nT,q⟩:=hx
  obtain⟨C,mC,hcC,⟨n1,q1,N1,b1,d1,t1,u1,a1,l1,x1,i0,i1,i2,i3,i5,id1,kC⟩,hup⟩:=hE c dx H1 q;obtain⟨n2,q2,N2,b2,d2,t2,u2,a2,l2,x2,j0,j1,j2,j3,j5,id2,kU⟩:=hU;have fr:X.A.frames=lD (X.env::X.outer):=by rw[<-dJ];exact I.ok.frames
  have ff:s1.heap.FunFrames X.base (X.env::X.outer):=by rw[<-dJ];exact I1.stack
  refine Io fr ff hfr F fun h2 T2 z2 F2 L2'=> ?_
  have I2:L2.Inv (Cx.pinned X (X.pn++pins)) [] σ H1 {s1 with heap:=h2}:=xj I1 (fun b=>b=e\/b=T) aeq (fun p hp y=>y.elim (aE.nP p hp) (aT.nP p hp))
   (fun b o z nS nf=>L2'.keep b o z (fun y=>nS (.inl y)) (fun y=>nS (.inr (SM y).symm)) (by rw[<-dJ];exact nf))
   (fun b o z nS=>L2'.slot b o z (fun y=>nS (.inl y)) (fun y=>nS (.inr (SM y).symm))) L2'.here
   (fun b y=>y.elim (fun y=>by rw[y];exact aE.n0) (fun y=>by rw[y];exact aT.n0)) (fun y=>y.elim (fun y=>aE.nL y.symm) (fun y=>aT.nL y.symm))
   (fun y k z w=>w.elim (aE.nC y k z) (aT.nC y k z)) (fun b y=>y.elim (fun y=>by rw[y];exact ne) (fun y=>by rw[y];exact nT))
  have aT2:Apart (Cx.pinned X (X.pn++pins)) T2:=sI I1 aeq (Heap.get?_none_of_le z2);have nT2:H1 T2=Sg:=I1.T9.fresh z2;refine wpAny_handleBy_cons (codeAny_handlers_test (jy (X:=Cx.marked (Cx.pinned X (X.pn++pins)) e) (rh I2 e) hg hm ?_ ZD)) (by intro y;cases y);have F2':=F2;obtain⟨ob,fs,qe,cE,dE,dF,_⟩:=F2';refine HF (I2.XH _ _ kC) (I2.XH _ _ kU) qe (cE.trans hcC) hbU hup ?_;refine codeAny_handlers_suite_as (Ml F2 fun h3 F3 YC hT3=> ?_);have neT:e≠T2:=fun y=>by obtain⟨_,_,_,_,_,_,_,_,w,_⟩:=F2;exact w y.symm
  have I3:L2.Inv (Cx.pinned X (X.pn++pins)) [] σ H1 {s1 with heap:=h3}:=xj (s:={s1 with heap:=h2}) I2 (fun b=>b=T2) aeq (fun p hp y=>aT2.nP p hp y)
   (fun b o z nS _=>(YC b nS).trans z) (fun b o z nS=>⟨o.slots,(YC b nS).trans z⟩)
   (fun b o z=>(Classical.em (b=T2)).elim (fun y=>by rw[y];exact hT3) (fun y=>⟨o,(YC b y).trans z⟩)) (fun b y=>by rw[y];exact aT2.n0) (fun y=>aT2.nL y.symm) (fun y k z w=>aT2.nC y k z w) (fun b y=>by rw[y];exact nT2)
  have I4:=D1 I3 aE.nP ((YC e neT).trans qe) ne aE.n0 aE.nL aE.nC;refine mK (X:=Cx.marked (Cx.pinned X (X.pn++pins)) e) (rh I4 e) hN hi (.inl hlo) (v:= .ref e) rfl (fun s4 I5=> ?_) (.inr hlo);have w:=hc c dx H1 q e ob ne cE dE (by unfold ab4;rw[dF]);refine wpAny_mono (hs (X.pn++pins) e [] s4 _ _ _ I5 w) (fun f s5 hf=> ?_) (fun y s5 z=>z.elim);cases f with
  |next=>obtain⟨σ2,H2,I6,q6⟩:=hf;exact uT (sj IY.ok I6) hN hi hlo fun s6 I7=>⟨_,_,g8 I.ok I7,q6⟩
  |brk=>obtain⟨σ2,H2,I6,q6⟩:=hf;exact q6.elim
  |cont=>obtain⟨σ2,H2,I6,q6⟩:=hf;exact q6.elim
  |ret u=>obtain⟨v,σ2,H2,I6,r,q6⟩:=hf;exact uT (sj IY.ok I6) hN hi hlo fun s6 I7=>⟨v,_,H2,g8 I.ok I7,r,q6⟩
end L4
namespace L10
open PySem PyProof.Rows L2 L3
def GH (F:FN) (n:Nat) (fa:uS):dH:=fun ρ Z=>(fa ρ Z).bind fun xs a=>match aC (tS 6 a) xs with
 |some ds=>if ds.length=n then(match F ds with
  | .ok rv=>uJ a rv
  |_=> .bad) else .bad
 |none=> .bad
theorem ED {K:Ld} {E:XK} {F:FN} {n:Nat} {fa:uS} (ha:vJ K E ta fa):cZ K E (jX (pp K n F) [] E0 ta) (GH F n fa):=by
 intro B j H α Z ρ Q s l w;refine ha B j H α Z ρ _ s l (w.bind.imp fun xs b h i o f a vs m=> ?_);rw[S8];cases q1:aC (tS 6 h) xs with
 |none=>rw[q1] at a;exact a.elim
 |some ds=>
  rw[q1] at a;have g:Ur noO K i vs ds:=iS (cH (R:=VU (ow B b h) K i b) (fun v x y r e=>jP f 6 r e) m q1);dsimp only at a;by_cases hn:ds.length=n
  .rw[if_pos hn] at a
   refine⟨g.length.trans hn,noO,ds,fun _ z=>z.elim,g,?_⟩;cases q:F ds with
   |bad=>rw[q] at a;exact a.elim
   |er x=>rw[q] at a;exact a.elim
   |ok rv=>rw[q] at a;exact BC f a
  .rw[if_neg hn] at a;exact a.elim
theorem KP {F:FN} {n:Nat} {fa:uS} {ρ:bf} {Z Z1:aV} {xs:List SV} {ds:List D} {d:D} (ha:fa ρ Z= .ok xs Z1) (hd:aC (tS 6 Z1) xs=lD ds) (hn:ds.length=n) (b:F ds= .ok (.fz d)) (a:yB d=Si):GH F n fa ρ Z= .ok (.fz d) Z1:=by unfold GH;rw[ha,RS.bind_ok,hd];dsimp only;rw[if_pos hn,b];exact if_pos a
end L10
namespace M02
inductive Con (E:List (Nat×Nat)) (r0:Nat):Bool->Nat->Prop
 |base:Con E r0 Si r0
 |col {r c:Nat}:Con E r0 Si r->(r,c)∈E->Con E r0 Sq c
 |row {r c:Nat}:Con E r0 Sq c->(r,c)∈E->Con E r0 Si r
def has (n c:Nat):Prop:=n.testBit c=Si
structure Nums (E:List (Nat×Nat)) (R C:Nat) (ns:List Nat):Prop where
 len:ns.length=R
 lt:∀n∈ns,n<2^C
 own:∀r c,(r,c)∈E->has (ns.getD r 0) c
 snd:∀r,r<R->∀c,has (ns.getD r 0) c->Con E r Sq c
abbrev NF:=List Nat×List Nat
structure anF (E:List (Nat×Nat)) (r0:Nat) (s:NF):Prop where
 a:r0∈s.1
 n:∀x∈s.1,Con E r0 Si x
 f:∀x∈s.2,Con E r0 Sq x
 d:s.2.Nodup
 d1:s.1.Nodup
structure alV (R C:Nat) (ss:List (Nat×Nat)):Prop where
 r1:1<=R
 r6:R<=6
 c1:1<=C
 c6:C<=6
 l1:1<=ss.length
 l12:ss.length<=12
 nd:ss.Nodup
 inn:∀s∈ss,s.1<R/\s.2<C
end M02
local macro_rules(kind:=«term{_}»)|`({$a})=>`(L3.ad $a L3.aw)|`({$a,$b})=>`(L3.ad $a (L3.ad $b L3.aw))|`({$a,$b,$c})=>`(L3.ad $a (L3.ad $b (L3.ad $c L3.aw)))|`({$a,$b,$c,$d})=>`(L3.ad $a (L3.ad $b (L3.ad $c (L3.ad $d L3.aw))))
local macro_rules|`(~~~$n)=>`(L3.pC (.int $n))
namespace STP
open PySem L2 L3
def mv:FS:=(ck (nK (aF (aJ lJ (aJ bj (aa 0) (~~~2)) (pC .none))) (eO (aJ bj (aa 0) (~~~2))) fO)
 (eO (iB (L10.HD 0) {fC 2 [] (ji (aJ bj (aa 0) (~~~0))) (gT 2 (BU (gN 0) (BU (gN 1) Lo))) (aF (aJ cY (aJ bj (aa 1) (~~~0)) (pC (.str "layer")))) (aJ bj (aa 1) (~~~1))})))
def dC:FN:=ic 1 mv
def kS:FS:=(ck (fV (aJ bj (aJ bj (aJ bj (aa 0) (~~~1)) (aa 1)) (aa 2)) (gN 3))
 (ck (nK (aF (aJ cY (aJ bj (aa 3) (~~~0)) (pC (.str "below")))) (eO (aJ bj (aJ bj (aJ bj (aa 0) (~~~1)) (~~~0)) (aa 2))) fO)
 (eO (aa 3))))
def iM:FN:=ic 4 kS
def iW:FS:=(eO (fC 1 [1] (ji (aJ bj (aa 0) (~~~2))) (gN 0) (aF (iB Gu {fC 1 [0] (ji (aa 1)) (gN 0) fy (aJ KR (aa 0) (aJ bj (aa 1) (~~~0)))})) (aa 0)))
def bF:FN:=ic 2 iW
def jU:FS:=(ck (tK (ji (aJ bj (aa 0) (~~~2))) (gN 2) (nK (aF (aJ cY (iB vt {aJ bj (aa 2) (~~~0)}) (iB L9.gR {aa 1}))) (eO (aJ dI (dU {bB {pC (.str "letter"),aJ bj (aa 2) (~~~1)}}) (aJ i9 (dU {pC (.tuple [(.str "none")])}) (aJ tN (iB eU {aa 1}) (~~~1))))) fO))
 (eO (fC 1 [0] (ji (aa 1)) (gN 0) fy (aJ bj (aJ bj (aJ bj (aa 1) (~~~1)) (~~~0)) (aa 0)))))
def fE:FN:=ic 3 jU
open L10
def j6:eP:=(aK (fQ "Hand" "bed" (ar 0) (ae (aa 1)))
 (aK (fQ "Hand" "acts" (ar 0) (xY (ae (aJ bj (aa 2) (~~~0)))))
 (aK (fQ "Hand" "waiting" (ar 0) (ae (aJ bj (aa 2) (~~~1))))
 (aK (fQ "Hand" "once" (ar 0) (ae (aJ bj (aa 2) (~~~2))))
 (fQ "Hand" "sent" (ar 0) (ae (dU aw)))))))
def dM:iA:=cU 3 j6
def lM:eP:=(gC (mJ (aj (GR pT (aj (rU 1 [0] (jf (uB (a9 "Hand" "acts" (ar 0)))) (fD 0) rc (mJ (aj (ae (aa 0)) (aj (uU (a9 "Hand" "acts" (ar 1)) (ae (aa 0))) aQ)))) aQ)) (aj (a9 "Hand" "waiting" (ar 0)) (aj (a9 "Hand" "once" (ar 0)) aQ)))))
def bG:iA:=cU 1 lM
def iJ:eP:=(gC (DZ (kZ lJ (a9 "Hand" "waiting" (ar 0)) (ae (pC .none))) (kZ KR (ae (aa 1)) (j8 (a9 "Hand" "waiting" (ar 0)) (ae (~~~0))))))
def b3:iA:=cU 2 iJ
def kP:eP:=(gC (kZ KR (ae (aa 1)) (Co (a9 "Hand" "acts" (ar 0)))))
def bN:iA:=cU 2 kP
def kK:eP:=(aK (cB (na (bO (aF (aJ cY (aJ bj (aa 2) (~~~0)) (pC (.str "letter"))))) (ri (bJ (aU "Hand" "has_act" bN 2 (ar 0) (aj (ae (aa 2)) aQ))))) (bM (l4 (a9 "Hand" "sent" (ar 0)) (ae (bB {aJ bj (aa 2) (~~~1),pC (.str "down")})))) cO)
 (xo (a9 "Hand" "acts" (ar 0)) (ae (aa 1)) (ae (aa 2))))
def bu:iA:=cU 3 kK
def oa:eP:=(aK (cL (x9 (a9 "Hand" "acts" (ar 0)) (ae (aa 1))) (fD 2))
 (cB (na (bO (aF (aJ cY (aJ bj (aa 2) (~~~0)) (pC (.str "letter"))))) (ri (bJ (aU "Hand" "has_act" bN 2 (ar 0) (aj (ae (aa 2)) aQ))))) (bM (l4 (a9 "Hand" "sent" (ar 0)) (ae (bB {aJ bj (aa 2) (~~~1),pC (.str "up")})))) cO))
def jg:iA:=cU 3 oa
def lR:eP:=(aK (cL (j8 (a9 "Hand" "waiting" (ar 0)) (ae (~~~0))) (fD 1))
 (aK (cL (j8 (a9 "Hand" "waiting" (ar 0)) (ae (~~~2))) (fD 2))
 (aK (fQ "Hand" "waiting" (ar 0) (ae (pC .none)))
 (aK (cL (nO (HR (bO (aF (aJ cY (aa 2) (pC (.tuple [(.str "chord")]))))) (jm fE 2 (aj (a9 "Hand" "bed" (ar 0)) (aj (ae (aa 1)) aQ))) (ae (dU {bB {pC (.str "layer"),aJ bj (aa 2) (~~~2)}})))) (fD 3))
 (sg (pf (Ed {aa 1,aa 3})) (OI 2 (nV (fD 4) (nV (fD 5) DT))) (bM (aU "Hand" "come" bu 3 (ar 0) (aj (ae (aa 4)) (aj (ae (aa 5)) aQ)))))))))
def bU:iA:=cU 6 lR
def fw:eP:=(aK (cB (DU (bJ (kZ mw (a9 "Hand" "waiting" (ar 0)) (ae (pC .none)))) (DU (bJ (kZ oY (j8 (a9 "Hand" "waiting" (ar 0)) (ae (~~~2))) (ae (pC (.tuple [(.str "chord")]))))) (bJ (kZ oY (jm dC 1 (aj (aU "Hand" "stands" bG 1 (ar 0) aQ) aQ)) (ae (~~~0)))))) (gC (ae (pC (.bool Sq)))) cO)
 (gC (kZ oY (jm bF 2 (aj (a9 "Hand" "bed" (ar 0)) (aj (kZ dI (j8 (a9 "Hand" "waiting" (ar 0)) (ae (~~~0))) (ae (bB {aa 1}))) aQ))) (ae (dU aw)))))
def dB:iA:=cU 2 fw
def gP:eP:=(aK (cL (kZ dI (j8 (a9 "Hand" "waiting" (ar 0)) (ae (~~~0))) (ae (bB {aa 1}))) (fD 2))
 (aK (fQ "Hand" "waiting" (ar 0) (mJ (aj (ae (aa 2)) (aj (j8 (a9 "Hand" "waiting" (ar 0)) (ae (~~~1))) (aj (ae (pC (.tuple [(.str "chord")]))) aQ)))))
 (cB (bJ (kZ cY (rU 1 [] (jf (jm bF 2 (aj (a9 "Hand" "bed" (ar 0)) (aj (ae (aa 2)) aQ)))) (fD 0) rc (ae (iB eU {aJ bj (aa 0) (~~~0)}))) (ae (dU {iB eU {aa 2}})))) (bM (aU "Hand" "decide" bU 1 (ar 0) aQ)) cO)))
def dg:iA:=cU 3 gP
def jF:eP:=(aK (cL (jm dC 1 (aj (aU "Hand" "stands" bG 1 (ar 0) aQ) aQ)) (fD 2))
 (aK (cL (jm iM 3 (aj (a9 "Hand" "bed" (ar 0)) (aj (ae (aa 2)) (aj (ae (aa 1)) aQ)))) (fD 3))
 (aK (cL (ae (aJ bj (aa 3) (~~~0))) (fD 4))
 (aK (cB (bO (aF (aJ pA (aa 4) (bB {pC (.str "layer"),pC (.str "once")})))) (fQ "Hand" "once" (ar 0) (ae (pC .none))) cO)
 (cB (bO (aF (aJ cY (aa 4) (pC (.str "tap"))))) (fQ "Hand" "waiting" (ar 0) (ae (bB {bB {aa 1},~~~0,aa 3}))) (cB (na (bO (aF (aJ cY (aa 4) (pC (.str "letter"))))) (na (bO (aF (aJ cY (aa 2) (~~~0)))) (bJ (kZ oY (jm bF 2 (aj (a9 "Hand" "bed" (ar 0)) (aj (ae (bB {aa 1})) aQ))) (ae (dU aw)))))) (fQ "Hand" "waiting" (ar 0) (ae (bB {bB {aa 1},~~~0,pC (.tuple [(.str "chord")])}))) (cB (bO (aF (aJ cY (aa 4) (pC (.str "once"))))) (aK (bM (aU "Hand" "come" bu 3 (ar 0) (aj (ae (aa 1)) (aj (ae (pC (.tuple [(.str "none")]))) aQ))))
 (fQ "Hand" "once" (ar 0) (ae (aJ bj (aa 3) (~~~1))))) (bM (aU "Hand" "come" bu 3 (ar 0) (aj (ae (aa 1)) (aj (ae (aa 3)) aQ)))))))))))
def fP:iA:=cU 5 jF
def jz:eP:=(aK (cB (DU (bJ (yt Sq (ae (aa 1)) (a9 "Hand" "acts" (ar 0)))) (bJ (aU "Hand" "is_waiting" b3 2 (ar 0) (aj (ae (aa 1)) aQ)))) uD cO)
 (aK (cB (bJ (aU "Hand" "makes_chord" dB 2 (ar 0) (aj (ae (aa 1)) aQ))) (aK (bM (aU "Hand" "put_to_chord" dg 2 (ar 0) (aj (ae (aa 1)) aQ)))
 uD) cO)
 (aK (cB (bJ (kZ lJ (a9 "Hand" "waiting" (ar 0)) (ae (pC .none)))) (bM (aU "Hand" "decide" bU 1 (ar 0) aQ)) cO)
 (bM (aU "Hand" "begin" fP 2 (ar 0) (aj (ae (aa 1)) aQ))))))
def gS:iA:=cU 2 jz
def iO:eP:=(aK (cL (j8 (a9 "Hand" "waiting" (ar 0)) (ae (~~~2))) (fD 2))
 (cB (bO (aF (aJ cY (aa 2) (pC (.tuple [(.str "chord")]))))) (bM (aU "Hand" "decide" bU 1 (ar 0) aQ)) (aK (fQ "Hand" "waiting" (ar 0) (ae (pC .none)))
 (bM (aU "Hand" "come" bu 3 (ar 0) (aj (ae (aa 1)) (aj (ae (bB {pC (.str "letter"),aJ bj (aa 2) (~~~1)})) aQ)))))))
def gn:iA:=cU 3 iO
def kI:eP:=(aK (cB (bJ (aU "Hand" "is_waiting" b3 2 (ar 0) (aj (ae (aa 1)) aQ))) (bM (aU "Hand" "settle" gn 2 (ar 0) (aj (ae (aa 1)) aQ))) cO)
 (cB (bJ (yt Sq (ae (aa 1)) (a9 "Hand" "acts" (ar 0)))) (bM (aU "Hand" "go" jg 2 (ar 0) (aj (ae (aa 1)) aQ))) cO))
def iE:iA:=cU 2 kI
def iq:eP:=(aK (cB (bJ (kZ mw (a9 "Hand" "waiting" (ar 0)) (ae (pC .none)))) uD cO)
 (aK (cL (kZ dI (j8 (a9 "Hand" "waiting" (ar 0)) (ae (~~~1))) (ae (~~~1))) (fD 1))
 (aK (fQ "Hand" "waiting" (ar 0) (mJ (aj (j8 (a9 "Hand" "waiting" (ar 0)) (ae (~~~0))) (aj (ae (aa 1)) (aj (j8 (a9 "Hand" "waiting" (ar 0)) (ae (~~~2))) aQ)))))
 (cB (bJ (kZ cY (ae (aa 1)) (j8 (a9 "Hand" "bed" (ar 0)) (ae (~~~3))))) (bM (aU "Hand" "decide" bU 1 (ar 0) aQ)) cO))))
def fR:iA:=cU 2 iq
def z7:eP:=(aK (cL (ut "Hand" dM 3 (aj (ae (aa 0)) (aj (ae (aa 1)) aQ))) (fD 3))
 (aK (cB (bO (aF (aJ cY (aJ bj (aa 2) (~~~0)) (pC (.str "turn"))))) (bM (aU "Hand" "wait_on" fR 1 (ar 3) aQ)) (cB (bO (aF (aJ cY (aJ bj (aa 2) (~~~0)) (pC (.str "down"))))) (bM (aU "Hand" "press" gS 2 (ar 3) (aj (ae (aJ bj (aa 2) (~~~1))) aQ))) (bM (aU "Hand" "lift" iE 2 (ar 3) (aj (ae (aJ bj (aa 2) (~~~1))) aQ)))))
 (gC (mJ (aj (a9 "Hand" "sent" (ar 3)) (aj (aU "Hand" "stands" bG 1 (ar 3) aQ) aQ))))))
def kE:iA:=cU 4 z7
end STP
local macro_rules| `(tactic|fail "nm")=> `(tactic|first|((simp only[abN,abO]);rfl)|rfl)| `(tactic|fail "evf")=> `(tactic|first|with_reducible assumption|change L3.jM _ _|change L3.vG _ _|change L3.ox _ _|change L3.F1 _ _|change L3.C6 _ _|change L3.B6 _ _|change L3.aiO _ _|change L3.aiP _ _|change L3.qI _ _|change L3.vX _ _|change L3.aco _ _|change L3.ab7 _ _|change L3.agN _ _|change L3.agp _ _|change L3.vP _ _|change L3.aha _ _|change L3.agU _ _|change L3.af0 _ _|change L3.vH _ _|change L3.af4 _ _|change L3.af2 _ _|change L3.agr _ _|change L3.Nu _ _|change L3.ib|change L3.iw|change L3.pI|change L3.ak1|change L3.anZ|change L3.ajW|change L3.km _|change L3.gz _|(with_reducible rfl))| `(tactic|fail "ev")=> `(tactic|first
 |change L3.aD
 |((exists L3.af);rfl)
 |((exists L3.oi);rfl)
 |change L3.aI
 |change L3.sK
 |((exists L3.aL);(·fail "ev");(·fail "ev");(·rfl);(·rfl);(·fail "evf"))
 |((exists L3.ajV);(·fail "ev");(·rfl);(·rfl))
 |((exists L3.ai);(·fail "ev");(·fail "ev"))
 |((exists L3.bq);(·fail "ev");(·rfl))
 |((exists L3.fM);(·fail "ev");(·rfl);(·first|fail "evf"|rfl))
 |((exists L3.fF);(·fail "ev");(·rfl);(·rfl);(·with_reducible assumption))
 |((exists L3.cA);(·fail "ev");(·rfl);(·exact Sm rfl))
 |((exists L3.nY);(·fail "ev");(·rfl);(·exact Sm rfl))
 |((exists L3.El);(·fail "ev");(·rfl);(·rfl))
 |((exists L3.kB);(·fail "ev");(·rfl))
 |((exists L3.Cm);(·fail "ev");(·fail "ev");(·fail "ev");(·rfl);(·first|with_reducible assumption|rfl))
 |((exists L3.wP);(·fail "ev"))
 |((exists L3.qH);(·fail "ev");(·intro _;fail "ev"))
 |((exists L3.HB);(·fail "ev");(·intro _;fail "ev"))
 |((exists L3.agF);(·fail "ev"))
 |((exists L3.pZ);(·fail "ev");(·intro _;fail "ev"))
 |((exists L3.adW);(·fail "ev");(·intro _;fail "ev"))
 |((exists L3.Km);(·fail "ev");(·rfl);(·first|with_reducible assumption|rfl))
 |((exists L3.gu);(·fail "ev");(·rfl);(·rfl))
 |((exists L3.afT);(·fail "ev");(·rfl);(·rfl))
 |((exists L3.Ff);(·rfl);(·fail "ev");(·rfl);(·rfl);(·first|with_reducible assumption|(simp only[UM,SJ,L3.eJ] at*;omega));(·fail "nm"))
 |((exists L3.ais);(·rfl);(·fail "ev");(·rfl);(·rfl);(·with_reducible assumption);(·with_reducible assumption);(·with_reducible assumption);(·fail "nm"))
 |((exists L3.zh);(·fail "ev");(·rfl);(·fail "nm"))
 |((exists L3.Bz);(·fail "ev"))
 |((exists L3.wD);(·fail "ev");(·rfl)))
local macro_rules| `(tactic|fail "evb")=> `(tactic|first
 |((exists L3.ahK);(·fail "ev");(·fail "ev");(·rfl);(·rfl);(·fail "evf"))
 |((exists L3.ahg);(·fail "ev");(·rfl);(·rfl);(·with_reducible assumption))
 |((exists L3.ahR);(·fail "ev");(·rfl);(·first|fail "evf"|rfl))
 |fail "ev")
local macro_rules| `(tactic|fail "ev")=> `(tactic|first
 |with_reducible assumption
 |((exists L3.pZ);(·fail "ev");(·intro _;fail "evb"))
 |((exists L3.adW);(·fail "ev");(·intro _;fail "evb"))
 |((exists L3.yF);(·fail "ev");(·fail "ev");(·fail "ev");(·rfl);(·rfl);(·rfl);(·fail "evf");(·intro _;fail "evf"))
 |((exists L3.BV);(·fail "ev");(·rfl);(·rfl);(·rfl)))
local macro_rules| `(tactic|fail "go")=> `(tactic|first
 |((exists L3.di);(·fail "ev");(·rfl);(·fail "nm");try fail "go")
 |((exists L3.ahf);(·fail "ev");try fail "go")
 |((exists L3.aic);try fail "go")
 |((exists L3.gj);try fail "go")
 |((exists L3.ki);(·fail "ev");(·rfl))
 |((exists L3.oP);(·fail "ev"))
 |((exists L3.aiN);(·fail "ev");(·rfl);(·fail "nm"))
 |((exists L3.vf);(·fail "ev"))
 |((exists L3.fJ);(·fail "ev");(·rfl))
 |((exists L3.LM);(·fail "ev"))
 |(exists L3.BL))
namespace STP
open PySem L2 L3
def d8 (c:Nat):Str:=⟨#[97+c]⟩
inductive Mn where
 |S9 (c:Nat)
 |UZ (n:Int)
 |Xh (c:Nat) (n:Int)
 |once (n:Int)
 |none
 |below
 deriving DecidableEq
def mD:Mn->D
 | .S9 c=> .tuple [.str "letter",.str (d8 c)]
 | .UZ n=> .tuple [.str "layer",.int n]
 | .Xh c n=> .tuple [.str "tap",.str (d8 c),.int n]
 | .once n=> .tuple [.str "once",.int n]
 | .none=> .tuple [.str "none"]
 | .below=> .tuple [.str "below"]
def VM (L a:Int):Mn->Prop
 | .S9 c=>c<26
 | .UZ n=>1<=n/\n<a
 | .Xh c n=>c<26/\1<=n/\n<a
 | .once n=>1<=n/\n<a
 | .none=>True
 | .below=>L≠0
def Mn.isL:Mn->Bool
 | .S9 _=>Si
 |_=>Sq
structure Bd where
 n:Int
 ls:List (List Mn)
 cs:List (List Nat×Nat)
 wt:Int
def lH (l:List Mn):D:= .tuple (l.map mD)
def gB (c:List Nat×Nat):D:= .tuple [.tuple (bp c.1),.str (d8 c.2)]
def bD (b:Bd):D:= .tuple [.int b.n,.tuple (b.ls.map lH),.tuple (b.cs.map gB),.int b.wt]
def VL (n a:Int) (b:List (List Mn)):Prop:=∀(i:Nat) l,b[i]? =lD l->(l.length:Int)=n/\∀m∈l,VM i a m
def tV (l0:List Mn) (k:Nat):Bool:=(l0[k]?.map Mn.isL).getD Sq
def VC (l0:List Mn) (c:List Nat×Nat):Prop:=2<=c.1.length/\c.1.Pairwise (·<·)/\(∀k∈c.1,tV l0 k=Si)/\c.2<26
structure VB (b:Bd):Prop where
 n1:1<=b.n
 n5:b.n<=5
 l1:1<=b.ls.length
 l3:b.ls.length<=3
 vl:VL b.n b.ls.length b.ls
 c4:b.cs.length<=4
 vc:∀c∈b.cs,VC (b.ls.headD []) c
 cu:b.cs.Pairwise fun a c=>a.1≠c.1
 w1:1<=b.wt
 w4:b.wt<=4
def wn:Mn->Nat
 | .S9 _=>0
 | .UZ _=>1
 | .Xh _ _=>2
 | .once _=>3
 | .none=>4
 | .below=>5
def ws:Nat->Str
 |0=> "letter"
 |1=> "layer"
 |2=> "tap"
 |3=> "once"
 |4=> "none"
 |_=> "below"
def wd (m:Mn):Str:=ws (wn m)
theorem oS (m:Mn):wn m<6:=by cases m<;>exact Sm rfl
theorem oX (m:Mn):bj (mD m) (.int 0)=lD (.fz (.str (wd m))):=by cases m<;>exact ib
theorem LG (m:Mn):Sk.strOk (wd m)=Si:=(by left:∀i,i<6->Sk.strOk (ws i)=Si) _ (oS m)
theorem xt:∀i,i<6->∀j,j<6->(ws i==ws j)=decide (i=j):=by left
theorem x8 (m:Mn) (j:Nat) (a:j<6):cY (.str (wd m)) (.str (ws j))=lD (.fz (.bool (decide (wn m=j)))):=by rw[P8 (LG m) ((by left:∀i,i<6->Sk.strOk (ws i)=Si) j a)];unfold wd;rw[xt _ (oS m) _ a]
def Mn.isB:Mn->Bool
 | .below=>Si
 |_=>Sq
def Mn.abB:Mn->Bool
 | .UZ _=>Si
 |_=>Sq
def Mn.isT:Mn->Bool
 | .Xh _ _=>Si
 |_=>Sq
def Mn.isO:Mn->Bool
 | .once _=>Si
 |_=>Sq
theorem lj (m:Mn):cY (.str (wd m)) (.str "letter")=lD (.fz (.bool m.isL)):=(x8 m 0 (by decide)).trans (by cases m<;>rfl)
theorem GV (m:Mn):cY (.str (wd m)) (.str "below")=lD (.fz (.bool m.isB)):=(x8 m 5 (by decide)).trans (by cases m<;>rfl)
theorem G6 (m:Mn):cY (.str (wd m)) (.str "layer")=lD (.fz (.bool m.abB)):=(x8 m 1 (by decide)).trans (by cases m<;>rfl)
theorem MH (m:Mn):cY (.str (wd m)) (.str "tap")=lD (.fz (.bool m.isT)):=(x8 m 2 (by decide)).trans (by cases m<;>rfl)
theorem Kf (m:Mn):cY (.str (wd m)) (.str "once")=lD (.fz (.bool m.isO)):=(x8 m 3 (by decide)).trans (by cases m<;>rfl)
theorem P5 (m:Mn):pA (.str (wd m)) (.tuple [.str "layer",.str "once"])=lD (.fz (.bool (!(m.abB||m.isO)))):=by
 have h:∀a:Str,Sk.strOk a=Si->pA (.str a) (.tuple [.str "layer",.str "once"])=lD (.fz (.bool (!(("layer":Str)==a||("once":Str)==a)))):=fun a ha=>by show(if(jv (.str a)&&(Sk.strOk "layer"&&(Sk.strOk "once"&&Si)))=Si then lD (RV.fz (.bool (!(Sk.eqv (.str "layer") (.str a)||(Sk.eqv (.str "once") (.str a)||false))))) else Sg)=_;rw[show jv (.str a)=Si by unfold jv;rw[show Sk.canLay0 (.str a)=Si from ha];rfl,show Sk.strOk "layer"=Si by left,show Sk.strOk "once"=Si by left,aaa];rfl
 rw[h _ (LG m)];unfold wd;rw[show(("layer":Str)==ws (wn m))=_ from xt 1 (by decide) _ (oS m),show(("once":Str)==ws (wn m))=_ from xt 3 (by decide) _ (oS m)];cases m<;>rfl
def LB:Mn->Prop
 | .S9 c=>c<26
 | .Xh c _=>c<26
 |_=>True
theorem VM.lb (h:VM L nL m):LB m:=by
 cases m with
 |S9 c=>exact h
 |Xh c n=>exact h.1
 |_=>trivial
theorem rR (h:c<26):Sk.strOk (d8 c)=Si:=by show((#[97+c]:Array Nat).all fun c=>decide (c<0x110000))=Si;simp;omega
theorem vk (h:d8 c=d8 d):c=d:=by
 have:(97+c)=97+d:=by have a:=congrArg (fun z:Str=>z.cps.toList) h;exact List.head_eq_of_cons_eq a
 omega
theorem wO (h:LB m):Sk.canLay0 (mD m)=Si:=by
 cases m with
 |S9 c=>show(Sk.strOk "letter"&&(Sk.strOk (d8 c)&&Si))=Si;rw[rR h,show Sk.strOk "letter"=Si by left];rfl
 |UZ n=>show(Sk.strOk "layer"&&(Si&&Si))=Si;left
 |Xh c n=>show(Sk.strOk "tap"&&(Sk.strOk (d8 c)&&(Si&&Si)))=Si;rw[rR h,show Sk.strOk "tap"=Si by left];rfl
 |once n=>show(Sk.strOk "once"&&(Si&&Si))=Si;left
 |none=>show(Sk.strOk "none"&&Si)=Si;left
 |below=>show(Sk.strOk "below"&&Si)=Si;left
theorem EZ (h:LB m):jv (mD m)=Si:=by unfold jv;rw[wO h];cases m<;>rfl
def mR:Mn->List D
 | .S9 c=>[.str (d8 c)]
 | .UZ n=>[.int n]
 | .Xh c n=>[.str (d8 c),.int n]
 | .once n=>[.int n]
 | .none=>[]
 | .below=>[]
theorem Lg (m:Mn):mD m= .tuple (.str (wd m)::mR m):=by cases m<;>rfl
theorem Qa (a b:Mn):decide (wd a=wd b)=decide (wn a=wn b):=by have h:=xt _ (oS a) _ (oS b);unfold wd;rw[<-h];rfl
theorem CP (c d:Nat):decide (d8 c=d8 d)=decide (c=d):=decide_eq_decide.mpr ⟨vk,fun h=>by rw[h]⟩
theorem NY (a b:Mn) (h:wn a=wn b):Sk.eqvAll (mR a) (mR b)=decide (a=b):=by
 cases a<;>cases b<;>first|cases h|skip
 .show(decide (d8 _=d8 _)&&Si)=_;rw[CP,Yq];exact decide_eq_decide.mpr ⟨fun h=>by rw[h],fun h=>by cases h;rfl⟩
 .show(decide (_=_)&&Si)=_;rw[Yq];exact decide_eq_decide.mpr ⟨fun h=>by rw[h],fun h=>by cases h;rfl⟩
 .show(decide (d8 _=d8 _)&&(decide (_=_)&&Si))=_;rw[CP,Yq,<-Bool.decide_and];exact decide_eq_decide.mpr ⟨fun h=>by rw[h.1,h.2],fun h=>by cases h;exact⟨rfl,rfl⟩⟩
 .show(decide (_=_)&&Si)=_;rw[Yq];exact decide_eq_decide.mpr ⟨fun h=>by rw[h],fun h=>by cases h;rfl⟩
 .rfl
 .rfl
theorem MK (a b:Mn):Sk.eqv (mD a) (mD b)=decide (a=b):=by
 rw[Lg,Lg];show(decide (wd a=wd b)&&Sk.eqvAll (mR a) (mR b))=_;rw[Qa];by_cases h:wn a=wn b
 .rw[decide_eq_true h,Yp,NY a b h]
 .rw[decide_eq_false h,WB,decide_eq_false fun z=>h (by rw[z])]
theorem BH:∀{l:List Mn},(∀m∈l,LB m)->Sk.canLayAll0 (l.map mD)=Si
 |[],_=>rfl
 |m::r,h=>by show(Sk.canLay0 (mD m)&&Sk.canLayAll0 (r.map mD))=Si;rw[wO (h m Sv),BH fun x a=>h x (Sy _ a)];rfl
theorem Bk (a:Mn):∀l:List Mn,((l.map mD).any fun e=>Sk.eqv e (mD a))=decide (a∈l)
 |[]=>rfl
 |m::r=>by rw[SN,Wj,Bk a r,MK,<-Bool.decide_or];exact decide_eq_decide.mpr (by rw[SS];exact⟨fun h=>h.imp (fun z=>z.symm) id,fun h=>h.imp (fun z=>z.symm) id⟩)
theorem Kl {l:List Mn} (ha:LB a) (b:∀m∈l,LB m):KR (mD a) (.list (l.map mD))=lD (.fz (.bool (decide (a∈l)))):=by show(if(jv (mD a)&&Sk.canLayAll0 (l.map mD))=Si then _ else _)=_;rw[EZ ha,BH b,T7,if_pos rfl,Bk]
theorem wI (e:α->D) (g:α->Option D) (I:aY->Prop) (xs:List α) (p:I ρ) (i:xs.length<=1000) (b:∀x∈xs,∀ρ,I ρ->∃ρ',kF gt ft fe (e x) ρ= .ok (g x,ρ')/\I ρ'):kJ (dS gt ft fe (xs.map e) ρ [])= .ok (xs.filterMap g):=by
 have h:∀(xs:List α) (a:List D) (ρ:aY),I ρ->a.length+xs.length<=1000->(∀x∈xs,∀ρ,I ρ->∃ρ',kF gt ft fe (e x) ρ= .ok (g x,ρ')/\I ρ')->dS gt ft fe (xs.map e) ρ a= .ok (a++xs.filterMap g):=by
  intro xs
  induction xs with
  |nil=>intro a ρ _ _ _;show Res.ok a=_;rw[List.filterMap_nil,S8]
  |cons x r j=>
   intro a ρ m i b;rw[SJ] at i;obtain⟨ρ',o,n⟩:=b x Sv ρ m;rw[SN,sT o (by omega)];have f:(a++(g x).toList).length+r.length<=1000:=by
    rw[Su];cases g x with
    |none=>rw[abh,UM];omega
    |some y=>rw[Option.toList_some,Wb];omega
   rw[j _ ρ' n f fun y l=>b y (Sy _ l),Tw];cases q:g x with
   |none=>rw[W5 q];rfl
   |some y=>rw[W6 q];rfl
 rw[h xs [] ρ p (by simpa using i) b];rfl
theorem Cg (a:cT cp=cp):cT (lD (PV.fz d)::cp)=lD (.fz d)::cp:=by show Hj _::cT cp=_;rw[a];rfl
theorem pY {α:Type} {ft:FT} {fe:FE} {a:aY} (e f:α->D) (p:α->Bool) (xs:List α) (j:xs.length<=1000) (m:cT a=a) (h:∀x∈xs,ft (lD (.fz (e x))::a)= .ok (p x,lD (.fz (e x))::a)) (l:∀x∈xs,p x=Si->fe (lD (.fz (e x))::a)= .ok (.fz (f x),lD (.fz (e x))::a)):kJ (dS (gN 0) ft fe (xs.map e) (Sg::a) [])= .ok ((xs.filter p).map f):=by
 rw[wI e (fun x=>if p x=Si then lD (f x) else Sg) (fun ρ=>∃o,ρ=o::a) xs ⟨Sg,rfl⟩ j ?_]
 .congr 1
  clear j h l
  induction xs with
  |nil=>rfl
  |cons x r i=>
   cases q:p x with
   |true=>rw[W6 (b:=f x) (by rw[if_pos q]),aam q,i];rfl
   |false=>rw[W5 (by rw[if_neg (by rw[q];simp)]),aan (by rw[q];simp),i]
 .rintro x g ρ ⟨o,rfl⟩
  cases q:p x with
  |true=>exact⟨_,AD rfl ((h x g).trans (by rw[q])) (l x g q) rfl (Cg m),_,rfl⟩
  |false=>exact⟨_,N5 rfl ((h x g).trans (by rw[q])) (Cg m),_,rfl⟩
theorem zC (xs:List α):xs.filter (fun _=>Si)=xs:=List.filter_eq_self.mpr fun _ _=>rfl
theorem nc {α:Type} (e f:α->D) (xs:List α) (b:xs.length<=1000) (h:cT cp=cp) (g:∀x∈xs,fe (lD (.fz (e x))::cp)= .ok (.fz (f x),lD (.fz (e x))::cp)):kJ (dS (gN 0) fy fe (xs.map e) (Sg::cp) [])= .ok (xs.map f):=by rw[pY e f (fun _=>Si) xs b h (fun _ _=>rfl) fun x a _=>g x a,zC]
theorem yC (p:α->Bool):∀l:List α,wy (l.map fun c=>Sk.bool (p c))=lD (l.map p)
 |[]=>rfl
 |c::r=>by show(wy (r.map fun c=>Sk.bool (p c))).map (p c::·)=_;rw[yC p r];rfl
theorem E1 (p:α->Bool) (l:List α):Gu [.list (l.map fun c=>Sk.bool (p c))]=lD (.fz (.bool (l.all p))):=by show(wy _).map (fun bs=>RV.fz (.bool (bs.all id)))=_;rw[yC];show lD (RV.fz (.bool _))=_;rw[List.all_map];rfl
theorem qO:∀ns:List Int,oG (ns.map Sk.int)=lD ns
 |[]=>rfl
 |n::r=>by show(oG (r.map Sk.int)).map (n::·)=_;rw[qO r];rfl
abbrev Ac:=Nat->Option Mn
abbrev Wq:=Option (List Nat×Int×Option (Nat×Int))
structure UQ where
 ac:Ac
 wt:Wq
 oc:Option Int
def fW (ac:Ac):List (Nat×Mn):=(S6 5).filterMap fun k=>(ac k).map fun a=>(k,a)
def pD (p:Nat×Mn):D:= .tuple [nd p.1,mD p.2]
def si:Option (Nat×Int)->D
 |some (c,n)=>mD (.Xh c n)
 |none=> .tuple [.str "chord"]
def iQ:Wq->D
 |some (ks,a,w)=> .tuple [.tuple (bp ks),.int a,si w]
 |none=> .none
def pd:Option Int->D
 |some o=> .int o
 |none=> .none
def dr (s:UQ):D:= .tuple [.tuple ((fW s.ac).map pD),iQ s.wt,pd s.oc]
inductive Wn where
 |down (k:Nat)
 |up (k:Nat)
 |turn
def cI:Wn->D
 | .down k=> .tuple [.str "down",nd k]
 | .up k=> .tuple [.str "up",nd k]
 | .turn=> .tuple [.str "turn",.int 0]
theorem eX:p∈fW ac↔p.1<5/\ac p.1=lD p.2:=by
 unfold fW;rw[WC];constructor
 .rintro⟨k,e,b⟩
  cases q:ac k with
  |none=>rw[q] at b;cases b
  |some a=>rw[q] at b;cases b;exact⟨U1.mp e,q⟩
 .rintro⟨e,b⟩;exact⟨p.1,U1.mpr e,by rw[b];rfl⟩
theorem vA (ac:Ac):(fW ac).length<=5:=List.length_filterMap_le _ _
def HP:Nat×Mn->Option Int
 |(_,.UZ n)=>lD n
 |_=>Sg
def xM (ac:Ac):Int:=(((fW ac).filterMap HP).foldl kO Sg).getD 0
def jD (ac:Ac):Option Int->Int
 |some o=>o
 |none=>xM ac
theorem F8 (ac:Ac):kJ (dS (gT 2 (BU (gN 0) (BU (gN 1) Lo))) (aF (aJ cY (aJ bj (aa 1) (~~~0)) (pC (.str "layer")))) (aJ bj (aa 1) (~~~1)) ((fW ac).map pD) [Sg,Sg] [])= .ok (((fW ac).filterMap HP).map .int):=by
 rw[wI pD (fun p=>(HP p).map .int) (fun ρ=>∃e b,ρ=[e,b]) (fW ac) ⟨Sg,Sg,rfl⟩ (Tg (vA ac) (by decide)) ?_,List.map_filterMap];rintro⟨k,a⟩ _ ρ ⟨e,b,rfl⟩;have h:=oX a;have g:=G6 a;have f:aF (aJ cY (aJ bj (aa 1) (~~~0)) (pC (.str "layer"))) [lD (.fz (nd k)),lD (.fz (mD a))]= .ok (a.abB,[lD (.fz (nd k)),lD (.fz (mD a))]):=by fail "ev"
 refine⟨[lD (.fz (nd k)),lD (.fz (mD a))],?_,_,_,rfl⟩;cases a with
 |UZ n=>exact AD rfl f (aL (af rfl) aD rfl rfl iw) rfl rfl
 |_=>exact N5 rfl f rfl
theorem yz (s:UQ):dC [dr s]= .ok (.fz (.int (jD s.ac s.oc))):=by
 refine jE rfl ?_;have a:bj (dr s) (.int 2)=lD (.fz (pd s.oc)):=pI;have e0:bj (dr s) (.int 0)=lD (.fz (.tuple ((fW s.ac).map pD))):=ib;unfold mv;cases q:s.oc with
 |some o=>
  rw[q] at a;have b:lJ (pd (lD o)) .none=lD (.fz (.bool Si)):=rfl;fail "go"
  .intro _;exact ki (by fail "ev") rfl rfl
  .intro h;cases h
 |none=>
  rw[q] at a;have b:lJ (pd Sg) .none=lD (.fz (.bool Sq)):=rfl;fail "go"
  .intro h;cases h
  .intro _;refine gj (fJ (fM (rv:= .fz (.int (xM s.ac))) (ai (d4 (by fail "ev") rfl (F8 s.ac)) aI) rfl ?_) rfl rfl);show(oG _).map _=_;rw[qO];rfl
def j4 (b:Bd) (L k:Nat):Mn:=((b.ls[L]?.getD [])[k]?).getD .none
def look (b:Bd) (L:Int) (k:Nat):Mn:=if(j4 b L.toNat k).isB=Si then j4 b 0 k else j4 b L.toNat k
section
variable {b:Bd} (Z:VB b)
include Z
theorem KY {L k:Nat} (a:L<b.ls.length) (f:(k:Int)<b.n):∃l,b.ls[L]? =lD l/\l[k]? =lD (j4 b L k):=by
 have g:=Z.vl L _ (SI a);have e:k<(b.ls[L]).length:=by omega
 refine⟨_,SI a,?_⟩;unfold j4;rw[SI a,YQ,SI e];rfl
theorem AE {L k:Nat} (e:L<b.ls.length) (a:(k:Int)<b.n):VM L b.ls.length (j4 b L k):=by obtain⟨l,g,f⟩:=KY Z e a;exact(Z.vl L l g).2 _ (S7 f)
theorem Hg {L k:Nat} (e:L<b.ls.length) (a:(k:Int)<b.n):∃d,bj (.tuple (b.ls.map lH)) (nd L)=lD (.fz d)/\bj d (nd k)=lD (.fz (mD (j4 b L k))):=by obtain⟨l,g,f⟩:=KY Z e a;exact⟨lH l,NM (by rw[Sx,g];rfl),NM (by rw[Sx,f];rfl)⟩
theorem Ix {L:Int} {k:Nat} (r:0<=L) (p:L<b.ls.length) (e:(k:Int)<b.n):iM [bD b,.int L,nd k]= .ok (.fz (mD (look b L k))):=by
 obtain⟨n,rfl⟩:∃n:Nat,L=(n:Int):=⟨L.toNat,by omega⟩;have o:=Z.l1;obtain⟨d,u,j⟩:=Hg Z (L:=n) (by omega) e;obtain⟨l,i,h⟩:=Hg Z (L:=0) (by omega) e;have v:bj (bD b) (.int 1)=lD (.fz (.tuple (b.ls.map lH))):=iw;have g:=oX (j4 b n k);have f:=GV (j4 b n k);have t:bj (.tuple (b.ls.map lH)) (.int 0)=lD (.fz l):=i;have a:look b (n:Int) k=if(j4 b n k).isB=Si then j4 b 0 k else j4 b n k:=rfl
 rw[a];generalize j4 b n k=m at j g f a;generalize j4 b 0 k=m0 at h a;refine jE rfl ?_;unfold kS;fail "go"
 .intro q;rw[if_pos q];exact ki (by fail "ev") rfl rfl
 .intro q;rw[if_neg (by rw[q];simp)];exact gj (fJ (by fail "ev") rfl rfl)
theorem vU {L:Int} {k:Nat} (g:0<=L) (i:L<b.ls.length) (f:(k:Int)<b.n):VM L b.ls.length (look b L k)/\look b L k≠ .below:=by
 have h:=Z.l1;have a:=AE Z (L:=0) (k:=k) (by omega) f;have v:=AE Z (L:=L.toNat) (k:=k) (by omega) f;have e:j4 b 0 k≠ .below:=fun z=>by rw[z] at a;exact a rfl
 rw[abL g] at v;unfold look;split
 .refine⟨?_,e⟩
  generalize j4 b 0 k=m at a e;cases m with
  |below=>exact absurd rfl e
  |_=>exact a
 .rename_i q;refine⟨v,fun z=> ?_⟩;rw[z] at q;exact q rfl
omit Z in
theorem He (ks:List Nat) (a:ks.length<=5) (c:List Nat×Nat):aF (iB Gu {fC 1 [0] (ji (aa 1)) (gN 0) fy (aJ KR (aa 0) (aJ bj (aa 1) (~~~0)))}) [lD (.fz (gB c)),lD (.fz (.tuple (bp ks)))]= .ok (ks.all fun k=>decide (k∈c.1),[lD (.fz (gB c)),lD (.fz (.tuple (bp ks)))]):=by
 have e:kJ (dS (gN 0) fy (aJ KR (aa 0) (aJ bj (aa 1) (~~~0))) (bp ks) [Sg,lD (.fz (gB c))] [])= .ok (ks.map fun k=> .bool (decide (k∈c.1))):=nc nd (fun k=> .bool (decide (k∈c.1))) ks (by omega) rfl fun k _=>by have e0:bj (gB c) (.int 0)=lD (.fz (.tuple (bp c.1))):=ib;exact aL (rv:= .fz (.bool (decide (k∈c.1)))) (af rfl) (by fail "ev") rfl rfl (vH _ _)
 exact bq (fM (rv:= .fz (.bool (ks.all fun k=>decide (k∈c.1)))) (ds:=[.list (ks.map fun k=> .bool (decide (k∈c.1)))]) (ai (d4 (cs:=[gB c]) (ds:=bp ks) (by fail "ev") rfl e) aI) rfl (E1 _ _)) rfl
def dY (b:Bd) (ks:List Nat):List (List Nat×Nat):=b.cs.filter fun c=>ks.all fun k=>decide (k∈c.1)
theorem B8 (a:ks.length<=5):bF [bD b,.tuple (bp ks)]= .ok (.ow ((dY b ks).map gB)):=by have f:bj (bD b) (.int 2)=lD (.fz (.tuple (b.cs.map gB))):=pI;have e:=Z.c4;refine jE rfl ?_;unfold iW;exact fJ (d4 (cs:=[.tuple (bp ks)]) (by fail "ev") rfl (pY gB gB (fun c=>ks.all fun k=>decide (k∈c.1)) b.cs (by omega) rfl (fun c _=>He ks a c) fun c _ _=>af rfl)) rfl rfl
def pB (ks:List Nat):List Nat:=(kX (ks.map Zd)).map aaD
omit Z in
theorem sR (ks:List Nat):(pB ks).Perm ks:=by have h:=(fq (ks.map Zd)).map aaD;rw[Tr] at h;exact h.trans (by rw[show(aaD∘Zd)=id from funext fun x=>rfl,List.map_id])
omit Z in
theorem Jr (ks:List Nat):(kX (ks.map Zd)).map Sk.int=bp (pB ks):=by unfold pB bp;rw[Tr];refine Wu fun x a=> ?_;obtain⟨n,_,rfl⟩:=Ta.mp ((fq _).mem_iff.mp a);rfl
omit Z in
theorem zp (ks:List Nat):(pB ks).Pairwise (·<=·):=by
 have h:∀l:List Int,l.Pairwise (·<=·)->(l.map aaD).Pairwise (·<=·):=fun l h=>by rw[WY];exact h.imp fun h=>by omega
 exact h _ (eG _)
omit Z in
theorem Kc (ks:List Nat):(pB ks).length=ks.length:=(sR ks).length_eq
omit Z in
theorem yn {ks:List Nat} (h:ks.length<64):L9.gR [.tuple (bp ks)]=lD (.ow (bp (pB ks))):=by
 have e:bp ks=(ks.map Zd).map Sk.int:=by rw[Tr];rfl
 show(match oG (bp ks) with
  |some a=>if a.length<64 then lD (RV.ow ((kX a).map .int)) else Sg
  |none=>Sg)=_
 rw[e,qO];dsimp only;rw[if_pos (by rw[Sj];exact h),Jr]
def K1 (b:Bd) (ks:List Nat):List Mn:=match b.cs.find? fun c=>decide (c.1=pB ks) with
 |some c=> .S9 c.2::Sz (ks.length - 1) .none
 |none=>ks.map (j4 b 0)
omit Z in
omit Z in
theorem PR (n:Nat) (d:D):(Sz n [d]).flatten=Sz n d:=by
 induction n with
 |zero=>rfl
 |succ n a=>rw[TK,UU,a];rfl
theorem Oz {ks:List Nat} (H:1<=ks.length) (G:ks.length<=5) (C:∀k∈ks,(k:Int)<b.n):fE [bD b,.tuple (bp ks)]= .ok (.ow ((K1 b ks).map mD)):=by
 have I:bj (bD b) (.int 2)=lD (.fz (.tuple (b.cs.map gB))):=pI;have J:bj (bD b) (.int 1)=lD (.fz (.tuple (b.ls.map lH))):=iw;have F:=Z.l1;have i:=yn (ks:=ks) (by omega);refine jE rfl ?_;unfold jU;have rt:∀c:List Nat×Nat,(aJ dI (dU {bB {pC (.str "letter"),aJ bj (aa 2) (~~~1)}}) (aJ i9 (dU {pC (.tuple [(.str "none")])}) (aJ tN (iB eU {aa 1}) (~~~1)))) [lD (.fz (bD b)),lD (.fz (.tuple (bp ks))),lD (.fz (gB c))]= .ok (.ow ((Mn.S9 c.2::Sz (ks.length - 1) Mn.none).map mD),[lD (.fz (bD b)),lD (.fz (.tuple (bp ks))),lD (.fz (gB c))]):=fun c=>by
  have l:bj (gB c) (.int 1)=lD (.fz (.str (d8 c.2))):=iw;have j:i9 (.list [.tuple [.str "none"]]) (.int (((bp ks).length:Int) - 1))=lD (.ow (Sz (ks.length - 1) (.tuple [.str "none"]))):=by rw[eJ,show((ks.length:Int) - 1)=((ks.length - 1:Nat):Int) by omega];exact(Op (by omega) (by decide)).trans (by rw[PR])
  have y:dI (.list [mD (.S9 c.2)]) (.list (Sz (ks.length - 1) (.tuple [.str "none"])))=lD (.ow ((Mn.S9 c.2::Sz (ks.length - 1) Mn.none).map mD)):=by show(if 1+(Sz (ks.length - 1) (Sk.tuple [.str "none"])).length<=1000000 then lD (RV.ow ([mD (.S9 c.2)]++Sz (ks.length - 1) (Sk.tuple [.str "none"]))) else Sg)=_;rw[Tj,if_pos (by omega),SN,List.map_replicate];rfl
  exact aL (by fail "ev") (aL (by fail "ev") (aL (by fail "ev") aD rfl rfl (vG _ _)) rfl rfl j) rfl rfl y
 have f:∀(e:List (List Nat×Nat)) (o:Option PV),(∀c,e.find? (fun c=>decide (c.1=pB ks))=lD c->pE (gN 2) (nK (aF (aJ cY (iB vt {aJ bj (aa 2) (~~~0)}) (iB L9.gR {aa 1}))) (eO (aJ dI (dU {bB {pC (.str "letter"),aJ bj (aa 2) (~~~1)}}) (aJ i9 (dU {pC (.tuple [(.str "none")])}) (aJ tN (iB eU {aa 1}) (~~~1))))) fO) (e.map gB) [lD (.fz (bD b)),lD (.fz (.tuple (bp ks))),o]= .ok (.rt (.ow ((Mn.S9 c.2::Sz (ks.length - 1) Mn.none).map mD))))/\
   (e.find? (fun c=>decide (c.1=pB ks))=Sg->∃u,pE (gN 2) (nK (aF (aJ cY (iB vt {aJ bj (aa 2) (~~~0)}) (iB L9.gR {aa 1}))) (eO (aJ dI (dU {bB {pC (.str "letter"),aJ bj (aa 2) (~~~1)}}) (aJ i9 (dU {pC (.tuple [(.str "none")])}) (aJ tN (iB eU {aa 1}) (~~~1))))) fO) (e.map gB) [lD (.fz (bD b)),lD (.fz (.tuple (bp ks))),o]= .ok (.nx [lD (.fz (bD b)),lD (.fz (.tuple (bp ks))),u])):=by
  intro e
  induction e with
  |nil=>exact fun o=>⟨fun c h=>(by cases h),fun _=>⟨o,rfl⟩⟩
  |cons c r B=>
   intro o;have E:bj (gB c) (.int 0)=lD (.fz (.tuple (bp c.1))):=ib
   have a:aF (aJ cY (iB vt {aJ bj (aa 2) (~~~0)}) (iB L9.gR {aa 1})) [lD (.fz (bD b)),lD (.fz (.tuple (bp ks))),lD (.fz (gB c))]= .ok (decide (c.1=pB ks),[lD (.fz (bD b)),lD (.fz (.tuple (bp ks))),lD (.fz (gB c))]):=
    bq (aL (fM (by fail "ev") rfl rfl) (fM (by fail "ev") rfl i) rfl rfl (vP _ _)) rfl
   rw[Tu];by_cases h:c.1=pB ks
   .rw[decide_eq_true h] at a⊢;refine⟨fun K t=> ?_,fun t=>(by cases t)⟩;cases t;show((gN 2 (.fz (gB c)) [lD (.fz (bD b)),lD (.fz (.tuple (bp ks))),o]).bind fun g=>_)=_;rw[Gj,Res.bind_ok];show((nK _ _ _ [lD (.fz (bD b)),lD (.fz (.tuple (bp ks))),lD (.fz (gB c))]).bind _)=_;rw[Q7 a,wD (rt c) rfl];rfl
   .rw[decide_eq_false h] at a⊢
    have w:pE (gN 2) (nK (aF (aJ cY (iB vt {aJ bj (aa 2) (~~~0)}) (iB L9.gR {aa 1}))) (eO (aJ dI (dU {bB {pC (.str "letter"),aJ bj (aa 2) (~~~1)}}) (aJ i9 (dU {pC (.tuple [(.str "none")])}) (aJ tN (iB eU {aa 1}) (~~~1))))) fO) ((c::r).map gB) [lD (.fz (bD b)),lD (.fz (.tuple (bp ks))),o]=pE (gN 2) (nK (aF (aJ cY (iB vt {aJ bj (aa 2) (~~~0)}) (iB L9.gR {aa 1}))) (eO (aJ dI (dU {bB {pC (.str "letter"),aJ bj (aa 2) (~~~1)}}) (aJ i9 (dU {pC (.tuple [(.str "none")])}) (aJ tN (iB eU {aa 1}) (~~~1))))) fO) (r.map gB) [lD (.fz (bD b)),lD (.fz (.tuple (bp ks))),lD (.fz (gB c))]:=by show((gN 2 (.fz (gB c)) [lD (.fz (bD b)),lD (.fz (.tuple (bp ks))),o]).bind fun g=>_)=_;rw[Gj,Res.bind_ok];show((nK _ _ _ [lD (.fz (bD b)),lD (.fz (.tuple (bp ks))),lD (.fz (gB c))]).bind _)=_;rw[Q2 a];rfl
    rw[w];exact B _
 obtain⟨A,m⟩:=f b.cs Sg;have v:ji (aJ bj (aa 0) (~~~2)) [lD (.fz (bD b)),lD (.fz (.tuple (bp ks))),Sg]= .ok (b.cs.map gB,[lD (.fz (bD b)),lD (.fz (.tuple (bp ks))),Sg]):=by fail "ev"
 unfold K1;cases q:b.cs.find? fun c=>decide (c.1=pB ks) with
 |some c=>exact .eq (Gw ((Ay v).trans (A c q))) ⟨rfl⟩
 |none=>obtain⟨u,m⟩:=m q;refine .eq (G8 ((Ay v).trans m)) ?_;refine fJ (d4 (by fail "ev") rfl ?_) rfl rfl;rw[Tr];refine nc nd (mD∘j4 b 0) ks (by omega) rfl fun k p=> ?_;obtain⟨d,l,j⟩:=Hg Z (L:=0) (by omega) (C k p);have l:bj (.tuple (b.ls.map lH)) (.int 0)=lD (.fz d):=l;exact aL (by fail "ev") (af rfl) rfl rfl j
end
end STP
local macro_rules|`(-($x))=>`(Option.some (.fz $x))
namespace STP
open PySem L2 L3
open L10
def kg (p:Nat×Mn):cJ×SV:=(.inl (p.1:Int),.fz (mD p.2))
def kj (ac:Ac) (k:Nat) (o:Option Mn):Ac:=fun j=>if j=k then o else ac j
theorem dQ:kj ac k o k=o:=by unfold kj;rw[if_pos rfl]
theorem eZ (h:j≠k):kj ac k o j=ac j:=by unfold kj;rw[if_neg h]
theorem Gg (ac:Ac):(fW ac).Pairwise fun p q=>p.1<q.1:=by
 unfold fW;refine afb _ (fun a g h p f q b=> ?_) (aaE);cases e:ac a with
 |none=>rw[e] at f;cases f
 |some x=>
  cases e':ac g with
  |none=>rw[e'] at b;cases b
  |some y=>rw[e] at f;rw[e'] at b;cases f;cases b;exact h
theorem sA (ac:Ac):((fW ac).map (·.1)).Nodup:=by rw[TX,WY];exact(Gg ac).imp fun h=>S1 h
theorem Cz {l:List (Nat×Mn)} (h:(l.map (·.1)).Nodup):l.Nodup:=by rw[TX,WY] at h;exact h.imp fun h e=>h (by rw[e])
theorem r9 {l:List (Nat×Mn)} (h:(l.map (·.1)).Nodup) (hm:∀p,p∈l↔p.1<5/\ac p.1=lD p.2):l.Perm (fW ac):=
 (List.perm_ext_iff_of_nodup (Cz h) (Cz (sA ac))).mpr fun p=>(hm p).trans eX.symm
section
variable {ps:List (Nat×Mn)} {ac:Ac} (Z:ps.Perm (fW ac))
include Z
theorem kQ:p∈ps↔p.1<5/\ac p.1=lD p.2:=Z.mem_iff.trans eX
theorem F4:(ps.map (·.1)).Nodup:=(Z.map (·.1)).nodup_iff.mpr (sA ac)
theorem GD:ps.length<=5:=by rw[Z.length_eq];exact vA ac
theorem nF {k:Nat} (f:k<5):jI (ps.map kg) (.inl (k:Int))=(ac k).map fun a=>SV.fz (mD a):=by
 unfold jI;cases q:(ps.map kg).find? fun b=>decide (b.1=(.inl (k:Int):cJ)) with
 |none=>
  cases e:ac k with
  |none=>rfl
  |some a=>have:=List.find?_eq_none.mp q (kg (k,a)) (Ta.mpr ⟨(k,a),(kQ Z).mpr ⟨f,e⟩,rfl⟩);exact absurd (decide_eq_true rfl) this
 |some b=>
  obtain⟨p,i,rfl⟩:=Ta.mp (WQ q);have h:=of_decide_eq_true (List.find?_some (p:=fun b:cJ×SV=>decide (b.1=(.inl (k:Int):cJ))) q);have g:p.1=k:=by have:=Sum.inl.inj h;omega
  rw[<-g,((kQ Z).mp i).2];rfl
theorem Ik {k:Nat} (o:k<5):∃qs:List (Nat×Mn),jZ (ps.map kg) (.inl (k:Int)) (.fz (mD a))=qs.map kg/\qs.Perm (fW (kj ac k (lD a))):=by
 unfold jZ;have g:∀p:Nat×Mn,((kg p).1=(.inl (k:Int):cJ))↔p.1=k:=fun p=>⟨fun h=>by have:=Sum.inl.inj h;omega,fun h=>by rw[<-h];rfl⟩;split
 .rename_i h
  refine⟨ps.map fun p=>if p.1=k then(k,a) else p,?_,r9 ?_ fun p=> ?_⟩
  .rw[Tr,Tr]
   refine Wu fun p _=> ?_;show(if(kg p).1=(.inl (k:Int):cJ) then((kg p).1,SV.fz (mD a)) else kg p)=kg (if p.1=k then(k,a) else p);by_cases e:p.1=k
   .rw[if_pos ((g p).mpr e),if_pos e,(g p).mpr e];rfl
   .rw[if_neg (fun z=>e ((g p).mp z)),if_neg e]
  .rw[Tr,show ps.map ((·.1)∘fun p:Nat×Mn=>if p.1=k then(k,a) else p)=ps.map (·.1) from Wu fun p _=>by
    show(if p.1=k then(k,a) else p).1=p.1;split
    .rename_i e;exact e.symm
    .rfl]
   exact F4 Z
  .obtain⟨w,l,j⟩:=Y7.mp h
   obtain⟨n,v,rfl⟩:=Ta.mp l;have b:=(g n).mp (of_decide_eq_true j);rw[Ta];constructor
   .rintro⟨r,u,rfl⟩
    split
    .exact⟨o,dQ⟩
    .rename_i e;have:=(kQ Z).mp u;exact⟨this.1,by rw[eZ e];exact this.2⟩
   .rintro⟨f,i⟩
    by_cases e:p.1=k
    .rw[e,dQ] at i;refine⟨n,v,?_⟩;rw[if_pos b,<-e,SM i]
    .rw[eZ e] at i;exact⟨p,(kQ Z).mpr ⟨f,i⟩,by rw[if_neg e]⟩
 .rename_i h
  have hn:=fun p m e=>h (Y7.mpr ⟨kg p,Ta.mpr ⟨p,m,rfl⟩,decide_eq_true ((g p).mpr e)⟩);refine⟨ps++[(k,a)],by rw[S5];rfl,r9 ?_ fun p=> ?_⟩
  .rw[S5,V0];refine⟨F4 Z,Um.mpr ⟨Ue,X1⟩,fun x t y q=> ?_⟩;obtain⟨p,b,rfl⟩:=Ta.mp t;rw[SQ.mp q];exact hn p b
  .rw[Tx,SQ]
   constructor
   .rintro(b|rfl)
    .have:=(kQ Z).mp b;exact⟨this.1,by rw[eZ (hn p b)];exact this.2⟩
    .exact⟨o,dQ⟩
   .rintro⟨b,f⟩
    by_cases e:p.1=k
    .rw[e,dQ] at f;exact .inr (by rw[<-e,SM f])
    .rw[eZ e] at f;exact .inl ((kQ Z).mpr ⟨b,f⟩)
theorem F6 {k:Nat}:∃qs:List (Nat×Mn),mr (ps.map kg) (.inl (k:Int))=qs.map kg/\qs.Perm (fW (kj ac k Sg)):=by
 have g:∀p:Nat×Mn,((kg p).1=(.inl (k:Int):cJ))↔p.1=k:=fun p=>⟨fun h=>by have:=Sum.inl.inj h;omega,fun h=>by rw[<-h];rfl⟩;refine⟨ps.filter fun p=>decide (p.1≠k),?_,r9 ?_ fun p=> ?_⟩
 .unfold mr;rw[List.filter_map];congr 1;refine List.filter_congr fun p _=> ?_;exact decide_eq_decide.mpr (not_congr (g p))
 .exact ajj ((List.filter_sublist).map _) (F4 Z)
 .rw[T6,kQ Z,decide_eq_true_eq]
  constructor
  .rintro⟨⟨b,a⟩,f⟩;exact⟨b,by rw[eZ f];exact a⟩
  .rintro⟨b,a⟩
   by_cases e:p.1=k
   .rw[e,dQ] at a;cases a
   .rw[eZ e] at a;exact⟨⟨b,a⟩,e⟩
theorem FQ:aC zJ ((ps.map kg).map (·.1))=lD (ps.map fun p=>(p.1:Int)):=by
 clear Z
 induction ps with
 |nil=>rfl
 |cons p r a=>rw[SN,SN];unfold aC;rw[a];rfl
theorem F0:kX (ps.map fun p=>(p.1:Int))=(fW ac).map fun p=>(p.1:Int):=by refine k8 ((fq _).trans (Z.map _)) (eG _) ?_;rw[WY];exact(Gg ac).imp fun h=>by omega
end
abbrev Sn:=List (Nat×Bool)
def mq (ac:Ac) (a:Mn):Bool:=decide (a∈(fW ac).map (·.2))
def sW (ac:Ac):Mn->Sn
 | .S9 c=>if mq ac (.S9 c)=Si then[] else[(c,Si)]
 |_=>[]
def Ly (ac:Ac):Mn->Sn
 | .S9 c=>if mq ac (.S9 c)=Si then[] else[(c,Sq)]
 |_=>[]
def eN (p:UQ×Sn) (k:Nat) (a:Mn):UQ×Sn:=({p.1 with ac:=kj p.1.ac k (lD a)},p.2++sW p.1.ac a)
def go (p:UQ×Sn) (k:Nat):UQ×Sn:=match p.1.ac k with
 |some a=>({p.1 with ac:=kj p.1.ac k Sg},p.2++Ly (kj p.1.ac k Sg) a)
 |none=>p
def gO (p:UQ×Sn) (a:List (Nat×Mn)):UQ×Sn:=a.foldl (fun p q=>eN p q.1 q.2) p
def fZ (b:Bd) (ks:List Nat):Option (Nat×Int)->List Mn
 |some (_,n)=>[.UZ n]
 |none=>K1 b ks
def cb (b:Bd) (p:UQ×Sn):UQ×Sn:=match p.1.wt with
 |none=>p
 |some (ks,_,w)=>gO ({p.1 with wt:=Sg},p.2) (ks.zip (fZ b ks w))
def yj:Wq->Nat->Bool
 |some (ks,_,_),k=>decide (k∈ks)
 |none,_=>Sq
def Az (b:Bd) (s:UQ) (k:Nat):Bool:=match s.wt with
 |some (ks,_,Sg)=>decide (jD s.ac s.oc=0)&& !(dY b (ks++[k])).isEmpty
 |_=>Sq
def rQ (b:Bd) (p:UQ×Sn) (k:Nat):UQ×Sn:=match p.1.wt with
 |some (ks,g,_)=>if(dY b (ks++[k])).map (·.1.length)=[(ks++[k]).length] then cb b ({p.1 with wt:=lD (ks++[k],g,Sg)},p.2) else({p.1 with wt:=lD (ks++[k],g,Sg)},p.2)
 |none=>p
def d6 (s:UQ) (m:Mn):UQ:=if(m.abB||m.isO)=Si then s else{s with oc:=Sg}
def wm (b:Bd) (L:Int) (p:UQ×Sn) (k:Nat):Mn->UQ×Sn
 | .Xh c n=>({p.1 with wt:=lD ([k],0,lD (c,n))},p.2)
 | .S9 c=>if(decide (L=0)&& !(dY b [k]).isEmpty)=Si then({p.1 with wt:=lD ([k],0,Sg)},p.2) else eN p k (.S9 c)
 | .once n=>({(eN p k .none).1 with oc:=lD n},(eN p k .none).2)
 |m=>eN p k m
def Bb (b:Bd) (p:UQ×Sn) (k:Nat):UQ×Sn:=
 wm b (jD p.1.ac p.1.oc) (d6 p.1 (look b (jD p.1.ac p.1.oc) k),p.2) k (look b (jD p.1.ac p.1.oc) k)
def hJ (b:Bd) (p:UQ×Sn) (k:Nat):UQ×Sn:=
 if((p.1.ac k).isSome||yj p.1.wt k)=Si then p else if Az b p.1 k=Si then rQ b p k else Bb b (cb b p) k
def bS (b:Bd) (p:UQ×Sn) (k:Nat):UQ×Sn:=match p.1.wt with
 |some (_,_,Sg)=>cb b p
 |some (_,_,lD (c,_))=>eN ({p.1 with wt:=Sg},p.2) k (.S9 c)
 |none=>p
def nJ (b:Bd) (p:UQ×Sn) (k:Nat):UQ×Sn:=go (if yj p.1.wt k=Si then bS b p k else p) k
def gM (b:Bd) (p:UQ×Sn):UQ×Sn:=match p.1.wt with
 |none=>p
 |some (ks,g,w)=>if g+1=b.wt then cb b ({p.1 with wt:=lD (ks,g+1,w)},p.2) else({p.1 with wt:=lD (ks,g+1,w)},p.2)
def bA (b:Bd) (s:UQ):Wn->UQ×Sn
 | .down k=>hJ b (s,[]) k
 | .up k=>nJ b (s,[]) k
 | .turn=>gM b (s,[])
def uO (b:Bd) (s:UQ):List (Str×SV):=[("bed",.fz (bD b)),("acts",.rf 1),("waiting",.fz (iQ s.wt)),("once",.fz (pd s.oc)),("sent",.rf 2)]
def kh (p:Nat×Bool):D:= .tuple [.str (d8 p.1),.str (if p.2=Si then "down" else "up")]
def dJ (b:Bd) (s:UQ) (sn:Sn) (ps:List (Nat×Mn)) (J:aV):aV:= .obj "Hand" (uO b s):: .Yw (ps.map kg):: .lst ((sn.map kh).map .fz)::J
def HS (b:Bd) (p:UQ×Sn) (Z:aV):Prop:=∃ps J,ps.Perm (fW p.1.ac)/\Z=dJ b p.1 p.2 ps J
section
variable {b:Bd} {s:UQ} {sn:Sn} {ps:List (Nat×Mn)} {J:aV} {ρ:bf} {i:Nat} {Z:aV} {p:UQ×Sn} {k:Nat} {a:Mn}
theorem Ny:(uO b s).lookup ("bed":Str)=-(bD b):=by unfold uO;rw[Ve]
theorem HY:(uO b s).lookup ("acts":Str)=lD (.rf 1):=by unfold uO;rw[SR,show(("acts":Str)== "bed")=Sq by left];dsimp only;rw[Ve]
theorem Kt:(uO b s).lookup ("waiting":Str)=-(iQ s.wt):=by unfold uO;rw[SR,show(("waiting":Str)== "bed")=Sq by left];dsimp only;rw[SR,show(("waiting":Str)== "acts")=Sq by left];dsimp only;rw[Ve]
theorem Jq:(uO b s).lookup ("once":Str)=-(pd s.oc):=by unfold uO;rw[SR,show(("once":Str)== "bed")=Sq by left];dsimp only;rw[SR,show(("once":Str)== "acts")=Sq by left];dsimp only;rw[SR,show(("once":Str)== "waiting")=Sq by left];dsimp only;rw[Ve]
theorem Ij:(uO b s).lookup ("sent":Str)=lD (.rf 2):=by unfold uO;rw[SR,show(("sent":Str)== "bed")=Sq by left];dsimp only;rw[SR,show(("sent":Str)== "acts")=Sq by left];dsimp only;rw[SR,show(("sent":Str)== "waiting")=Sq by left];dsimp only;rw[SR,show(("sent":Str)== "once")=Sq by left];dsimp only;rw[Ve]
def Q3 (m:Str):Bool:=(m== "bed"||m== "acts"||m== "waiting"||m== "once"||m== "sent")==Sq
theorem O8 (h:Q3 m=Si):(uO b s).lookup m=Sg:=by unfold Q3 at h;simp only[beq_iff_eq,abi] at h;obtain⟨⟨⟨⟨l,j⟩,g⟩,f⟩,e⟩:=h;unfold uO;rw[SR,l];dsimp only;rw[SR,j];dsimp only;rw[SR,g];dsimp only;rw[SR,f];dsimp only;rw[SR,e];rfl
theorem oh (h:ρ[i]? =lD (lD (.rf 0))):a9 "Hand" "bed" (ar i) ρ (dJ b s sn ps J)= .ok (.fz (bD b)) (dJ b s sn ps J):=gF (bv h) rfl Ny
theorem gY (h:ρ[i]? =lD (lD (.rf 0))):a9 "Hand" "acts" (ar i) ρ (dJ b s sn ps J)= .ok (.rf 1) (dJ b s sn ps J):=gF (bv h) rfl HY
theorem bQ (h:ρ[i]? =lD (lD (.rf 0))):a9 "Hand" "waiting" (ar i) ρ (dJ b s sn ps J)= .ok (.fz (iQ s.wt)) (dJ b s sn ps J):=gF (bv h) rfl Kt
theorem BS (h:ρ[i]? =lD (lD (.rf 0))):a9 "Hand" "once" (ar i) ρ (dJ b s sn ps J)= .ok (.fz (pd s.oc)) (dJ b s sn ps J):=gF (bv h) rfl Jq
theorem wz (h:ρ[i]? =lD (lD (.rf 0))):a9 "Hand" "sent" (ar i) ρ (dJ b s sn ps J)= .ok (.rf 2) (dJ b s sn ps J):=gF (bv h) rfl Ij
theorem GC (w:Wq):eT "waiting" (.fz (iQ w)) (uO b s)=uO b {s with wt:=w}:=by unfold uO;unfold eT;rw[if_neg (by left)];unfold eT;rw[if_neg (by left)];unfold eT;rw[if_pos rfl]
theorem HA (o:Option Int):eT "once" (.fz (pd o)) (uO b s)=uO b {s with oc:=o}:=by unfold uO;unfold eT;rw[if_neg (by left)];unfold eT;rw[if_neg (by left)];unfold eT;rw[if_neg (by left)];unfold eT;rw[if_pos rfl]
theorem k9 (w:Wq) (h:ρ[i]? =lD (lD (.rf 0))) (e:fe ρ Z= .ok (.fz (iQ w)) (dJ b s sn ps J)):fQ "Hand" "waiting" (ar i) fe ρ Z= .ok (.nx ρ) (dJ b {s with wt:=w} sn ps J):=
 (oA e (bv h) rfl (by exact Sm rfl)).trans (by rw[GC];rfl)
theorem BG (o:Option Int) (h:ρ[i]? =lD (lD (.rf 0))) (e:fe ρ Z= .ok (.fz (pd o)) (dJ b s sn ps J)):fQ "Hand" "once" (ar i) fe ρ Z= .ok (.nx ρ) (dJ b {s with oc:=o} sn ps J):=
 (oA e (bv h) rfl (by exact Sm rfl)).trans (by rw[HA];rfl)
theorem bX (e:HS b p Z) (hm:Q3 m=Si) (h:ρ[i]? =lD (lD (.rf 0))) (ha:fa ρ Z= .ok xs Z) (hn:(SV.rf 0::xs).length=n) (f:F (.rf 0::xs) Z= .ok x Z'):aU "Hand" m F n (ar i) fa ρ Z= .ok x Z':=by obtain⟨ps,J,g,rfl⟩:=e;exact BK (bv h) rfl (O8 hm) ha hn f
theorem Gb (ps:List (Nat×Mn)):(ps.map kg).map (·.2)=((ps.map (·.2)).map mD).map SV.fz:=by rw[Tr,Tr,Tr];rfl
def AK (ac:Ac):Prop:=∀k a,ac k=lD a->k<5/\LB a
theorem HE (f:HS b p Z) (g:AK p.1.ac) (ha:LB a):∃Z',bN [.rf 0,.fz (mD a)] Z= .ok (.fz (.bool (mq p.1.ac a))) Z'/\HS b p Z':=by
 obtain⟨ps,J,e,rfl⟩:=f;have j:mq p.1.ac a=decide (a∈ps.map (·.2)):=decide_eq_decide.mpr (e.map (·.2)).symm.mem_iff;have lb:∀m∈ps.map (·.2),LB m:=fun m hm=>by obtain⟨q,h,rfl⟩:=Ta.mp hm;exact(g _ _ ((kQ e).mp h).2).2
 refine⟨dJ b p.1 p.2 ps (J++[.lst ((ps.map kg).map (·.2))]),?_,ps,_,e,rfl⟩;rw[j];exact jJ rfl (iY (cW (ag (af rfl)) (Jb (gY rfl) rfl) (vK rfl (gI (by rw[Gb];exact bc)) (Kl ha lb))))
theorem C4 (f:sn.length<1000) (h:ρ[i]? =lD (lD (.rf 0))) (e:fe ρ (dJ b s sn ps J)= .ok (.fz (kh (c,d))) (dJ b s sn ps J)):l4 (a9 "Hand" "sent" (ar i)) fe ρ (dJ b s sn ps J)= .ok (.fz .none) (dJ b s (sn++[(c,d)]) ps J):=
 (ml (wz h) rfl e rfl (by rw[Sj,Sj];omega)).trans (by unfold dJ;rw[S5,S5];rfl)
theorem sS (e:ps.Perm (fW s.ac)) (h:k<5) (o:ρ[0]? =lD (lD (.rf 0))) (n:ρ[1]? =lD (-(nd k))) (m:ρ[2]? =lD (-(mD a))):∃qs:List (Nat×Mn),qs.Perm (fW (kj s.ac k (lD a)))/\xo (a9 "Hand" "acts" (ar 0)) (ae (aa 1)) (ae (aa 2)) ρ (dJ b s sn ps J)= .ok (.nx ρ) (dJ b {s with ac:=kj s.ac k (lD a)} sn qs J):=by obtain⟨qs,l,j⟩:=Ik e h;have g:aa 1 (cx ρ)= .ok (.fz (nd k),cx ρ):=af (by unfold cx;rw[Sx,n];rfl);have f:aa 2 (cx ρ)= .ok (.fz (mD a),cx ρ):=af (by unfold cx;rw[Sx,m];rfl);refine⟨qs,j,(JC (ag f) (gY o) (ag g) rfl rfl (by rw[Sj];have:=GD e;omega)).trans ?_⟩;rw[l];rfl
theorem pU (j:HS b p Z) (v:AK p.1.ac) (ha:LB a) (l:k<5) (u:p.2.length<1000):∃Z',bu [.rf 0,.fz (nd k),.fz (mD a)] Z= .ok (.fz .none) Z'/\HS b (eN p k a) Z':=by
 have e0:=oX a;have r:=lj a;cases q:a.isL with
 |false=>
  obtain⟨ps,J,g,rfl⟩:=j;rw[q] at r;obtain⟨f,h,w⟩:=sS (ρ:=[lD (.rf 0),-(nd k),-(mD a)]) g l rfl rfl rfl;refine⟨_,nt rfl (cV (ip (hG (bH (by fail "ev"))) gQ) w),f,J,h,?_⟩;have:sW p.1.ac a=[]:=by cases a<;>first|rfl|cases q
  unfold eN;rw[this,S8]
 |true=>
  rw[q] at r;obtain⟨y,h,A⟩:=HE j v ha;have t:∀o,mq p.1.ac a=o->(na (bO (aF (aJ cY (aJ bj (aa 2) (~~~0)) (pC (.str "letter"))))) (ri (bJ (aU "Hand" "has_act" bN 2 (ar 0) (aj (ae (aa 2)) aQ))))) [lD (.rf 0),-(nd k),-(mD a)] Z= .ok (!o) y:=fun o e=>by rw[e] at h;exact ja (bH (by fail "ev")) (mQ (aZ (bX j (by left) rfl (aq (ag (af rfl)) aO) rfl h)))
  obtain⟨ps,J,g,rfl⟩:=A;cases q2:mq p.1.ac a with
  |true=>
   obtain⟨f,n,m⟩:=sS (ρ:=[lD (.rf 0),-(nd k),-(mD a)]) g l rfl rfl rfl;refine⟨_,nt rfl (cV (ip (t Si q2) gQ) m),f,J,n,?_⟩;have:sW p.1.ac a=[]:=by
    cases a<;>first|cases q|skip
    show(if mq p.1.ac _=Si then _ else _)=_;rw[if_pos q2]
   unfold eN;rw[this,S8]
  |false=>
   cases a<;>first|cases q|skip
   rename_i c;obtain⟨f,n,m⟩:=sS (ρ:=[lD (.rf 0),-(nd k),-(mD (.S9 c))]) (sn:=p.2++[(c,Si)]) g l rfl rfl rfl;have B:bj (mD (.S9 c)) (.int 1)=-(.str (d8 c)):=iw;refine⟨_,nt rfl (cV (fH (t Sq q2) (gw (C4 u rfl (ag (show _=Res.ok (PV.fz (.tuple [.str (d8 c),.str "down"]),_) by fail "ev"))))) m),f,J,n,?_⟩;have:sW p.1.ac (.S9 c)=[(c,Si)]:=by show(if mq p.1.ac _=Si then _ else _)=_;rw[if_neg (by rw[q2];simp)]
   unfold eN;rw[this]
end
end STP
namespace STP
open PySem L2 L3 L10
def VA (a:Int):Mn->Prop
 | .S9 c=>c<26
 | .UZ n=>1<=n/\n<a
 | .none=>True
 |_=>False
theorem VA.lb (h:VA nL m):LB m:=by
 cases m with
 |S9 c=>exact h
 |Xh c n=>exact h.elim
 |_=>trivial
structure SA (b:Bd) (s:UQ):Prop where
 ac:∀k a,s.ac k=lD a->(k:Int)<b.n/\VA b.ls.length a
 oc:∀o,s.oc=lD o->1<=o/\o<b.ls.length
structure WV (b:Bd) (ac:Ac) (ks:List Nat) (g:Int) (w:Option (Nat×Int)):Prop where
 ne:ks≠[]
 nd:ks.Nodup
 kn:∀k∈ks,(k:Int)<b.n
 kf:∀k∈ks,ac k=Sg
 g0:0<=g
 tp:∀c n,w=lD (c,n)->c<26/\(1<=n/\n<b.ls.length)/\ks.length=1
 ch:w=Sg->∀k∈ks,tV (b.ls.headD []) k=Si
structure SW (b:Bd) (s:UQ):Prop where
 sa:SA b s
 wt:∀ks g w,s.wt=lD (ks,g,w)->WV b s.ac ks g w/\g<b.wt
theorem AR {ks:List Nat} (hd:ks.Nodup) (h:∀k∈ks,k<n):ks.length<=n:=by rw[<-Kc ks];have b:=(sR ks).nodup_iff.mpr hd;refine IE (((zp ks).and b).imp fun h=>by omega) fun k a=>h k ((sR ks).mem_iff.mp a)
section
variable {b:Bd} (Z:VB b) {s:UQ} {p:UQ×Sn} {ks:List Nat} {g:Int} {w:Option (Nat×Int)} {ac:Ac} {k:Nat} {a:Mn}
include Z
theorem WV.len (h:WV b ac ks g w):ks.length<=5:=AR h.nd fun k e=>by have:=h.kn k e;have:=Z.n5;omega
omit Z in
theorem WV.ait (h:WV b ac ks g w):1<=ks.length:=List.length_pos_iff.mpr h.ne
theorem SA.ak (h:SA b s):AK s.ac:=fun k a e=>by have:=h.ac k a e;have:=Z.n5;exact⟨by omega,(h.ac k a e).2.lb⟩
omit Z in
theorem SA.cm (h:SA b p.1) (f:(k:Int)<b.n) (ha:VA b.ls.length a):SA b (eN p k a).1:=by
 refine⟨fun j x e=> ?_,h.oc⟩;by_cases z:j=k
 .subst z;have i:lD a=lD x:=(dQ (ac:=p.1.ac) (k:=j) (o:=lD a)).symm.trans e;cases i;exact⟨f,ha⟩
 .exact h.ac j x ((eZ z).symm.trans e)
omit Z in
theorem SA.gg (h:SA b p.1):SA b (go p k).1:=by
 unfold go;split
 .refine⟨fun j x e=> ?_,h.oc⟩
  by_cases z:j=k
  .subst z;exact absurd ((dQ (ac:=p.1.ac) (k:=j) (o:=Sg)).symm.trans e) (by simp)
  .exact h.ac j x ((eZ z).symm.trans e)
 .exact h
omit Z in
theorem nw:(eN p k a).2.length<=p.2.length+1:=by
 show(p.2++sW p.1.ac a).length<=_;rw[Su];have:(sW p.1.ac a).length<=1:=by
  cases a with
  |S9 c=>show(if _ then _ else _:Sn).length<=1;split<;>simp
  |_=>simp[sW]
 omega
omit Z in
theorem DQ (e:List (Nat×Mn)):∀p:UQ×Sn,(gO p e).2.length<=p.2.length+e.length:=by
 induction e with
 |nil=>exact fun p=>Sw _
 |cons q r f=>intro p;have i:=f (eN p q.1 q.2);have h:=nw (p:=p) (k:=q.1) (a:=q.2);show(gO (eN p q.1 q.2) r).2.length<=_;rw[SJ];omega
omit Z in
theorem SA.cms (e:List (Nat×Mn)):∀{p:UQ×Sn},SA b p.1->(∀q∈e,(q.1:Int)<b.n/\VA b.ls.length q.2)->SA b (gO p e).1/\(gO p e).1.wt=p.1.wt/\(gO p e).1.oc=p.1.oc:=by
 induction e with
 |nil=>exact fun h _=>⟨h,rfl,rfl⟩
 |cons q r j=>intro p h f;have i:=f q Sv;exact j (h.cm i.1 i.2) fun x l=>f x (Sy _ l)
theorem AU (h:tV (b.ls.headD []) k=Si):∃c,j4 b 0 k= .S9 c:=by
 have i:=Z.l1;obtain⟨f,r,e⟩:∃f r,b.ls=f::r:=by
  cases q:b.ls with
  |nil=>rw[q] at i;cases i
  |cons l r=>exact⟨l,r,rfl⟩
 unfold tV at h;unfold j4;rw[e] at h⊢;rw[aal,YQ];rw[acW] at h;cases q:f[k]? with
 |none=>rw[q] at h;cases h
 |some m=>
  rw[q] at h;cases m with
  |S9 c=>exact⟨c,rfl⟩
  |_=>cases h
theorem Jw (f:(k:Int)<b.n) (h:tV (b.ls.headD []) k=Si):VA b.ls.length (j4 b 0 k):=by have i:=Z.l1;obtain⟨c,e⟩:=AU Z h;have:=AE Z (L:=0) (by omega) f;rw[e] at this⊢;exact this
theorem NC (h:WV b ac ks g Sg):∀m∈K1 b ks,VA b.ls.length m:=by
 intro m hm;unfold K1 at hm;split at hm
 .rename_i c f
  rcases SS.mp hm with rfl|hm
  .exact(Z.vc c (WQ f)).2.2.2
  .rw[(abP.mp hm).2];trivial
 .obtain⟨j,e,rfl⟩:=Ta.mp hm;exact Jw Z (h.kn j e) (h.ch rfl j e)
theorem wb (h:WV b ac ks g w):∀q∈ks.zip (fZ b ks w),(q.1:Int)<b.n/\VA b.ls.length q.2:=by
 intro q f;have e:=VI f;refine⟨h.kn _ e.1,?_⟩;cases w with
 |none=>exact NC Z h _ e.2
 |some i=>obtain⟨c,n⟩:=i;rw[SQ.mp e.2];exact(h.tp c n rfl).2.1
def WD (b:Bd) (s:UQ):Prop:=∀ks g w,s.wt=lD (ks,g,w)->WV b s.ac ks g w
theorem et (h:SA b p.1) (i:WD b p.1):SW b (cb b p).1/\(cb b p).1.wt=Sg/\(cb b p).2.length<=p.2.length+5/\(cb b p).1.oc=p.1.oc:=by
 unfold cb;split
 .rename_i q;exact⟨⟨h,fun ks g w e=>by rw[q] at e;cases e⟩,q,Xk _ _,rfl⟩
 .rename_i ks g w q
  have v:=i ks g w q;obtain⟨l,f,j⟩:=SA.cms (ks.zip (fZ b ks w)) (p:=({p.1 with wt:=Sg},p.2)) ⟨h.ac,h.oc⟩ (wb Z v);refine⟨⟨l,fun _ _ _ e=> ?_⟩,f,?_,j⟩
  .rw[f] at e;cases e
  .have:=DQ (ks.zip (fZ b ks w)) ({p.1 with wt:=Sg},p.2);have m:=v.len Z;rw[acX] at this;have:(gO ({p.1 with wt:=Sg},p.2) (ks.zip (fZ b ks w))).2.length<=p.2.length+min ks.length (fZ b ks w).length:=this;omega
omit Z in
theorem BZ:∀(l:List Int) (m:Option Int),l.foldl kO m=m\/∃x∈l,l.foldl kO m=lD x
 |[],m=> .inl rfl
 |x::r,m=>by
  rw[Xt];rcases BZ r (kO m x) with h|⟨y,hy,h⟩
  .rw[h]
   cases m with
   |none=>exact .inr ⟨x,Sv,rfl⟩
   |some z=>
    show lD (if x>z then x else z)=lD z\/_;split
    .exact .inr ⟨x,Sv,by show lD (if x>z then x else z)=_;rename_i q;rw[if_pos q]⟩
    .exact .inl rfl
  .exact .inr ⟨y,Sy _ hy,h⟩
omit Z in
theorem CL:∀(l:List Int) (m:Option Int),(∀x∈l,∃y,l.foldl kO m=lD y/\x<=y)/\∀z,m=lD z->∃y,l.foldl kO m=lD y/\z<=y
 |[],m=>⟨fun x i=>(by cases i),fun z h=>⟨z,h,X7 _⟩⟩
 |x::r,m=>by
  rw[Xt];obtain⟨q,o⟩:=CL r (kO m x);have n:∃z,kO m x=lD z/\x<=z/\∀u,m=lD u->u<=z:=by
   cases m with
   |none=>exact⟨x,rfl,X7 _,fun u h=>by cases h⟩
   |some u=>
    refine⟨if x>u then x else u,rfl,?_,fun v h=> ?_⟩
    .split<;>omega
    .cases h;split<;>omega
  obtain⟨z,A,C,t⟩:=n;obtain⟨y,f,B⟩:=o z A;refine⟨fun v e=> ?_,fun u j=>⟨y,f,by have:=t u j;omega⟩⟩;rcases SS.mp e with rfl|e
  .exact⟨y,f,by omega⟩
  .exact q v e
omit Z in
theorem B7 {ac:Ac} {n:Int}:n∈(fW ac).filterMap HP↔∃k,k<5/\ac k=lD (.UZ n):=by
 rw[WC];constructor
 .rintro⟨⟨k,m⟩,f,e⟩
  have h:=eX.mp f;cases m with
  |UZ x=>have:x=n:=SM e;subst this;exact⟨k,h.1,h.2⟩
  |_=>cases e
 .rintro⟨k,f,e⟩;exact⟨(k,.UZ n),eX.mpr ⟨f,e⟩,rfl⟩
theorem JI (h:SA b s):0<=xM s.ac/\xM s.ac<b.ls.length/\(∀k n,s.ac k=lD (.UZ n)->n<=xM s.ac)/\(xM s.ac=0\/∃k,s.ac k=lD (.UZ (xM s.ac))):=by
 have o:=Z.l1;have q:=Z.n5;unfold xM;generalize hm:((fW s.ac).filterMap HP).foldl kO Sg=m;have j:=(CL ((fW s.ac).filterMap HP) Sg).1;have f:=BZ ((fW s.ac).filterMap HP) Sg;rw[hm] at j f;have up:∀k n,s.ac k=lD (.UZ n)->∃y,m=lD y/\n<=y:=fun k n e=>j n (B7.mpr ⟨k,by have:=(h.ac k _ e).1;omega,e⟩);cases m with
 |none=>refine⟨X7 _,by show(0:Int)<_;omega,fun k n e=> ?_,.inl rfl⟩;obtain⟨y,i,_⟩:=up k n e;cases i
 |some x=>
  rcases f with f|⟨y,hy,f⟩
  .cases f
  .cases f;obtain⟨k,_,e⟩:=B7.mp hy;have:=(h.ac k _ e).2;have:1<=x/\x<b.ls.length:=this;refine⟨by show 0<=x;omega,by show x<_;omega,fun k n e=> ?_,.inr ⟨k,e⟩⟩;obtain⟨y,i,l⟩:=up k n e;cases i;exact l
theorem u7 (h:SA b s):0<=jD s.ac s.oc/\jD s.ac s.oc<b.ls.length:=by
 cases q:s.oc with
 |none=>have:=JI Z h;exact⟨this.1,this.2.1⟩
 |some o=>have:=h.oc o q;exact⟨by show 0<=o;omega,this.2⟩
end
section
variable {b:Bd} {s:UQ} {sn:Sn} {ps:List (Nat×Mn)} {J:aV} {ρ:bf} {i:Nat} {Z:aV} {p:UQ×Sn} {k:Nat} {a:Mn}
theorem zn (h:f x=lD y):aC f [x]=lD [y]:=by unfold aC;rw[h];rfl
theorem fK:(l++[c]).set l.length c'=l++[c']:=by simp
theorem oo (f:HS b p Z):∃Z',bG [.rf 0] Z= .ok (.fz (dr p.1)) Z'/\HS b p Z':=by
 obtain⟨ps,J,e,rfl⟩:=f;have h:=GD e;have j:jf (uB (a9 "Hand" "acts" (ar 0))) [lD (.rf 0)] (dJ b p.1 p.2 ps J)= .ok ((fW p.1.ac).map fun q=>nd q.1) (dJ b p.1 p.2 ps (J++[.dead])):=by
  refine(Au (ds:=(fW p.1.ac).map fun q=>nd q.1) (Ju (gY rfl) rfl (FQ e) (by rw[Sj];omega)) ?_).trans ?_
  .rw[F0 e];refine bc.trans ?_;rw[Tr,Tr];rfl
  .rw[fK];rfl
 have l:eA (fD 0) rc (mJ (aj (ae (aa 0)) (aj (uU (a9 "Hand" "acts" (ar 1)) (ae (aa 0))) aQ))) ((fW p.1.ac).map fun q=>nd q.1) [Sg,lD (.rf 0)] (dJ b p.1 p.2 ps (J++[.dead])) []= .ok (((fW p.1.ac).map pD).map .fz) (dJ b p.1 p.2 ps (J++[.dead])):=by refine(oz (fun q:Nat×Mn=>nd q.1) (fun q=> .fz (pD q)) _ (fun ρ=>∃o,ρ=[o,lD (.rf 0)]) (fW p.1.ac) _ [] ⟨Sg,rfl⟩ (by have:=vA p.1.ac;rw[UM];omega) ?_).trans (by rw[Tr];rfl);rintro q g ρ ⟨o,rfl⟩;have hm:=eX.mp g;refine⟨[-(nd q.1),lD (.rf 0)],rfl,rfl,?_,_,rfl⟩;exact uW (aq (ag (af rfl)) (aq (Im (gY rfl) (ag (af rfl)) rfl rfl (by rw[nF e hm.1,hm.2];rfl)) aO)) (Sm rfl)
 have tp:GR pT (aj (rU 1 [0] (jf (uB (a9 "Hand" "acts" (ar 0)))) (fD 0) rc (mJ (aj (ae (aa 0)) (aj (uU (a9 "Hand" "acts" (ar 1)) (ae (aa 0))) aQ)))) aQ) [lD (.rf 0)] (dJ b p.1 p.2 ps J)= .ok (.fz (.tuple ((fW p.1.ac).map pD))) (dJ b p.1 p.2 ps (J++[.dead]++[.lst (((fW p.1.ac).map pD).map .fz)])):=
  Bl (aq (Bj j l) aO) (zn (gI bc)) rfl
 exact⟨_,jJ rfl (iY (uW (aq tp (aq (bQ rfl) (aq (BS rfl) aO))) (Sm rfl))),ps,_,e,rfl⟩
theorem ER (h:HS b p Z):b3 [.rf 0,.fz (nd k)] Z= .ok (.fz (.bool (yj p.1.wt k))) Z:=by
 obtain⟨ps,J,l,rfl⟩:=h;refine jJ rfl (iY ?_);cases q:p.1.wt with
 |none=>
  have e:lJ (iQ p.1.wt) .none=-(.bool Sq):=by rw[q];rfl
  exact Dp (aZ (cW (bQ rfl) (ag aD) (cr e)))
 |some x=>
  obtain⟨f,g,w⟩:=x;have e:lJ (iQ p.1.wt) .none=-(.bool Si):=by rw[q];rfl
  have j:bj (iQ p.1.wt) (.int 0)=-(.tuple (bp f)):=by rw[q];exact ib
  exact D3 (aZ (cW (bQ rfl) (ag aD) (cr e))) (cW (ag (af rfl)) (de (bQ rfl) (ag aD) j) (cr (vH _ _)))
theorem P4 (E:HS b p Z) (n:AK p.1.ac) (ha:p.1.ac k=lD a) (F:p.2.length<1000):∃Z',jg [.rf 0,.fz (nd k)] Z= .ok (.fz .none) Z'/\HS b (go p k) Z':=by
 obtain⟨ps,J,A,rfl⟩:=E;have G:=(n k a ha).1;have lb:=(n k a ha).2;obtain⟨f,K,u⟩:=F6 A
 have l:x9 (a9 "Hand" "acts" (ar 0)) (ae (aa 1)) [lD (.rf 0),-(nd k),Sg] (dJ b p.1 p.2 ps J)= .ok (.fz (mD a)) (dJ b {p.1 with ac:=kj p.1.ac k Sg} p.2 f J):=
  (J9 (gY rfl) rfl (ag (af rfl)) rfl rfl (by rw[nF A G,ha];rfl)).trans (by rw[K];rfl)
 have H:go p k=({p.1 with ac:=kj p.1.ac k Sg},p.2++Ly (kj p.1.ac k Sg) a):=by unfold go;rw[ha]
 rw[H];have m:AK (kj p.1.ac k Sg):=fun j x e=>by
  by_cases z:j=k
  .subst z;rw[dQ] at e;cases e
  .rw[eZ z] at e;exact n j x e
 have e0:=oX a;have N:=lj a;have g:aF (aJ cY (aJ bj (aa 2) (~~~0)) (pC (.str "letter"))) (cx [lD (.rf 0),-(nd k),-(mD a)])= .ok (a.isL,cx [lD (.rf 0),-(nd k),-(mD a)]):=by fail "ev"
 have t:Wa (cB (na (bO (aF (aJ cY (aJ bj (aa 2) (~~~0)) (pC (.str "letter"))))) (ri (bJ (aU "Hand" "has_act" bN 2 (ar 0) (aj (ae (aa 2)) aQ))))) (bM (l4 (a9 "Hand" "sent" (ar 0)) (ae (bB {aJ bj (aa 2) (~~~1),pC (.str "up")})))) cO [lD (.rf 0),-(nd k),-(mD a)] (dJ b {p.1 with ac:=kj p.1.ac k Sg} p.2 f J)) (fun _ Z'=>SV.fz .none= .fz .none/\HS b ({p.1 with ac:=kj p.1.ac k Sg},p.2++Ly (kj p.1.ac k Sg) a) Z') (fun _ _=>False) (fun r Z'=>r= .fz .none/\HS b ({p.1 with ac:=kj p.1.ac k Sg},p.2++Ly (kj p.1.ac k Sg) a) Z'):=by
  cases q:a.isL with
  |false=>
   rw[q] at g;refine eB (hG (bH g)) (lh ⟨rfl,f,J,u,?_⟩);have:Ly (kj p.1.ac k Sg) a=[]:=by cases a<;>first|rfl|cases q
   rw[this,S8]
  |true=>
   rw[q] at g;obtain⟨B,o,L⟩:=HE (p:=({p.1 with ac:=kj p.1.ac k Sg},p.2)) ⟨f,J,u,rfl⟩ m lb;have v:∀h,mq (kj p.1.ac k Sg) a=h->(na (bO (aF (aJ cY (aJ bj (aa 2) (~~~0)) (pC (.str "letter"))))) (ri (bJ (aU "Hand" "has_act" bN 2 (ar 0) (aj (ae (aa 2)) aQ))))) [lD (.rf 0),-(nd k),-(mD a)] (dJ b {p.1 with ac:=kj p.1.ac k Sg} p.2 f J)= .ok (!h) B:=fun h e=>by
    have o:bN [.rf 0,.fz (mD a)] (dJ b {p.1 with ac:=kj p.1.ac k Sg} p.2 f J)= .ok (.fz (.bool h)) B:=by rw[<-e];exact o
    exact ja (bH g) (mQ (aZ (bX (p:=({p.1 with ac:=kj p.1.ac k Sg},p.2)) ⟨f,J,u,rfl⟩ (by left) rfl (aq (ag (af rfl)) aO) rfl o)))
   obtain⟨w,C,y,I⟩:=L;rw[I] at v;cases q2:mq (kj p.1.ac k Sg) a with
   |true=>
    refine eB (v Si q2) (lh ⟨rfl,w,C,y,?_⟩);have:Ly (kj p.1.ac k Sg) a=[]:=by
     cases a<;>first|cases q|skip
     show(if mq (kj p.1.ac k Sg) _=Si then _ else _)=_;rw[if_pos q2]
    rw[this,S8]
   |false=>
    cases a<;>first|cases q|skip
    rename_i c;have M:bj (mD (.S9 c)) (.int 1)=-(.str (d8 c)):=iw;refine sE (v Sq q2) (iG (C4 (d:=Sq) F rfl (ag (show _=Res.ok (PV.fz (.tuple [.str (d8 c),.str "up"]),_) by fail "ev"))) ⟨rfl,w,C,y,?_⟩);have:Ly (kj p.1.ac k Sg) (.S9 c)=[(c,Sq)]:=by show(if mq (kj p.1.ac k Sg) _=Si then _ else _)=_;rw[if_neg (by rw[q2];simp)]
    rw[this]
 exact ig rfl (gG l rfl t)
end
section
variable {b:Bd} (Y:VB b) {s:UQ} {sn:Sn} {ps:List (Nat×Mn)} {J:aV} {ρ:bf} {i:Nat} {Z:aV} {p:UQ×Sn} {k:Nat} {a:Mn} {ks:List Nat} {g:Int} {w:Option (Nat×Int)}
theorem Hb:∀(ks:List Nat) (e:List Mn),l6 (bp ks) (e.map mD)=(ks.zip e).map pD
 |[],_=>by cases ‹List Mn›<;>rfl
 |_::_,[]=>rfl
 |k::r,a::t=>by show Sk.tuple [nd k,mD a]::l6 (bp r) (t.map mD)=_;rw[Hb r t];rfl
theorem z6 (h:∀c n,w=lD (c,n)->c<26):cY (si w) (.tuple [.str "chord"])=-(.bool w.isNone)/\oY (si w) (.tuple [.str "chord"])=-(.bool w.isSome):=by
 cases w with
 |none=>
  have l:jv (.tuple [.str "chord"])=Si:=by left
  have j:Sk.canLay0 (.tuple [.str "chord"])=Si:=by left
  have f:Sk.eqv (.tuple [.str "chord"]) (.tuple [.str "chord"])=Si:=by left
  constructor
  .show(if(jv (.tuple [.str "chord"])&&Sk.canLay0 (.tuple [.str "chord"]))=Si then lD (RV.fz (.bool (Sk.eqv (.tuple [.str "chord"]) (.tuple [.str "chord"])))) else Sg)=_;rw[l,j,f];rfl
  .show(if(jv (.tuple [.str "chord"])&&Sk.canLay0 (.tuple [.str "chord"]))=Si then lD (RV.fz (.bool (!Sk.eqv (.tuple [.str "chord"]) (.tuple [.str "chord"])))) else Sg)=_;rw[l,j,f];rfl
 |some m=>
  obtain⟨c,n⟩:=m;have lb:LB (.Xh c n):=h c n rfl;have e:Sk.eqv (mD (.Xh c n)) (.tuple [.str "chord"])=Sq:=by show(decide (("tap":Str)= "chord")&&Sk.eqvAll [.str (d8 c),.int n] [])=Sq;rw[show decide (("tap":Str)= "chord")=Sq by left];rfl
  constructor
  .show(if(jv (mD (.Xh c n))&&Sk.canLay0 (.tuple [.str "chord"]))=Si then lD (RV.fz (.bool (Sk.eqv (mD (.Xh c n)) (.tuple [.str "chord"])))) else Sg)=_;rw[EZ lb,show Sk.canLay0 (.tuple [.str "chord"])=Si by left,e];rfl
  .show(if(jv (mD (.Xh c n))&&Sk.canLay0 (.tuple [.str "chord"]))=Si then lD (RV.fz (.bool (!Sk.eqv (mD (.Xh c n)) (.tuple [.str "chord"])))) else Sg)=_;rw[EZ lb,show Sk.canLay0 (.tuple [.str "chord"])=Si by left,e];rfl
theorem xy (ks:List Nat) (w:Option (Nat×Int)) (f:List Mn):∀(h:List (Nat×Mn)) (p:UQ×Sn) (Z:aV) (n m:Option SV),HS b p Z->AK p.1.ac->(∀q∈h,q.1<5/\LB q.2)->p.2.length+h.length<1000->
  ∃ρ' Z',jp (OI 2 (nV (fD 4) (nV (fD 5) DT))) (bM (aU "Hand" "come" bu 3 (ar 0) (aj (ae (aa 4)) (aj (ae (aa 5)) aQ)))) (h.map pD) [lD (.rf 0),-(.tuple (bp ks)),-(si w),-(.list (f.map mD)),n,m] Z= .ok (.nx ρ') Z'/\HS b (gO p h) Z'
 |[],p,Z,n,m,hs,_,_,_=>⟨_,Z,rfl,hs⟩
 |q::r,p,Z,n,m,hs,hA,hq,hl=>by
  rw[SJ] at hl;have l:=hq q Sv;obtain⟨t,A,E⟩:=pU hs hA l.2 l.1 (by omega);have o:AK (eN p q.1 q.2).1.ac:=fun j x e=>by
   by_cases z:j=q.1
   .have B:lD q.2=lD x:=by rw[z] at e;exact(dQ).symm.trans e
    cases B;exact⟨by rw[z];exact l.1,l.2⟩
   .exact hA j x ((eZ z).symm.trans e)
  have:=nw (p:=p) (k:=q.1) (a:=q.2);obtain⟨ρ',Z',y,C⟩:=xy ks w f r (eN p q.1 q.2) t (-(nd q.1)) (-(mD q.2)) E o (fun x v=>hq x (Sy _ v)) (by omega);refine⟨ρ',Z',?_,C⟩
  have u:bM (aU "Hand" "come" bu 3 (ar 0) (aj (ae (aa 4)) (aj (ae (aa 5)) aQ))) [lD (.rf 0),-(.tuple (bp ks)),-(si w),-(.list (f.map mD)),-(nd q.1),-(mD q.2)] Z= .ok (.nx [lD (.rf 0),-(.tuple (bp ks)),-(si w),-(.list (f.map mD)),-(nd q.1),-(mD q.2)]) t:=
   gw (bX hs (by left) rfl (aq (ag (af rfl)) (aq (ag (af rfl)) aO)) rfl A)
  show((bM (aU "Hand" "come" bu 3 (ar 0) (aj (ae (aa 4)) (aj (ae (aa 5)) aQ))) [lD (.rf 0),-(.tuple (bp ks)),-(si w),-(.list (f.map mD)),-(nd q.1),-(mD q.2)] Z).bind _)=_;rw[u,RS.bind_ok];exact y
include Y
theorem lA (u:HS b p Z) (o:SA b p.1) (f:p.1.wt=lD (ks,g,w)) (v:WV b p.1.ac ks g w) (L:p.2.length<900):∃Z',bU [.rf 0] Z= .ok (.fz .none) Z'/\HS b (cb b p) Z':=by
 obtain⟨ps,J,A,rfl⟩:=u;have e0:bj (iQ p.1.wt) (.int 0)=-(.tuple (bp ks)):=by rw[f];exact ib
 have G:bj (iQ p.1.wt) (.int 2)=-(si w):=by rw[f];exact pI
 have r:=v.len Y;have t:=v.ait;have F:=z6 fun c n h=>(v.tp c n h).1;have E:cb b p=gO ({p.1 with wt:=Sg},p.2) (ks.zip (fZ b ks w)):=by unfold cb;rw[f]
 rw[E];have m:aF (aJ cY (aa 2) (pC (.tuple [.str "chord"]))) (cx [lD (.rf 0),-(.tuple (bp ks)),-(si w),Sg,Sg,Sg])= .ok (w.isNone,cx [lD (.rf 0),-(.tuple (bp ks)),-(si w),Sg,Sg,Sg]):=bq (aL (af rfl) aD rfl rfl F.1) rfl;have l:nO (HR (bO (aF (aJ cY (aa 2) (pC (.tuple [(.str "chord")]))))) (jm fE 2 (aj (a9 "Hand" "bed" (ar 0)) (aj (ae (aa 1)) aQ))) (ae (dU {bB {pC (.str "layer"),aJ bj (aa 2) (~~~2)}}))) [lD (.rf 0),-(.tuple (bp ks)),-(si w),Sg,Sg,Sg] (dJ b {p.1 with wt:=Sg} p.2 ps J)= .ok (.fz (.list ((fZ b ks w).map mD))) (dJ b {p.1 with wt:=Sg} p.2 ps (J++[.dead])):=by
  cases w with
  |none=>have I:=Oz Y t r v.kn;exact(mh (CM (bH m) (vQ (aq (oh rfl) (aq (ag (af rfl)) aO)) rfl I)) (jO bc)).trans (by rw[fK];rfl)
  |some H=>obtain⟨c,n⟩:=H;have K:bj (si (lD (c,n))) (.int 2)=-(.int n):=pI;exact(mh (Bt (bH m) (ef (show _=Res.ok (PV.ow [.tuple [.str "layer",.int n]],_) by fail "ev"))) (jO bc)).trans (by rw[fK];rfl)
 have lp:∃e Z',sg (pf (Ed {aa 1,aa 3})) (OI 2 (nV (fD 4) (nV (fD 5) DT))) (bM (aU "Hand" "come" bu 3 (ar 0) (aj (ae (aa 4)) (aj (ae (aa 5)) aQ)))) [lD (.rf 0),-(.tuple (bp ks)),-(si w),-(.list ((fZ b ks w).map mD)),Sg,Sg] (dJ b {p.1 with wt:=Sg} p.2 ps (J++[.dead]))= .ok (.nx e) Z'/\HS b (gO ({p.1 with wt:=Sg},p.2) (ks.zip (fZ b ks w))) Z':=by
  have M:=Y.n5;obtain⟨e,Z',C,B⟩:=xy ks w (fZ b ks w) (ks.zip (fZ b ks w)) ({p.1 with wt:=Sg},p.2) (dJ b {p.1 with wt:=Sg} p.2 ps (J++[.dead])) Sg Sg ⟨ps,_,A,rfl⟩ (SA.ak Y ⟨o.ac,o.oc⟩) (fun q y=>by
   have:=wb Y v q y;exact⟨by omega,this.2.lb⟩) (by
   rw[acX];show p.2.length+_<1000;omega)
  refine⟨e,Z',?_,B⟩;unfold sg;rw[rB (BV (ai (af rfl) (ai (af rfl) aI)) rfl rfl rfl),RS.bind_ok,Hb];exact C
 obtain⟨e,Z',lp,j⟩:=lp;refine⟨Z',nt (ρ1:=e) rfl ?_,j⟩;exact cV (vT (de (bQ rfl) (ag aD) e0) rfl) (cV (vT (de (bQ rfl) (ag aD) G) rfl) (cV (k9 Sg rfl (ag aD)) (cV (vT l rfl) lp)))
omit Y in
theorem KB {c:List Nat×Nat} (h:c.2<26):Sk.canLay0 (gB c)=Si:=by show(Sk.canLayAll0 (bp c.1)&&(Sk.strOk (d8 c.2)&&Si))=Si;rw[gW,rR h];rfl
omit Y in
theorem N7:∀{cs:List (List Nat×Nat)},(∀c∈cs,c.2<26)->oY (.list (cs.map gB)) (.list [])=-(.bool (!cs.isEmpty)):=by
 intro cs h;have j:∀cs:List (List Nat×Nat),(∀c∈cs,c.2<26)->Sk.canLayAll0 (cs.map gB)=Si:=by
  intro cs
  induction cs with
  |nil=>exact fun _=>rfl
  |cons c r e=>intro h;show(Sk.canLay0 (gB c)&&Sk.canLayAll0 (r.map gB))=Si;rw[KB (h c Sv),e fun x l=>h x (Sy _ l)];rfl
 have f:∀cs:List (List Nat×Nat),Sk.depthAll (cs.map gB)<=2:=by
  intro cs
  induction cs with
  |nil=>exact Th _
  |cons c r e=>show max (Sk.depth (gB c)) (Sk.depthAll (r.map gB))<=2;refine aht.mpr ⟨?_,e⟩;show max (Sk.depthAll (bp c.1)+1) (max 0 0)+1<=2;rw[jB];decide
 show(if((Sk.canLayAll0 (cs.map gB)&&decide (Sk.depthAll (cs.map gB)+1<=64))&&Si)=Si then lD (RV.fz (.bool (!Sk.eqvAll (cs.map gB) []))) else Sg)=_;rw[j cs h,decide_eq_true (show Sk.depthAll (cs.map gB)+1<=64 by have:=f cs;omega)];cases cs<;>rfl
theorem J1 (h:c∈dY b ks):c.2<26:=(Y.vc c (T6.mp h).1).2.2.2
omit Y in
theorem A6 (h:ks≠[]) (e:ks.length<=5):dI (.tuple (bp ks)) (.tuple [nd k])=-(.tuple (bp (ks++[k]))):=by
 show(if bp ks≠[]/\(bp ks).length+1<=1000000 then lD (RV.fz (.tuple (bp ks++[nd k]))) else Sg)=_;rw[if_pos ⟨by cases ks with
  |nil=>exact absurd rfl h
  |cons x r=>simp[bp],by rw[eJ];omega⟩,Ia]
 rfl
theorem Cc {fa:dH} {Z1:aV} (e:∃ps J,Z1=dJ b s sn ps J) (l:ρ[0]? =lD (lD (.rf 0))) (f:ks.length<=5) (h:fa ρ Z1= .ok (.fz (.tuple (bp ks))) Z1):kZ oY (jm bF 2 (aj (a9 "Hand" "bed" (ar 0)) (aj fa aQ))) (ae (dU aw)) ρ Z1= .ok (.fz (.bool (!(dY b ks).isEmpty))) (Z1++[.lst (((dY b ks).map gB).map .fz)]++[.lst []]):=by obtain⟨ps,J,rfl⟩:=e;refine cW (vQ (ds:=[bD b,.tuple (bp ks)]) (aq (oh l) (aq h aO)) rfl (B8 Y f)) (ef (ds:=[]) (ρ':=cx ρ) (nY aI rfl (Th _))) ?_;exact vK (gI (ia bc)) (gI (ds:=[]) bc) (N7 fun c j=>J1 Y j)
theorem Ow (j:HS b p Z) (G:SW b p.1) (N:(k:Int)<b.n) (hn:yj p.1.wt k=Sq):∃Z',dB [.rf 0,.fz (nd k)] Z= .ok (.fz (.bool (Az b p.1 k))) Z'/\HS b p Z':=by
 cases q:p.1.wt with
 |none=>
  have l:Az b p.1 k=Sq:=by unfold Az;rw[q]
  rw[l];obtain⟨ps,J,f,rfl⟩:=j;have m:mw (iQ p.1.wt) .none=-(.bool Si):=by rw[q];rfl
  exact⟨_,jJ rfl (oj (fH (rD (aZ (cW (bQ rfl) (ag aD) (cr m)))) (iY (ag aD)))),ps,J,f,rfl⟩
 |some x=>
  obtain⟨ks,g,w⟩:=x;have v:=(G.wt ks g w q).1;have H:=v.len Y;have m:mw (iQ p.1.wt) .none=-(.bool Sq):=by rw[q];rfl
  have E:bj (iQ p.1.wt) (.int 2)=-(si w):=by rw[q];exact pI
  have e0:bj (iQ p.1.wt) (.int 0)=-(.tuple (bp ks)):=by rw[q];exact ib
  have C:=(z6 fun c n h=>(v.tp c n h).1).2;cases w with
  |some P=>
   have l:Az b p.1 k=Sq:=by unfold Az;rw[q]
   rw[l];obtain⟨ps,J,f,rfl⟩:=j;exact⟨_,jJ rfl (oj (fH (jh (aZ (cW (bQ rfl) (ag aD) (cr m))) (rD (aZ (cW (de (bQ rfl) (ag aD) E) (ag aD) (cr C))))) (iY (ag aD)))),ps,J,f,rfl⟩
  |none=>
   have l:Az b p.1 k=(decide (jD p.1.ac p.1.oc=0)&& !(dY b (ks++[k])).isEmpty):=by unfold Az;rw[q]
   rw[l];obtain⟨A,L,F⟩:=oo j;have o:(DU (bJ (kZ mw (a9 "Hand" "waiting" (ar 0)) (ae (pC .none)))) (DU (bJ (kZ oY (j8 (a9 "Hand" "waiting" (ar 0)) (ae (~~~2))) (ae (pC (.tuple [(.str "chord")]))))) (bJ (kZ oY (jm dC 1 (aj (aU "Hand" "stands" bG 1 (ar 0) aQ) aQ)) (ae (~~~0)))))) [lD (.rf 0),-(nd k)] Z= .ok (!decide (jD p.1.ac p.1.oc=0)) A:=by
    have M:bJ (kZ oY (jm dC 1 (aj (aU "Hand" "stands" bG 1 (ar 0) aQ) aQ)) (ae (~~~0))) [lD (.rf 0),-(nd k)] Z= .ok (!decide (jD p.1.ac p.1.oc=0)) A:=
     aZ (cW (Ab (aq (bX j (by left) rfl aO rfl L) aO) rfl (yz p.1)) (ag aD) (cr (vX _ _)))
    obtain⟨ps,J,f,rfl⟩:=j;exact jh (aZ (cW (bQ rfl) (ag aD) (cr m))) (jh (aZ (cW (de (bQ rfl) (ag aD) E) (ag aD) (cr C))) M)
   by_cases B:jD p.1.ac p.1.oc=0
   .rw[decide_eq_true B] at o⊢
    obtain⟨ps,J,f,rfl⟩:=F;have u:k∉ks:=by rw[q] at hn;exact of_decide_eq_false hn
    have r:(ks++[k]).Nodup:=by rw[V0];exact⟨v.nd,Um.mpr ⟨Ue,X1⟩,fun x t y I e=>u (by rw[<-SQ.mp I,<-e];exact t)⟩
    have K:(ks++[k]).length<=5:=AR r fun x t=>by
     have O:=Y.n5;rcases Tx.mp t with h|h
     .have:=v.kn x h;omega
     .rw[SQ.mp h];omega
    refine⟨_,jJ rfl (cV (ip o gQ) (iY (Cc Y ⟨ps,J,rfl⟩ rfl K (cW (de (bQ rfl) (ag aD) e0) (ag (cA (ai (af rfl) aI) rfl (Sm rfl))) (cr (A6 v.ne H)))))),ps,_,f,rfl⟩
   .rw[decide_eq_false B] at o⊢;exact⟨A,jJ rfl (oj (fH o (iY (ag aD)))),F⟩
end
section
variable {b:Bd} (Y:VB b) {s:UQ} {sn:Sn} {ps:List (Nat×Mn)} {J:aV} {ρ:bf} {i:Nat} {Z:aV} {p:UQ×Sn} {k:Nat} {a:Mn} {ks:List Nat} {g:Int} {w:Option (Nat×Int)}
include Y
theorem OD (v:WV b p.1.ac ks g w) (hn:k∉ks) (m:(k:Int)<b.n):(ks++[k]).Nodup/\(ks++[k]).length<=5:=by
 have f:(ks++[k]).Nodup:=by rw[V0];exact⟨v.nd,Um.mpr ⟨Ue,X1⟩,fun x j y l e=>hn (by rw[<-SQ.mp l,<-e];exact j)⟩
 refine⟨f,AR f fun x j=> ?_⟩;have o:=Y.n5;rcases Tx.mp j with h|h
 .have:=v.kn x h;omega
 .rw[SQ.mp h];omega
theorem wW (o:SW b p.1) (m:(k:Int)<b.n) (ha:p.1.ac k=Sg) (hn:yj p.1.wt k=Sq) (hm:Az b p.1 k=Si):∃ks g,p.1.wt=lD (ks,g,Sg)/\k∉ks/\WV b p.1.ac (ks++[k]) g Sg/\g<b.wt:=by
 unfold Az at hm;split at hm
 .rename_i ks g q
  rw[S2] at hm;obtain⟨v,t⟩:=o.wt ks g Sg q;have f:k∉ks:=by rw[q] at hn;exact of_decide_eq_false hn
  obtain⟨l,B⟩:=OD Y v f m;refine⟨ks,g,q,f,⟨by simp,l,fun x e=> ?_,fun x e=> ?_,v.g0,fun c n h=>(by cases h),fun _ x e=> ?_⟩,t⟩
  .rcases Tx.mp e with h|h
   .exact v.kn x h
   .rw[SQ.mp h];exact m
  .rcases Tx.mp e with h|h
   .exact v.kf x h
   .rw[SQ.mp h];exact ha
  .have j:=hm.2
   cases qo:dY b (ks++[k]) with
   |nil=>rw[qo] at j;cases j
   |cons c r=>
    have u:c∈dY b (ks++[k]):=by rw[qo];exact Sv
    obtain⟨A,y⟩:=T6.mp u;have:=Vt.mp y x e;exact(Y.vc c A).2.2.1 x (of_decide_eq_true this)
 .cases hm
theorem J0 (t:HS b p Z) (j:SW b p.1) (f:p.1.wt=lD (ks,g,Sg)) (v:WV b p.1.ac (ks++[k]) g Sg) (h:WV b p.1.ac ks g Sg) (u:p.2.length<900):∃Z',dg [.rf 0,.fz (nd k)] Z= .ok (.fz .none) Z'/\HS b (rQ b p k) Z':=by
 obtain⟨ps,J,l,rfl⟩:=t;have n:=v.len Y;have e0:bj (iQ p.1.wt) (.int 0)=-(.tuple (bp ks)):=by rw[f];exact ib
 have E:bj (iQ p.1.wt) (.int 1)=-(.int g):=by rw[f];exact iw
 have C:rQ b p k=if(dY b (ks++[k])).map (·.1.length)=[(ks++[k]).length] then cb b ({p.1 with wt:=lD (ks++[k],g,Sg)},p.2) else({p.1 with wt:=lD (ks++[k],g,Sg)},p.2):=by unfold rQ;rw[f]
 have H:HS b ({p.1 with wt:=lD (ks++[k],g,Sg)},p.2) (dJ b {p.1 with wt:=lD (ks++[k],g,Sg)} p.2 ps J):=⟨ps,J,l,rfl⟩;have F:eA (fD 0) rc (ae (iB eU {aJ bj (aa 0) (~~~0)})) ((dY b (ks++[k])).map gB) [Sg] (dJ b {p.1 with wt:=lD (ks++[k],g,Sg)} p.2 ps (J++[.dead])) []= .ok ((bp ((dY b (ks++[k])).map (·.1.length))).map .fz) (dJ b {p.1 with wt:=lD (ks++[k],g,Sg)} p.2 ps (J++[.dead])):=by
  refine(oz gB (fun c=> .fz (nd c.1.length)) _ (fun ρ=>∃o,ρ=[o]) (dY b (ks++[k])) _ [] ⟨Sg,rfl⟩ ?_ ?_).trans (by unfold bp;rw[Tr,Tr];rfl)
  .have:=Wc (fun c:List Nat×Nat=>(ks++[k]).all fun k=>decide (k∈c.1)) b.cs;have:=Y.c4;show 0+(dY b (ks++[k])).length<=_;unfold dY;omega
  .rintro c _ ρ ⟨o,rfl⟩;have r:bj (gB c) (.int 0)=-(.tuple (bp c.1)):=ib;refine⟨[-(gB c)],rfl,rfl,ag (fM (ai (aL (af rfl) aD rfl rfl r) aI) rfl ((km _).trans (by rw[eJ]))),_,rfl⟩
 have B:jf (jm bF 2 (aj (a9 "Hand" "bed" (ar 0)) (aj (ae (aa 2)) aQ))) [lD (.rf 0),-(nd k),-(.tuple (bp (ks++[k])))] (dJ b {p.1 with wt:=lD (ks++[k],g,Sg)} p.2 ps J)= .ok ((dY b (ks++[k])).map gB) (dJ b {p.1 with wt:=lD (ks++[k],g,Sg)} p.2 ps (J++[.dead])):=
  (Au (vQ (aq (oh rfl) (aq (ag (af rfl)) aO)) rfl (B8 Y n)) bc).trans (by rw[fK];rfl)
 have rt:dU {iB eU {aa 2}} (cx [lD (.rf 0),-(nd k),-(.tuple (bp (ks++[k])))])= .ok (.ow (bp [(ks++[k]).length]),cx [lD (.rf 0),-(nd k),-(.tuple (bp (ks++[k])))]):=by refine nY (ai (fM (ai (af rfl) aI) rfl ((km _).trans (by rw[eJ]))) aI) rfl (Sm rfl)
 have m:bJ (kZ cY (rU 1 [] (jf (jm bF 2 (aj (a9 "Hand" "bed" (ar 0)) (aj (ae (aa 2)) aQ)))) (fD 0) rc (ae (iB eU {aJ bj (aa 0) (~~~0)}))) (ae (dU {iB eU {aa 2}}))) [lD (.rf 0),-(nd k),-(.tuple (bp (ks++[k])))] (dJ b {p.1 with wt:=lD (ks++[k],g,Sg)} p.2 ps J)= .ok (decide ((dY b (ks++[k])).map (·.1.length)=[(ks++[k]).length])) (dJ b {p.1 with wt:=lD (ks++[k],g,Sg)} p.2 ps (J++[.dead])++[.lst ((bp ((dY b (ks++[k])).map (·.1.length))).map .fz)]++[.lst ((bp [(ks++[k]).length]).map .fz)]):=
  aZ (cW (Bj B F) (ef rt) (vK (gI (ia bc)) (gI bc) (vP _ _)))
 have e:HS b ({p.1 with wt:=lD (ks++[k],g,Sg)},p.2) (dJ b {p.1 with wt:=lD (ks++[k],g,Sg)} p.2 ps (J++[.dead])++[.lst ((bp ((dY b (ks++[k])).map (·.1.length))).map .fz)]++[.lst ((bp [(ks++[k]).length]).map .fz)]):=⟨ps,_,l,rfl⟩;generalize (dJ b {p.1 with wt:=lD (ks++[k],g,Sg)} p.2 ps (J++[.dead])++[.lst ((bp ((dY b (ks++[k])).map (·.1.length))).map .fz)]++[.lst ((bp [(ks++[k]).length]).map .fz)]:aV)=Z3 at m e;rw[C];refine ig rfl (gG (cW (de (bQ rfl) (ag aD) e0) (ag (cA (ai (af rfl) aI) rfl (Sm rfl))) (cr (A6 h.ne (h.len Y)))) rfl (AZ (k9 (lD (ks++[k],g,Sg)) rfl (uW (aq (ag (af rfl)) (aq (de (bQ rfl) (ag aD) E) (aq (ag aD) aO))) (Sm rfl))) (xl m (fun q=> ?_) fun q=> ?_)))
 .rw[if_pos (of_decide_eq_true q)];obtain⟨G,A,y⟩:=lA Y e ⟨j.sa.ac,j.sa.oc⟩ rfl v u;exact iG (bX e (by left) rfl aO rfl A) ⟨rfl,y⟩
 .rw[if_neg (of_decide_eq_false q)];exact lh ⟨rfl,e⟩
theorem IK (f:SW b p.1) (h:p.1.wt=lD (ks,g,Sg)) (v:WV b p.1.ac (ks++[k]) g Sg) (j:g<b.wt):SW b (rQ b p k).1:=by
 have l:rQ b p k=if(dY b (ks++[k])).map (·.1.length)=[(ks++[k]).length] then cb b ({p.1 with wt:=lD (ks++[k],g,Sg)},p.2) else({p.1 with wt:=lD (ks++[k],g,Sg)},p.2):=by unfold rQ;rw[h]
 rw[l];split
 .exact(et Y (p:=({p.1 with wt:=lD (ks++[k],g,Sg)},p.2)) ⟨f.sa.ac,f.sa.oc⟩ fun _ _ _ e=>by cases e;exact v).1
 .exact⟨⟨f.sa.ac,f.sa.oc⟩,fun _ _ _ e=>by cases e;exact⟨v,j⟩⟩
omit Y in
theorem Bx (s:UQ) (m:Mn):(d6 s m).ac=s.ac/\(d6 s m).wt=s.wt:=by unfold d6;split<;>exact⟨rfl,rfl⟩
omit Y in
theorem CH {m:Mn} (h:SA b s):SA b (d6 s m):=by
 unfold d6;split
 .exact h
 .exact⟨h.ac,fun o e=>by cases e⟩
theorem Nq (F:HS b p Z) (S:SA b p.1) (hw:p.1.wt=Sg) (U:(k:Int)<b.n) (hl:p.2.length<900):∃Z',fP [.rf 0,.fz (nd k)] Z= .ok (.fz .none) Z'/\HS b (Bb b p k) Z':=by
 obtain⟨Q,P⟩:=u7 Y S;have M:=Ix Y Q P U;obtain⟨u,K⟩:=vU Y Q P U;obtain⟨Z1,h1,Xz⟩:=oo F;have h5:=Y.n5;have eb:Bb b p k=wm b (jD p.1.ac p.1.oc) (d6 p.1 (look b (jD p.1.ac p.1.oc) k),p.2) k (look b (jD p.1.ac p.1.oc) k):=rfl;rw[eb];have T:jm dC 1 (aj (aU "Hand" "stands" bG 1 (ar 0) aQ) aQ) [lD (.rf 0),-(nd k),Sg,Sg,Sg] Z= .ok (.fz (.int (jD p.1.ac p.1.oc))) Z1:=Ab (aq (bX F (by left) rfl aO rfl h1) aO) rfl (yz p.1);generalize jD p.1.ac p.1.oc=L at M u K T Q P;generalize look b L k=m at M u K;obtain⟨ps,J,hp,rfl⟩:=Xz;have lb:=u.lb;have c0:=oX m;have c1:=P5 m;have c2:=MH m;have c3:=lj m;have c4:=Kf m;have eL:cY (.int L) (.int 0)=-(.bool (decide (L=0))):=qI _ _;have B:(aK (cB (bO (aF (aJ pA (aa 4) (bB {pC (.str "layer"),pC (.str "once")})))) (fQ "Hand" "once" (ar 0) (ae (pC .none))) cO) cO) [lD (.rf 0),-(nd k),-(.int L),-(mD m),-(.str (wd m))] (dJ b p.1 p.2 ps J)= .ok (.nx [lD (.rf 0),-(nd k),-(.int L),-(mD m),-(.str (wd m))]) (dJ b (d6 p.1 m) p.2 ps J):=by
  have t:bO (aF (aJ pA (aa 4) (bB {pC (.str "layer"),pC (.str "once")}))) [lD (.rf 0),-(nd k),-(.int L),-(mD m),-(.str (wd m))] (dJ b p.1 p.2 ps J)= .ok (!(m.abB||m.isO)) (dJ b p.1 p.2 ps J):=bH (by fail "ev");unfold d6;cases q:(m.abB||m.isO) with
  |true=>rw[q] at t;rw[if_pos rfl];exact cV (ip t gQ) gQ
  |false=>rw[q] at t;rw[if_neg SH];exact cV (fH t (BG Sg rfl (ag aD))) gQ
 have R:=Bx p.1 m;have I:SA b (d6 p.1 m):=CH S;have e:ps.Perm (fW (d6 p.1 m).ac):=by rw[R.1];exact hp
 have A:HS b (d6 p.1 m,p.2) (dJ b (d6 p.1 m) p.2 ps J):=⟨ps,J,e,rfl⟩;generalize d6 p.1 m=s2 at B R I e A;have O:Wa ((cB (bO (aF (aJ cY (aa 4) (pC (.str "tap"))))) (fQ "Hand" "waiting" (ar 0) (ae (bB {bB {aa 1},~~~0,aa 3}))) (cB (na (bO (aF (aJ cY (aa 4) (pC (.str "letter"))))) (na (bO (aF (aJ cY (aa 2) (~~~0)))) (bJ (kZ oY (jm bF 2 (aj (a9 "Hand" "bed" (ar 0)) (aj (ae (bB {aa 1})) aQ))) (ae (dU aw)))))) (fQ "Hand" "waiting" (ar 0) (ae (bB {bB {aa 1},~~~0,pC (.tuple [(.str "chord")])}))) (cB (bO (aF (aJ cY (aa 4) (pC (.str "once"))))) (aK (bM (aU "Hand" "come" bu 3 (ar 0) (aj (ae (aa 1)) (aj (ae (pC (.tuple [(.str "none")]))) aQ))))
 (fQ "Hand" "once" (ar 0) (ae (aJ bj (aa 3) (~~~1))))) (bM (aU "Hand" "come" bu 3 (ar 0) (aj (ae (aa 1)) (aj (ae (aa 3)) aQ))))))) [lD (.rf 0),-(nd k),-(.int L),-(mD m),-(.str (wd m))] (dJ b s2 p.2 ps J)) (fun _ Z'=>SV.fz .none= .fz .none/\HS b (wm b L (s2,p.2) k m) Z') (fun _ _=>False) (fun r Z'=>r= .fz .none/\HS b (wm b L (s2,p.2) k m) Z'):=by
  have y:∀{Z:aV},bO (aF (aJ cY (aa 4) (pC (.str "tap")))) [lD (.rf 0),-(nd k),-(.int L),-(mD m),-(.str (wd m))] Z= .ok m.isT Z:=bH (by fail "ev");have E:∀{Z:aV},bO (aF (aJ cY (aa 4) (pC (.str "letter")))) [lD (.rf 0),-(nd k),-(.int L),-(mD m),-(.str (wd m))] Z= .ok m.isL Z:=bH (by fail "ev");have C:∀{Z:aV},bO (aF (aJ cY (aa 4) (pC (.str "once")))) [lD (.rf 0),-(nd k),-(.int L),-(mD m),-(.str (wd m))] Z= .ok m.isO Z:=bH (by fail "ev");have G:∀{Z:aV},bO (aF (aJ cY (aa 2) (~~~0))) [lD (.rf 0),-(nd k),-(.int L),-(mD m),-(.str (wd m))] Z= .ok (decide (L=0)) Z:=bH (by fail "ev");have kt:∀{Z:aV},ae (bB {aa 1}) [lD (.rf 0),-(nd k),-(.int L),-(mD m),-(.str (wd m))] Z= .ok (.fz (.tuple (bp [k]))) Z:=ag (cA (ai (af rfl) aI) rfl (Sm rfl));have cm:∀{Z:aV},HS b (s2,p.2) Z->VA b.ls.length m->∃Z',bM (aU "Hand" "come" bu 3 (ar 0) (aj (ae (aa 1)) (aj (ae (aa 3)) aQ))) [lD (.rf 0),-(nd k),-(.int L),-(mD m),-(.str (wd m))] Z= .ok (.nx [lD (.rf 0),-(nd k),-(.int L),-(mD m),-(.str (wd m))]) Z'/\HS b (eN (s2,p.2) k m) Z':=fun{Z} F va=>by obtain⟨Z',l,j⟩:=pU (k:=k) F (I.ak Y) va.lb (by omega) (show p.2.length<1000 by omega);exact⟨Z',gw (bX F (by left) rfl (aq (ag (af rfl)) (aq (ag (af rfl)) aO)) rfl l),j⟩
  cases m with
  |below=>exact absurd rfl K
  |Xh c n=>refine sE y (mY (k9 (lD ([k],0,lD (c,n))) rfl (ag (ρ':=cx [lD (.rf 0),-(nd k),-(.int L),-(mD (.Xh c n)),-(.str (wd (.Xh c n)))]) ?_)) ⟨rfl,ps,J,e,rfl⟩);show _=Res.ok (PV.fz (.tuple [.tuple [nd k],.int 0,mD (.Xh c n)]),_);fail "ev"
  |S9 c=>
   obtain⟨d1,d2⟩:VA b.ls.length (.S9 c)/\True:=⟨u,trivial⟩;by_cases H:L=0
   .rw[decide_eq_true H] at G
    have ov:=Cc Y (Z1:=dJ b s2 p.2 ps J) ⟨ps,J,rfl⟩ rfl (Sm rfl) kt;have N:HS b (s2,p.2) (dJ b s2 p.2 ps J++[.lst (((dY b [k]).map gB).map .fz)]++[.lst []]):=⟨ps,_,e,rfl⟩;have v:wm b L (s2,p.2) k (.S9 c)=if(!(dY b [k]).isEmpty)=Si then({s2 with wt:=lD ([k],0,Sg)},p.2) else eN (s2,p.2) k (.S9 c):=by show(if(decide (L=0)&& !(dY b [k]).isEmpty)=Si then _ else _)=_;rw[decide_eq_true H,Yp]
    rw[v];refine eB y (xl (ja E (ja G (aZ ov))) (fun q=> ?_) fun q=> ?_)
    .rw[if_pos q];refine mY (k9 (lD ([k],0,Sg)) rfl (ag (ρ':=cx [lD (.rf 0),-(nd k),-(.int L),-(mD (.S9 c)),-(.str (wd (.S9 c)))]) ?_)) ⟨rfl,ps,_,e,rfl⟩;show _=Res.ok (PV.fz (.tuple [.tuple [nd k],.int 0,.tuple [.str "chord"]]),_);fail "ev"
    .rw[if_neg (by rw[q];simp)];obtain⟨Z',l,j⟩:=cm N u;exact eB C (mY l ⟨rfl,j⟩)
   .rw[decide_eq_false H] at G
    have v:wm b L (s2,p.2) k (.S9 c)=eN (s2,p.2) k (.S9 c):=by show(if(decide (L=0)&& !(dY b [k]).isEmpty)=Si then _ else _)=_;rw[decide_eq_false H,WB,if_neg SH]
    rw[v];obtain⟨Z',l,j⟩:=cm A u;exact eB y (eB (ja E (hG G)) (eB C (mY l ⟨rfl,j⟩)))
  |UZ n=>obtain⟨Z',l,j⟩:=cm A u;exact eB y (eB (hG E) (eB C (mY l ⟨rfl,j⟩)))
  |none=>obtain⟨Z',l,j⟩:=cm A trivial;exact eB y (eB (hG E) (eB C (mY l ⟨rfl,j⟩)))
  |once n=>obtain⟨Z',l,j⟩:=pU (k:=k) (a:= .none) A (I.ak Y) trivial (by omega) (show p.2.length<1000 by omega);have i1:bj (mD (.once n)) (.int 1)=-(.int n):=iw;obtain⟨qs,J2,hq,rfl⟩:=j;refine eB y (eB (hG E) (sE C (AZ (gw (bX A (by left) rfl (aq (ag (af rfl)) (aq (ag aD) aO)) rfl l)) (mY (BG (lD n) rfl (ag (ρ':=cx [lD (.rf 0),-(nd k),-(.int L),-(mD (.once n)),-(.str (wd (.once n)))]) ?_)) ⟨rfl,qs,J2,hq,rfl⟩))));show _=Res.ok (PV.fz (.int n),_);exact aL (rv:= .fz (.int n)) (af rfl) aD rfl rfl i1
 refine ig (ρ:=[lD (.rf 0),-(nd k),Sg,Sg,Sg]) rfl (gG T rfl (gG (Ab (ds:=[bD b,.int L,nd k]) (aq (oh rfl) (aq (ag (af rfl)) (aq (ag (af rfl)) aO))) rfl M) rfl (gG (ag (d:= .str (wd m)) (ρ':=cx [lD (.rf 0),-(nd k),-(.int L),-(mD m),Sg]) (aL (rv:= .fz (.str (wd m))) (af rfl) aD rfl rfl c0)) rfl ?_)));refine .eq ?_ O;have X:∀{f g:eP} {ρ:bf} {Z Z':aV},aK f cO ρ Z= .ok (.nx ρ) Z'->aK f g ρ Z=g ρ Z':=fun{f g ρ Z Z'} h=>by
  unfold aK at h⊢;cases q:f ρ Z with
  |bad=>rw[q] at h;cases h
  |er x o=>rw[q] at h;cases h
  |ok fl o=>
   rw[q] at h;cases fl with
   |nx r=>cases h;rfl
   |_=>cases h
 exact X B
end
section
variable {b:Bd} (Y:VB b) {s:UQ} {sn:Sn} {ps:List (Nat×Mn)} {J:aV} {ρ:bf} {i:Nat} {Z:aV} {p:UQ×Sn} {k:Nat} {a:Mn} {ks:List Nat} {g:Int} {w:Option (Nat×Int)}
include Y
omit Y in
theorem Ch (h:SA b s) (f:s.wt=Sg):SW b s:=⟨h,fun _ _ _ e=>by rw[f] at e;cases e⟩
theorem OH (B:SA b p.1) (N:p.1.wt=Sg) (y:(k:Int)<b.n) (ha:p.1.ac k=Sg):SW b (Bb b p k).1:=by
 obtain⟨I,H⟩:=u7 Y B;obtain⟨f,v⟩:=vU Y I H y;have P:Bb b p k=wm b (jD p.1.ac p.1.oc) (d6 p.1 (look b (jD p.1.ac p.1.oc) k),p.2) k (look b (jD p.1.ac p.1.oc) k):=rfl;rw[P];generalize jD p.1.ac p.1.oc=L at f v I H;generalize look b L k=m at f v;have A:=Bx p.1 m;have l:SA b (d6 p.1 m):=CH B;have j:=A.2.trans N;have u:(d6 p.1 m).ac k=Sg:=by rw[A.1];exact ha
 generalize d6 p.1 m=s2 at l j u;have T:=Y.w1;have E:[k].Nodup:=Um.mpr ⟨Ue,X1⟩;have F:∀x∈[k],(x:Int)<b.n:=fun x t=>by rw[SQ.mp t];exact y
 have G:∀x∈[k],s2.ac x=Sg:=fun x t=>by rw[SQ.mp t];exact u
 have cm:∀m,VA b.ls.length m->SW b (eN (s2,p.2) k m).1:=fun m K=>Ch (l.cm y K) j;cases m with
 |below=>exact absurd rfl v
 |Xh c n=>refine⟨⟨l.ac,l.oc⟩,fun _ _ _ e=> ?_⟩;cases e;exact⟨⟨by simp,E,F,G,X7 _,fun S M e=>by cases e;exact⟨f.1,f.2,rfl⟩,fun e=>by cases e⟩,by omega⟩
 |S9 c=>
  show SW b (if(decide (L=0)&& !(dY b [k]).isEmpty)=Si then({s2 with wt:=lD ([k],0,Sg)},p.2) else eN (s2,p.2) k (.S9 c)).1;split
  .rename_i q
   refine⟨⟨l.ac,l.oc⟩,fun _ _ _ e=> ?_⟩;cases e;refine⟨⟨by simp,E,F,G,X7 _,fun S M e=>(by cases e),fun _ x t=> ?_⟩,by omega⟩;have C:=(S2 _ _▸q:_/\_).2;cases qo:dY b [k] with
   |nil=>rw[qo] at C;cases C
   |cons c r=>
    have O:c∈dY b [k]:=by rw[qo];exact Sv
    obtain⟨R,Q⟩:=T6.mp O;exact(Y.vc c R).2.2.1 x (of_decide_eq_true (Vt.mp Q x t))
  .exact cm _ f
 |UZ n=>exact cm _ f
 |none=>exact cm _ trivial
 |once n=>have h:=cm .none trivial;exact⟨⟨h.sa.ac,fun o e=>by cases e;exact f⟩,fun ks g w e=>by have e:s2.wt=lD (ks,g,w):=e;rw[j] at e;cases e⟩
theorem SW.wd (h:SW b s):WD b s:=fun ks g w e=>(h.wt ks g w e).1
omit Y in
theorem zO (e:List (Nat×Mn)):∀{p:UQ×Sn},p.1.ac k=Sg->k∉e.map (·.1)->(gO p e).1.ac k=Sg:=by
 induction e with
 |nil=>exact fun h _=>h
 |cons q r f=>intro p h hn;rw[SN,SS,not_or] at hn;exact f (p:=eN p q.1 q.2) ((eZ hn.1).trans h) hn.2
omit Y in
theorem z4 (ha:p.1.ac k=Sg) (hn:yj p.1.wt k=Sq):(cb b p).1.ac k=Sg:=by
 unfold cb;split
 .exact ha
 .rename_i ks g w q;refine zO _ (p:=({p.1 with wt:=Sg},p.2)) ha fun z=> ?_;rw[q] at hn;obtain⟨x,e,rfl⟩:=Ta.mp z;exact of_decide_eq_false hn (VI e).1
theorem Fr (e:SW b p.1) (f:(k:Int)<b.n):SW b (hJ b p k).1:=by
 unfold hJ;split
 .exact e
 .rename_i q
  rw[Xw,not_or] at q;have ha:p.1.ac k=Sg:=by
   cases z:p.1.ac k with
   |none=>rfl
   |some x=>rw[z] at q;exact absurd rfl q.1
  have hn:yj p.1.wt k=Sq:=by
   cases z:yj p.1.wt k with
   |false=>rfl
   |true=>exact absurd z q.2
  split
  .rename_i h;obtain⟨ks,g,m,o,l,j⟩:=wW Y e f ha hn h;exact IK Y e m l j
  .have d:=et Y e.sa (SW.wd Y e);exact OH Y d.1.sa d.2.1 f (z4 ha hn)
theorem E8 (h:HS b p Z) (e:SW b p.1) (B:(k:Int)<b.n) (Q:p.2.length<800):∃Z',gS [.rf 0,.fz (nd k)] Z= .ok (.fz .none) Z'/\HS b (hJ b p k) Z':=by
 have R:=Y.n5;have A:k<5:=by omega
 have O:DU (bJ (yt Sq (ae (aa 1)) (a9 "Hand" "acts" (ar 0)))) (bJ (aU "Hand" "is_waiting" b3 2 (ar 0) (aj (ae (aa 1)) aQ))) [lD (.rf 0),-(nd k)] Z= .ok ((p.1.ac k).isSome||yj p.1.wt k) Z:=by
  have I:=bX (ρ:=[lD (.rf 0),-(nd k)]) (i:=0) (m:= "is_waiting") (fa:=aj (ae (aa 1)) aQ) h (by left) rfl (aq (ag (af rfl)) aO) rfl (ER h);obtain⟨ps,J,y,rfl⟩:=h
  have u:yt Sq (ae (aa 1)) (a9 "Hand" "acts" (ar 0)) [lD (.rf 0),-(nd k)] (dJ b p.1 p.2 ps J)= .ok (.fz (.bool (p.1.ac k).isSome)) (dJ b p.1 p.2 ps J):=
   (AF (ag (af rfl)) (gY rfl) rfl rfl).trans (by rw[show jI (ps.map kg) (.inl (k:Int))=_ from nF y A];cases p.1.ac k<;>rfl)
  cases q:(p.1.ac k).isSome with
  |true=>rw[q] at u;rw[U9];exact rD (aZ u)
  |false=>rw[q] at u;rw[Wi];exact jh (aZ u) (aZ I)
 refine ig rfl (xT O (fun q=> ?_) fun q=>mP ?_)
 .unfold hJ;rw[if_pos q];exact wv ⟨rfl,h⟩
 rw[abi] at q;have ha:p.1.ac k=Sg:=by
  cases z:p.1.ac k with
  |none=>rfl
  |some x=>rw[z] at q;exact absurd q.1 (by simp)
 have L:hJ b p k=if Az b p.1 k=Si then rQ b p k else Bb b (cb b p) k:=by unfold hJ;rw[if_neg (by rw[q.1,q.2];simp)]
 rw[L];obtain⟨P,H,f⟩:=Ow Y h e B q.2;refine xT (aZ (bX h (by left) rfl (aq (ag (af rfl)) aO) rfl H)) (fun t=> ?_) fun t=>mP ?_
 .rw[if_pos t];obtain⟨ks,g,j,T,N,S⟩:=wW Y e B ha q.2 t;obtain⟨l,C,o⟩:=J0 Y f e j N (e.wt _ _ _ j).1 (by omega);exact Nz (jL (bX f (by left) rfl (aq (ag (af rfl)) aO) rfl C) (wv ⟨rfl,o⟩))
 .rw[if_neg (by rw[t];simp)]
  have d:=et Y e.sa (SW.wd Y e);have F:∀l,HS b (cb b p) l->Wa (bM (aU "Hand" "begin" fP 2 (ar 0) (aj (ae (aa 1)) aQ)) [lD (.rf 0),-(nd k)] l) (fun _ Z'=>SV.fz .none= .fz .none/\HS b (Bb b (cb b p) k) Z') (fun _ _=>False) (fun r Z'=>r= .fz .none/\HS b (Bb b (cb b p) k) Z'):=fun l o=>by obtain⟨U,K,v⟩:=Nq Y o d.1.sa d.2.1 B (by have:=d.2.2.1;omega);exact iG (bX o (by left) rfl (aq (ag (af rfl)) aO) rfl K) ⟨rfl,v⟩
  cases qw:p.1.wt with
  |none=>
   have M:cb b p=p:=by unfold cb;rw[qw]
   have j:lJ (iQ p.1.wt) .none=-(.bool Sq):=by rw[qw];rfl
   have E:=F P (by rw[M];exact f);obtain⟨ps,J,y,rfl⟩:=f;exact sF (aZ (cW (bQ rfl) (ag aD) (cr j))) (mP E)
  |some x=>
   obtain⟨ks,g,w⟩:=x;have j:lJ (iQ p.1.wt) .none=-(.bool Si):=by rw[qw];rfl
   obtain⟨l,C,o⟩:=lA Y f e.sa qw (e.wt _ _ _ qw).1 (by omega);have G:=bX (ρ:=[lD (.rf 0),-(nd k)]) (i:=0) (m:= "decide") f (by left) rfl aO rfl C;obtain⟨ps,J,y,rfl⟩:=f;exact vZ (aZ (cW (bQ rfl) (ag aD) (cr j))) (jL G (F l o))
theorem lm (e:SW b p.1) (f:yj p.1.wt k=Si):SW b (bS b p k).1/\(bS b p k).2.length<=p.2.length+5:=by
 unfold bS;split
 .have d:=et Y e.sa (SW.wd Y e);exact⟨d.1,d.2.2.1⟩
 .rename_i ks g c n q;have v:=(e.wt _ _ _ q).1;rw[q] at f;have h:=v.kn k (of_decide_eq_true f);have j:=(v.tp c n rfl).1;refine⟨Ch (SA.cm ⟨e.sa.ac,e.sa.oc⟩ h j) rfl,?_⟩;have:=nw (p:=({p.1 with wt:=Sg},p.2)) (k:=k) (a:= .S9 c);have:(eN ({p.1 with wt:=Sg},p.2) k (.S9 c)).2.length<=p.2.length+1:=this;omega
 .exact⟨e,Xk _ _⟩
theorem gf (j:HS b p Z) (e:SW b p.1) (f:yj p.1.wt k=Si) (K:p.2.length<800):∃Z',gn [.rf 0,.fz (nd k)] Z= .ok (.fz .none) Z'/\HS b (bS b p k) Z':=by
 have M:=Y.n5;cases q:p.1.wt with
 |none=>rw[q] at f;cases f
 |some x=>
  obtain⟨ks,g,w⟩:=x;have v:=(e.wt _ _ _ q).1;have l:k∈ks:=by rw[q] at f;exact of_decide_eq_true f
  have A:bj (iQ p.1.wt) (.int 2)=-(si w):=by rw[q];exact pI
  have G:=(z6 fun c n h=>(v.tp c n h).1).1;have u:∀{Z:aV},bO (aF (aJ cY (aa 2) (pC (.tuple [.str "chord"])))) [lD (.rf 0),-(nd k),-(si w)] Z= .ok w.isNone Z:=bH (bq (aL (af rfl) aD rfl rfl G) rfl);cases w with
  |none=>
   have r:bS b p k=cb b p:=by unfold bS;rw[q]
   rw[r];obtain⟨I,o,t⟩:=lA Y j e.sa q v (by omega);have C:=bX (ρ:=[lD (.rf 0),-(nd k),-(si Sg)]) (i:=0) (m:= "decide") j (by left) rfl aO rfl o;obtain⟨ps,J,y,rfl⟩:=j;exact ig rfl (gG (de (bQ rfl) (ag aD) A) rfl (sE u (iG C ⟨rfl,t⟩)))
  |some H=>
   obtain⟨c,n⟩:=H;have r:bS b p k=eN ({p.1 with wt:=Sg},p.2) k (.S9 c):=by unfold bS;rw[q]
   rw[r];have F:=(v.tp c n rfl).1;have L:=v.kn k l;obtain⟨ps,J,y,rfl⟩:=j;have B:HS b ({p.1 with wt:=Sg},p.2) (dJ b {p.1 with wt:=Sg} p.2 ps J):=⟨ps,J,y,rfl⟩;obtain⟨I,o,t⟩:=pU (k:=k) (a:= .S9 c) B (SA.ak Y ⟨e.sa.ac,e.sa.oc⟩) F (by omega) (show p.2.length<1000 by omega);have E:bj (si (lD (c,n))) (.int 1)=-(.str (d8 c)):=iw;exact ig rfl (gG (de (bQ rfl) (ag aD) A) rfl (eB u (AZ (k9 Sg rfl (ag aD)) (iG (bX B (by left) rfl (aq (ag (af rfl)) (aq (ag (cA (ai aD (ai (aL (af rfl) aD rfl rfl E) aI)) rfl (Sm rfl))) aO)) rfl o) ⟨rfl,t⟩))))
omit Y in
theorem K0 (f:SW b p.1):SW b (go p k).1:=by
 refine⟨f.sa.gg,?_⟩;unfold go;split
 .intro ks g w e;obtain⟨v,j⟩:=f.wt ks g w e;exact⟨⟨v.ne,v.nd,v.kn,fun x h=>by
   by_cases z:x=k
   .rw[z];exact dQ
   .exact(eZ z).trans (v.kf x h),v.g0,v.tp,v.ch⟩,j⟩
 .exact f.wt
theorem JF (e:SW b p.1):SW b (nJ b p k).1:=by
 unfold nJ;split
 .rename_i q;exact K0 (lm Y e q).1
 .exact K0 e
theorem IW (e:HS b p Z) (h:SW b p.1) (C:(k:Int)<b.n) (t:p.2.length<700):∃Z',iE [.rf 0,.fz (nd k)] Z= .ok (.fz .none) Z'/\HS b (nJ b p k) Z':=by
 have E:=Y.n5;have j:k<5:=by omega
 have f:∀{p:UQ×Sn} {Z:aV},HS b p Z->SW b p.1->p.2.length<800->Wa (cB (bJ (yt Sq (ae (aa 1)) (a9 "Hand" "acts" (ar 0)))) (bM (aU "Hand" "go" jg 2 (ar 0) (aj (ae (aa 1)) aQ))) cO [lD (.rf 0),-(nd k)] Z) (fun _ Z'=>SV.fz .none= .fz .none/\HS b (go p k) Z') (fun _ _=>False) (fun r Z'=>r= .fz .none/\HS b (go p k) Z'):=fun{p Z} e h t=>by
  cases qa:p.1.ac k with
  |none=>
   have y:go p k=p:=by unfold go;rw[qa]
   rw[y];obtain⟨ps,J,l,rfl⟩:=e;refine eB (aZ ((AF (ag (af rfl)) (gY rfl) rfl rfl).trans (by rw[show jI (ps.map kg) (.inl (k:Int))=_ from nF l j,qa];rfl))) (lh ⟨rfl,ps,J,l,rfl⟩)
  |some a=>obtain⟨F,u,A⟩:=P4 e (h.sa.ak Y) qa (by omega);have o:=bX (ρ:=[lD (.rf 0),-(nd k)]) (i:=0) (m:= "go") (fa:=aj (ae (aa 1)) aQ) e (by left) rfl (aq (ag (af rfl)) aO) rfl u;obtain⟨ps,J,l,rfl⟩:=e;exact sE (aZ ((AF (ag (af rfl)) (gY rfl) rfl rfl).trans (by rw[show jI (ps.map kg) (.inl (k:Int))=_ from nF l j,qa];rfl))) (iG o ⟨rfl,A⟩)
 refine ig rfl (xT (aZ (bX e (by left) rfl (aq (ag (af rfl)) aO) rfl (ER e))) (fun q=> ?_) fun q=> ?_)
 .unfold nJ;rw[if_pos q];obtain⟨G,v,B⟩:=gf Y e h q (by omega);have z:=lm Y h q;exact jL (bX e (by left) rfl (aq (ag (af rfl)) aO) rfl v) (f B z.1 (by omega))
 .unfold nJ;rw[if_neg (by rw[q];simp)];exact mP (f e h (by omega))
theorem JO (f:SW b p.1):SW b (gM b p).1:=by
 unfold gM;split
 .exact f
 .rename_i ks g w q
  obtain⟨v,l⟩:=f.wt ks g w q;have j:WV b p.1.ac ks (g+1) w:=⟨v.ne,v.nd,v.kn,v.kf,by have:=v.g0;omega,v.tp,v.ch⟩;split
  .exact(et Y (p:=({p.1 with wt:=lD (ks,g+1,w)},p.2)) ⟨f.sa.ac,f.sa.oc⟩ fun _ _ _ e=>by cases e;exact j).1
  .rename_i h;exact⟨⟨f.sa.ac,f.sa.oc⟩,fun _ _ _ e=>by cases e;exact⟨j,by omega⟩⟩
theorem JK (n:HS b p Z) (e:SW b p.1) (A:p.2.length<800):∃Z',fR [.rf 0] Z= .ok (.fz .none) Z'/\HS b (gM b p) Z':=by
 obtain⟨ps,J,l,rfl⟩:=n;cases q:p.1.wt with
 |none=>
  have f:gM b p=p:=by unfold gM;rw[q]
  rw[f];have h:mw (iQ p.1.wt) .none=-(.bool Si):=by rw[q];rfl
  exact ig rfl (vZ (aZ (cW (bQ rfl) (ag aD) (cr h))) (wv ⟨rfl,ps,J,l,rfl⟩))
 |some x=>
  obtain⟨ks,g,w⟩:=x;have v:=(e.wt _ _ _ q).1;have m:WV b p.1.ac ks (g+1) w:=⟨v.ne,v.nd,v.kn,v.kf,by have:=v.g0;omega,v.tp,v.ch⟩;have f:gM b p=if g+1=b.wt then cb b ({p.1 with wt:=lD (ks,g+1,w)},p.2) else({p.1 with wt:=lD (ks,g+1,w)},p.2):=by unfold gM;rw[q]
  rw[f];have h:mw (iQ p.1.wt) .none=-(.bool Sq):=by rw[q];rfl
  have e0:bj (iQ p.1.wt) (.int 0)=-(.tuple (bp ks)):=by rw[q];exact ib
  have u:bj (iQ p.1.wt) (.int 2)=-(si w):=by rw[q];exact pI
  have t:bj (iQ p.1.wt) (.int 1)=-(.int g):=by rw[q];exact iw
  have r:bj (bD b) (.int 3)=-(.int b.wt):=NM rfl;have j:HS b ({p.1 with wt:=lD (ks,g+1,w)},p.2) (dJ b {p.1 with wt:=lD (ks,g+1,w)} p.2 ps J):=⟨ps,J,l,rfl⟩;refine ig rfl (sF (aZ (cW (bQ rfl) (ag aD) (cr h))) (mP (gG (cW (de (bQ rfl) (ag aD) t) (ag aD) (cr (jM _ _))) rfl (AZ (k9 (lD (ks,g+1,w)) rfl (uW (aq (de (bQ rfl) (ag aD) e0) (aq (ag (af rfl)) (aq (de (bQ rfl) (ag aD) u) aO))) (Sm rfl))) (xl (aZ (cW (ag (af rfl)) (de (oh rfl) (ag aD) r) (cr (qI _ _)))) (fun z=> ?_) fun z=> ?_)))))
  .rw[if_pos (of_decide_eq_true z)];obtain⟨B,o,y⟩:=lA Y j ⟨e.sa.ac,e.sa.oc⟩ rfl m (show p.2.length<900 by omega);exact iG (bX j (by left) rfl aO rfl o) ⟨rfl,y⟩
  .rw[if_neg (of_decide_eq_false z)];exact lh ⟨rfl,j⟩
def Wn.acw:Wn->Bool
 | .turn=>Si
 |_=>Sq
def Wn.isDown:Wn->Bool
 | .down _=>Si
 |_=>Sq
def EV (b:Bd):Wn->Prop
 | .down k=>(k:Int)<b.n
 | .up k=>(k:Int)<b.n
 | .turn=>True
theorem qj (f:SW b s) (h:EV b e):SW b (bA b s e).1:=by
 cases e with
 |down k=>exact Fr Y f h
 |up k=>exact JF Y f
 |turn=>exact JO Y f
omit Y in
theorem ug:∀l:List (Nat×Mn),aC rH (l.map pD)=lD (l.map kg)
 |[]=>rfl
 |q::r=>by rw[SN];unfold aC;rw[ug r];rfl
omit Y in
theorem yl:∀(l f:List (Nat×Mn)),((f++l).map (·.1)).Nodup->lY (f.map kg) (l.map kg)=(f++l).map kg
 |[],f,_=>by rw[S8];rfl
 |q::r,f,h=>by
  have hn:∀x∈f,x.1≠q.1:=fun x j e=>by rw[S5,V0] at h;exact h.2.2 _ (Ta.mpr ⟨x,j,rfl⟩) q.1 Sv e
  have t:jZ (f.map kg) (kg q).1 (kg q).2=(f++[q]).map kg:=by
   unfold jZ;rw[if_neg ?_,S5]
   .rfl
   .intro z;obtain⟨u,o,n⟩:=Y7.mp z;obtain⟨x,m,rfl⟩:=Ta.mp o;have:=Sum.inl.inj (of_decide_eq_true n);exact hn x m (by omega)
  show lY (jZ (f.map kg) (kg q).1 (kg q).2) (r.map kg)=_;rw[t,yl r (f++[q]) (by rw[Tw];exact h),Tw];rfl
omit Y in
theorem Kb:dM [.rf 0,.fz (bD b),.fz (dr s)] [.obj "Hand" []]= .ok (.fz .none) (dJ b s [] (fW s.ac) []):=by
 have e0:bj (dr s) (.int 0)=-(.tuple ((fW s.ac).map pD)):=ib;have y:bj (dr s) (.int 1)=-(iQ s.wt):=iw;have v:bj (dr s) (.int 2)=-(pd s.oc):=pI;have A:eT "bed" (.fz (bD b)) []=([("bed",.fz (bD b))]:List (Str×SV)):=rfl;have q:eT "acts" (.rf 1) ([("bed",.fz (bD b))]:List (Str×SV))=([("bed",.fz (bD b)),("acts",.rf 1)]:List (Str×SV)):=by unfold eT;rw[if_neg (by left)];rfl
 have o:eT "waiting" (.fz (iQ s.wt)) ([("bed",.fz (bD b)),("acts",.rf 1)]:List (Str×SV))=([("bed",.fz (bD b)),("acts",.rf 1),("waiting",.fz (iQ s.wt))]:List (Str×SV)):=by unfold eT;rw[if_neg (by left)];unfold eT;rw[if_neg (by left)];rfl
 have n:eT "once" (.fz (pd s.oc)) ([("bed",.fz (bD b)),("acts",.rf 1),("waiting",.fz (iQ s.wt))]:List (Str×SV))=([("bed",.fz (bD b)),("acts",.rf 1),("waiting",.fz (iQ s.wt)),("once",.fz (pd s.oc))]:List (Str×SV)):=by unfold eT;rw[if_neg (by left)];unfold eT;rw[if_neg (by left)];unfold eT;rw[if_neg (by left)];rfl
 have m:eT "sent" (.rf 2) ([("bed",.fz (bD b)),("acts",.rf 1),("waiting",.fz (iQ s.wt)),("once",.fz (pd s.oc))]:List (Str×SV))=uO b s:=by unfold eT;rw[if_neg (by left)];unfold eT;rw[if_neg (by left)];unfold eT;rw[if_neg (by left)];unfold eT;rw[if_neg (by left)];rfl
 have r:lY [] ((fW s.ac).map kg)=(fW s.ac).map kg:=yl (fW s.ac) [] (sA s.ac);have e:∀{x:SV} {ρ:bf} {fs:List (Str×SV)} {Z:aV} {j:dH} {f:Str} {c:Cell} {l:aV},ρ[0]? =lD (lD (.rf 0))->j ρ Z= .ok x (.obj "Hand" fs::l)->fs.length<100->fQ "Hand" f (ar 0) j ρ Z= .ok (.nx ρ) (.obj "Hand" (eT f x fs)::l):=fun h u t=>(oA u (bv h) rfl t).trans rfl
 have ha:xY (ae (aJ bj (aa 2) (~~~0))) [lD (.rf 0),-(bD b),-(dr s)] [.obj "Hand" ([("bed",.fz (bD b))]:List (Str×SV))]= .ok (.rf 1) [.obj "Hand" ([("bed",.fz (bD b))]:List (Str×SV)),.Yw ((fW s.ac).map kg)]:=
  (JM (ag (d:= .tuple ((fW s.ac).map pD)) (aL (rv:= .fz (.tuple ((fW s.ac).map pD))) (af rfl) aD rfl rfl e0)) (ug _)).trans (by rw[r];rfl)
 refine nt (ρ:=[lD (.rf 0),-(bD b),-(dr s)]) (ρ1:=[lD (.rf 0),-(bD b),-(dr s)]) rfl (cV (e rfl (c:= .dead) (ag (d:=bD b) (af rfl)) (Sm rfl)) (cV (e rfl (c:= .dead) ha (Sm rfl)) (cV (e rfl (c:= .dead) (ag (d:=iQ s.wt) (aL (rv:= .fz (iQ s.wt)) (af rfl) aD rfl rfl y)) (Sm rfl)) (cV (e rfl (c:= .dead) (ag (d:=pd s.oc) (aL (rv:= .fz (pd s.oc)) (af rfl) aD rfl rfl v)) (Sm rfl)) ?_))));rw[q,o,n];refine(e (fs:=([("bed",.fz (bD b)),("acts",.rf 1),("waiting",.fz (iQ s.wt)),("once",.fz (pd s.oc))]:List (Str×SV))) rfl (c:= .dead) (ef (ds:=[]) (nY aI rfl (Th _))) (Sm rfl)).trans ?_;show RS.ok _ (Cell.obj "Hand" (eT "sent" (.rf 2) ([("bed",.fz (bD b)),("acts",.rf 1),("waiting",.fz (iQ s.wt)),("once",.fz (pd s.oc))]:List (Str×SV)))::_)=_;rw[m];rfl
omit Y in
theorem Jc (e:Wn):∃x:Str,bj (cI e) (.int 0)=-(.str x)/\cY (.str x) (.str "turn")=-(.bool (e.acw))/\cY (.str x) (.str "down")=-(.bool (e.isDown)):=by
 have h:Sk.strOk "down"=Si:=by left
 have j:Sk.strOk "up"=Si:=by left
 have f:Sk.strOk "turn"=Si:=by left
 cases e with
 |down k=>exact⟨"down",ib,Cd h f (by left),K7 h⟩
 |up k=>exact⟨"up",ib,Cd j f (by left),Cd j h (by left)⟩
 |turn=>exact⟨"turn",ib,K7 f,Cd f h (by left)⟩
theorem Kh (o:SW b s) (y:EV b e):∃Z',kE [.fz (bD b),.fz (dr s),.fz (cI e)] []= .ok (.tp [.rf 2,.fz (dr (bA b s e).1)]) Z'/\sh Z' (.rf 2)=lD (.list ((bA b s e).2.map kh)):=by
 have f:HS b (s,[]) (dJ b s [] (fW s.ac) []):=⟨fW s.ac,[],.refl _,rfl⟩;obtain⟨x,u,B,A⟩:=Jc e;have n:∀{Z:aV},bO (aF (aJ cY (aJ bj (aa 2) (~~~0)) (pC (.str "turn")))) [-(bD b),-(dr s),-(cI e),lD (.rf 0)] Z= .ok (e.acw) Z:=bH (bq (aL (aL (af rfl) aD rfl rfl u) aD rfl rfl B) rfl);have v:∀{Z:aV},bO (aF (aJ cY (aJ bj (aa 2) (~~~0)) (pC (.str "down")))) [-(bD b),-(dr s),-(cI e),lD (.rf 0)] Z= .ok (e.isDown) Z:=bH (bq (aL (aL (af rfl) aD rfl rfl u) aD rfl rfl A) rfl);have j:∀{Z:aV},HS b (bA b s e) Z->Wa (gC (mJ (aj (a9 "Hand" "sent" (ar 3)) (aj (aU "Hand" "stands" bG 1 (ar 3) aQ) aQ))) [-(bD b),-(dr s),-(cI e),lD (.rf 0)] Z) (fun _ Z'=>SV.fz .none= .tp [.rf 2,.fz (dr (bA b s e).1)]/\sh Z' (.rf 2)=lD (.list ((bA b s e).2.map kh))) (fun _ _=>False) (fun r Z'=>r= .tp [.rf 2,.fz (dr (bA b s e).1)]/\sh Z' (.rf 2)=lD (.list ((bA b s e).2.map kh))):=fun{Z} hs=>by obtain⟨t,h,l⟩:=oo hs;have m:=bX (ρ:=[-(bD b),-(dr s),-(cI e),lD (.rf 0)]) (i:=3) (m:= "stands") hs (by left) rfl aO rfl h;obtain⟨ps,J,G,rfl⟩:=hs;obtain⟨E,H,F,rfl⟩:=l;exact Ez (K2 (aq (wz rfl) (aq m aO)) (Sm rfl) rfl rfl) ⟨rfl,gI rfl⟩
 have C:ut "Hand" dM 3 (aj (ae (aa 0)) (aj (ae (aa 1)) aQ)) [-(bD b),-(dr s),-(cI e),Sg] []= .ok (.rf 0) (dJ b s [] (fW s.ac) []):=Ni (aq (ag (af rfl)) (aq (ag (af rfl)) aO)) rfl Kb;refine ig rfl (gG C rfl ?_);cases e with
 |turn=>obtain⟨t,h,l⟩:=JK Y f o (show 0<800 by decide);exact vZ n (jL (bX f (by left) rfl aO rfl h) (j l))
 |down k=>obtain⟨t,h,l⟩:=E8 Y f o y (show 0<800 by decide);have q:bj (cI (.down k)) (.int 1)=-(nd k):=iw;exact sF n (vZ v (jL (bX f (by left) rfl (aq (ag (aL (af rfl) aD rfl rfl q)) aO) rfl h) (j l)))
 |up k=>obtain⟨t,h,l⟩:=IW Y f o y (show 0<700 by decide);have q:bj (cI (.up k)) (.int 1)=-(nd k):=iw;exact sF n (sF v (jL (bX f (by left) rfl (aq (ag (aL (af rfl) aD rfl rfl q)) aO) rfl h) (j l)))
theorem PZ {e:Wn} (h:SW b s) (l:EV b e):nu kE 3 [.fz (bD b),.fz (dr s),.fz (cI e)] Z= .ok (.tp [.rf Z.length,.fz (dr (bA b s e).1)]) (Z++[.lst (((bA b s e).2.map kh).map .fz)]):=by
 obtain⟨f,n,m⟩:=Kh Y h l;unfold nu;rw[if_pos (show([.fz (bD b),.fz (dr s),.fz (cI e)]:List SV).length=3 from rfl),show aC wo [.fz (bD b),.fz (dr s),.fz (cI e)]=lD [bD b,dr s,cI e] from rfl];dsimp only;rw[show[bD b,dr s,cI e].map SV.fz=[.fz (bD b),.fz (dr s),.fz (cI e)] from rfl,n];show(match D6 f Z.length [.rf 2,.fz (dr (bA b s e).1)] with
  |some (l',cs,js)=>if js.Nodup then RS.ok (SV.tp l') (Z++cs.map QU) else .bad
  |none=> .bad)=_
 have j:D6 f Z.length [.rf 2,.fz (dr (bA b s e).1)]=lD ([.rf Z.length,.fz (dr (bA b s e).1)],[(bA b s e).2.map kh],[2]):=by unfold D6;rw[m];rfl
 rw[j];dsimp only;rw[if_pos (by decide)];rfl
end
def bz:UQ:=⟨fun _=>Sg,Sg,Sg⟩
theorem gX (b:Bd):SW b bz:=⟨⟨fun k a e=>(by cases e),fun o e=>(by cases e)⟩,fun f g w e=>(by cases e)⟩
theorem A1 {α:Type} {f:α->D}:∀{l:List α},(∀a∈l,Sk.canLay0 (f a)=Si)->Sk.canLayAll0 (l.map f)=Si
 |[],_=>rfl
 |a::r,h=>by show(Sk.canLay0 (f a)&&Sk.canLayAll0 (r.map f))=Si;rw[h a Sv,A1 fun x b=>h x (Sy _ b)];rfl
theorem wS {α:Type} {f:α->D} {n:Nat}:∀{l:List α},(∀a∈l,Sk.depth (f a)<=n)->Sk.depthAll (l.map f)<=n
 |[],_=>Th _
 |a::r,h=>aht.mpr ⟨h a Sv,wS fun x b=>h x (Sy _ b)⟩
theorem sJ {d:D} (b:Sk.canLay0 d=Si) (a:Sk.depth d<=64):jv d=Si:=by unfold jv;rw[b,decide_eq_true a];rfl
theorem oM {d:D} (h:jv d=Si):Sk.canLay0 d=Si:=by unfold jv at h;exact(S2 _ _▸h:_/\_).1
theorem CB {d:D} (h:jv d=Si):oY d d=-(.bool Sq):=by unfold oY;rw[h,oM h,T7,if_pos rfl,W8 d (oM h)];rfl
theorem qk {d:D} (h:jv d=Si):cY d d=-(.bool Si):=by unfold cY;rw[h,oM h,T7,if_pos rfl,W8 d (oM h)]
def Wv (sn:Sn):Prop:=∀q∈sn,q.1<26
theorem GU {b:Bd} {s:UQ} (h:SW b s):jv (dr s)=Si:=by
 have j:Sk.canLayAll0 ((fW s.ac).map pD)=Si:=A1 fun q l=>by show(Si&&(Sk.canLay0 (mD q.2)&&Si))=Si;rw[wO (h.sa.ac _ _ (eX.mp l).2).2.lb];rfl
 have o:∀m:Mn,Sk.depth (mD m)<=1:=fun m=>by cases m<;>exact Sm rfl
 have p:Sk.depthAll ((fW s.ac).map pD)<=2:=wS fun q _=>by show max 0 (max (Sk.depth (mD q.2)) 0)+1<=2;have:=o q.2;omega
 have f:Sk.canLay0 (iQ s.wt)=Si/\Sk.depth (iQ s.wt)<=2:=by
  cases q:s.wt with
  |none=>exact⟨rfl,Th _⟩
  |some x=>
   obtain⟨a,g,w⟩:=x;have v:=(h.wt a g w q).1;constructor
   .show(Sk.canLayAll0 (bp a)&&(Si&&(Sk.canLay0 (si w)&&Si)))=Si
    rw[gW];cases w with
    |none=>show Sk.canLay0 (.tuple [.str "chord"])&&Si=Si;left
    |some i=>obtain⟨c,n⟩:=i;have lb:LB (.Xh c n):=(v.tp c n rfl).1;show(Sk.canLay0 (mD (.Xh c n))&&Si)=Si;rw[wO lb];rfl
   .show max (Sk.depthAll (bp a)+1) (max 0 (max (Sk.depth (si w)) 0))+1<=2
    rw[jB];cases w with
    |none=>exact Sm rfl
    |some i=>exact Sm rfl
 have e:Sk.canLay0 (pd s.oc)=Si/\Sk.depth (pd s.oc)=0:=by cases s.oc<;>exact⟨rfl,rfl⟩
 refine sJ ?_ ?_
 .show(Sk.canLayAll0 ((fW s.ac).map pD)&&(Sk.canLay0 (iQ s.wt)&&(Sk.canLay0 (pd s.oc)&&Si)))=Si;rw[j,f.1,e.1];rfl
 .show max (Sk.depthAll ((fW s.ac).map pD)+1) (max (Sk.depth (iQ s.wt)) (max (Sk.depth (pd s.oc)) 0))+1<=64;rw[e.2];have:=f.2;omega
section
variable {b:Bd} (Z:VB b) {s:UQ} {p:UQ×Sn} {k:Nat} {a:Mn}
theorem Wv.app {x y:Sn} (f:Wv x) (e:Wv y):Wv (x++y):=fun q g=>(Tx.mp g).elim (f q) (e q)
theorem lz (h:Wv p.2) (ha:LB a):Wv (eN p k a).2:=by
 refine h.app fun q e=> ?_;cases a with
 |S9 c=>
  have e:q∈(if mq p.1.ac (.S9 c)=Si then[] else[(c,Si)]:Sn):=e;split at e
  .cases e
  .rw[SQ.mp e];exact ha
 |_=>cases e
theorem Fa (e:List (Nat×Mn)):∀{p:UQ×Sn},Wv p.2->(∀q∈e,LB q.2)->Wv (gO p e).2:=by
 induction e with
 |nil=>exact fun h _=>h
 |cons q r g=>exact fun h f=>g (lz h (f q Sv)) fun x i=>f x (Sy _ i)
theorem K5 (h:Wv p.2) (ha:SA b p.1):Wv (go p k).2:=by
 unfold go;split
 .rename_i a q
  have lb:=(ha.ac k a q).2.lb;refine h.app fun x e=> ?_;cases a with
  |S9 c=>
   have e:x∈(if mq (kj p.1.ac k Sg) (.S9 c)=Si then[] else[(c,Sq)]:Sn):=e;split at e
   .cases e
   .rw[SQ.mp e];exact lb
  |_=>cases e
 .exact h
include Z
theorem mW (h:Wv p.2) (i:WD b p.1):Wv (cb b p).2:=by
 unfold cb;split
 .exact h
 .rename_i e g w q;exact Fa _ (p:=({p.1 with wt:=Sg},p.2)) h fun x f=>(wb Z (i e g w q) x f).2.lb
theorem Mm (h:Wv p.2) (g:SA b p.1) (i:(k:Int)<b.n):Wv (Bb b p k).2:=by
 obtain⟨o,l⟩:=u7 Z g;obtain⟨e,f⟩:=vU Z (k:=k) o l i;have j:Bb b p k=wm b (jD p.1.ac p.1.oc) (d6 p.1 (look b (jD p.1.ac p.1.oc) k),p.2) k (look b (jD p.1.ac p.1.oc) k):=rfl;rw[j];generalize look b (jD p.1.ac p.1.oc) k=m at e f;generalize jD p.1.ac p.1.oc=L at e;have lb:=e.lb;cases m with
 |Xh c n=>exact h
 |S9 c=>
  show Wv (if(decide (L=0)&& !(dY b [k]).isEmpty)=Si then({d6 p.1 (.S9 c) with wt:=lD ([k],0,Sg)},p.2) else eN (d6 p.1 (.S9 c),p.2) k (.S9 c)).2;split
  .exact h
  .exact lz (p:=(d6 p.1 (.S9 c),p.2)) h lb
 |UZ n=>exact lz (p:=(d6 p.1 (.UZ n),p.2)) h lb
 |once n=>exact lz (p:=(d6 p.1 (.once n),p.2)) (k:=k) (a:= .none) h trivial
 |none=>exact lz (p:=(d6 p.1 .none,p.2)) h lb
 |below=>exact absurd rfl f
theorem CF {e:Wn} (h:SW b s) (l:EV b e):Wv (bA b s e).2:=by
 have f:Wv []:=fun q o=>by cases o
 cases e with
 |turn=>
  show Wv (gM b (s,[])).2;unfold gM;split
  .exact f
  .rename_i i g w q
   have v:=(h.wt i g w q).1;split
   .exact mW Z (p:=({s with wt:=lD (i,g+1,w)},[])) f fun _ _ _ e=>by cases e;exact⟨v.ne,v.nd,v.kn,v.kf,by have:=v.g0;omega,v.tp,v.ch⟩
   .exact f
 |up k=>
  show Wv (nJ b (s,[]) k).2;unfold nJ;split
  .rename_i q
   have z:=lm Z (p:=(s,[])) h q;refine K5 ?_ z.1.sa;unfold bS;split
   .exact mW Z (p:=(s,[])) f (SW.wd Z h)
   .rename_i c n e;have r:c<26:=((h.wt _ _ _ e).1.tp c n rfl).1;exact lz (p:=({s with wt:=Sg},[])) f r
   .exact f
  .exact K5 (p:=(s,[])) f h.sa
 |down k=>
  show Wv (hJ b (s,[]) k).2;unfold hJ;split
  .exact f
  .rename_i q
   rw[Xw,not_or] at q;have ha:s.ac k=Sg:=by
    cases z:s.ac k with
    |none=>rfl
    |some x=>exact absurd (show(s.ac k).isSome=Si by rw[z];rfl) q.1
   have hn:yj s.wt k=Sq:=by
    cases z:yj s.wt k with
    |false=>rfl
    |true=>exact absurd z q.2
   split
   .rename_i m
    obtain⟨i,g,j,y,t,u⟩:=wW Z (p:=(s,[])) h l ha hn m;have j:s.wt=lD (i,g,Sg):=j;unfold rQ;dsimp only;rw[j];dsimp only;split
    .exact mW Z (p:=({s with wt:=lD (i++[k],g,Sg)},[])) f fun _ _ _ e=>by cases e;exact t
    .exact f
   .have d:=et Z (p:=(s,[])) h.sa (SW.wd Z h);exact Mm Z (mW Z (p:=(s,[])) f (SW.wd Z h)) d.1.sa l
end
def cG (b:Bd):UQ->List Wn->UQ×List Sn
 |s,[]=>(s,[])
 |s,e::r=>((cG b (bA b s e).1 r).1,(bA b s e).2::(cG b (bA b s e).1 r).2)
theorem yG (b:Bd):∀(xs ys:List Wn) (s:UQ),cG b s (xs++ys)=((cG b (cG b s xs).1 ys).1,(cG b s xs).2++(cG b (cG b s xs).1 ys).2)
 |[],_,_=>rfl
 |e::r,ys,s=>by show((cG b (bA b s e).1 (r++ys)).1,_::(cG b (bA b s e).1 (r++ys)).2)=_;rw[yG b r ys];rfl
theorem rL (b:Bd):∀(xs:List Wn) (s:UQ),(cG b s xs).2.length=xs.length
 |[],_=>rfl
 |e::r,s=>by show(_::(cG b (bA b s e).1 r).2).length=_;rw[SJ,rL b r,SJ]
theorem wa (b:Bd):∀(xs:List Wn) (s:UQ) (i:Nat) (e:Wn),xs[i]? =lD e->(cG b s (xs.take (i+1))).1=(bA b (cG b s (xs.take i)).1 e).1/\(cG b s xs).2[i]? =lD (bA b (cG b s (xs.take i)).1 e).2
 |[],_,_,_,h=>by cases h
 |x::r,s,0,e,h=>by cases h;exact⟨rfl,rfl⟩
 |x::r,s,i+1,e,h=>by have:=wa b r (bA b s x).1 i e h;exact this
theorem wV {b:Bd} (a:VB b):∀(xs:List Wn) {s:UQ},SW b s->(∀e∈xs,EV b e)->SW b (cG b s xs).1
 |[],_,h,_=>h
 |e::r,s,h,he=>wV a r (qj a h (he e Sv)) fun x f=>he x (Sy _ f)
def qV (b:List Sn):List D:=b.map fun a=> .list (a.map kh)
theorem GZ (a:List Sn):(qV a).length=a.length:=by unfold qV;rw[Sj]
end STP
namespace K72
open PySem L2 L3 STP
def pi:FS:=(eO (Mp (aF (aJ OO (aa 1) (iB eU {aa 0}))) (aJ bj (aa 0) (aa 1)) (~~~0)))
def cF:FN:=ic 2 pi
def kN:FS:=(ck (fV (aJ tO (aJ i9 (aJ dI (aJ tO (aa 0) (~~~1000033)) (aa 1)) (aJ dI (aa 1) (~~~521))) (~~~1000033)) (gN 3))
 (ck (fV (aJ tO (aJ dI (aJ dI (aJ i9 (aa 3) (aa 3)) (aJ DL (aa 0) (~~~1000033))) (aJ i9 (~~~7) (aa 1))) (~~~999983)) (gN 3))
 (eO (aJ tO (aJ DL (aa 3) (~~~3)) (aa 2)))))
def bh:FN:=ic 4 kN
def eC:FS:=(ck (fV (aJ j8 (pC (.str "abc")) (fx bh 3 {aa 0,~~~5,~~~3})) (gN 3))
 (ck (fV (aJ dI (~~~1) (fx bh 3 {aa 0,~~~7,iB Ba {~~~1,aJ tN (aa 2) (~~~1)}})) (gN 4))
 (ck (fV (fx bh 3 {aa 0,~~~3,~~~8}) (gN 5))
 (ck (nK (rV (aF (aJ HU (aa 1) (~~~0))) (aF (aJ HU (aa 5) (~~~5)))) (eO (bB {pC (.str "below")})) fO)
 (ck (nK (rV (aF (aJ HU (aa 2) (~~~1))) (aF (aJ cY (aa 5) (~~~3)))) (eO (bB {pC (.str "layer"),aa 4})) fO)
 (ck (nK (rV (aF (aJ HU (aa 2) (~~~1))) (aF (aJ cY (aa 5) (~~~4)))) (eO (bB {pC (.str "tap"),aa 3,aa 4})) fO)
 (ck (nK (rV (aF (aJ HU (aa 2) (~~~1))) (aF (aJ cY (aa 5) (~~~5)))) (eO (bB {pC (.str "once"),aa 4})) fO)
 (eO (bB {pC (.str "letter"),aa 3})))))))))
def ei:FN:=ic 6 eC
def jW:FS:=(ck (fV (fx cF 2 {aa 0,~~~0}) (gN 2))
 (ck (fV (aJ dI (~~~1) (fx bh 3 {aa 2,~~~1,aa 1})) (gN 3))
 (ck (fV (aJ dI (~~~1) (fx bh 3 {aa 2,~~~2,~~~2})) (gN 4))
 (ck (fV (dU aw) (gN 5))
 (ck (tK (tE my {aa 4}) (gN 6) (ck (fV (fC 1 [0,3,6] (tE my {aa 3}) (gN 0) fy (fx cF 2 {aa 1,aJ dI (aJ dI (~~~1) (aJ i9 (aa 2) (aa 3))) (aa 0)})) (gN 7))
 (rS (Hn 5 (iB pT {fC 1 [6,4] (ji (aa 7)) (gN 0) fy (fx ei 3 {aa 0,aa 1,aa 2})})))))
 (ck (fV (iB pT {fC 1 [5] (tE my {aa 3}) (gN 0) (aF (aJ cY (aJ bj (aJ bj (aJ bj (aa 1) (~~~0)) (aa 0)) (~~~0)) (pC (.str "letter")))) (aa 0)}) (gN 8))
 (ck (fV (bB aw) (gN 9))
 (ck (nK (rV (aF (aJ HU (iB eU {aa 8}) (~~~1))) (aF (aJ HU (fx bh 3 {aa 2,~~~17,~~~3}) (~~~0)))) (fV (bB {bB {Lm QZ (aa 8) uI (ng (~~~2)),aJ j8 (pC (.str "abd")) (fx bh 3 {aa 2,~~~19,~~~3})}}) (gN 9)) fO)
 (eO (bB {aa 3,iB pT {aa 5},aa 9,aJ dI (~~~1) (fx bh 3 {aa 2,~~~23,~~~2})}))))))))))
def jS:FN:=ic 10 jW
def iC:FS:=(ck (fV (fx cF 2 {aa 0,~~~9}) (gN 1))
 (ck (fV (fC 1 [0] (tE my {fx bh 3 {aa 1,~~~131,~~~4}}) (gN 0) fy (fx bh 3 {fx cF 2 {aa 1,aJ dI (~~~10) (aa 0)},~~~127,~~~7})) (gN 2))
 (eO (OL uf (pC (.str "")) {fC 1 [] (ji (aa 2)) (gN 0) fy (aJ j8 (pC (.str "aabbcdz")) (aa 0))}))))
def iL:FN:=ic 3 iC
section
open L10
def pW:eP:=(aK (cL (ae (pC (.tuple [(.tuple []),.none,.none]))) (fD 2))
 (aK (cL (ae (dU aw)) (fD 3))
 (aK (sg (pf (ji (aa 1))) (fD 4) (aK (cL (nO (uh kE 3 (aj (ae (aa 0)) (aj (ae (aa 2)) (aj (ae (aa 4)) aQ))))) (fD 5))
 (aK (bM (l4 (ar 3) (ae (aJ bj (aa 5) (~~~0)))))
 (cL (ae (aJ bj (aa 5) (~~~1))) (fD 2)))))
 (gC (mJ (aj (ar 3) (aj (ae (aa 2)) aQ)))))))
def vg:iA:=cU 6 pW
end
def rK:FN:=L10.QQ vg
def g6:FS:=(ck (nK (zY (aF (Gd "list" (aa 2)))) (eO (pC (.bool Sq))) fO)
 (ck (tK (ji (aa 2)) (gN 3) (nK (rV (aF (aJ oY (aa 3) (bB {pC (.str "turn"),~~~0}))) (OP (aF (aJ pA (aJ bj (aa 3) (~~~0)) (bB {pC (.str "down"),pC (.str "up")}))) (zY (aF (sd QE OO (~~~0) (aJ bj (aa 3) (~~~1)) (aJ bj (aa 0) (~~~0))))))) (eO (pC (.bool Sq))) fO))
 (ck (fV (fx rK 2 {aa 0,aa 2}) (gT 2 (BU (gN 4) (BU (gN 5) Lo))))
 (ck (fV (dU aw) (gN 6))
 (ck (tK (ji (aa 4)) (gN 7) (rS (L10.Jy 6 (fC 2 [] (ji (aa 7)) (gT 2 (BU (gN 0) (BU (gN 1) Lo))) (aF (aJ cY (aa 1) (pC (.str "down")))) (aa 0)))))
 (eO (Dv (aJ cY (OL uf (pC (.str "")) {aa 6}) (aa 1)) (aJ cY (aa 5) (bB {bB aw,pC .none,pC .none})))))))))
def dD:FN:=ic 8 g6
def kq:FS:=(ck (fV (fC 1 [] (tE my {aJ bj (aa 0) (~~~0)}) (gN 0) fy (bB {pC (.str "down"),aa 0})) (gN 1))
 (ck (fV (fC 1 [] (tE my {aJ bj (aa 0) (~~~0)}) (gN 0) fy (bB {pC (.str "up"),aa 0})) (gN 2))
 (eO (aJ dI (aJ dI (aa 1) (aa 2)) (dU {bB {pC (.str "turn"),~~~0}})))))
def gA:FN:=ic 3 kq
def iU:FS:=(ck (fV (OL uf (pC (.str "")) {fC 2 [] (ji (aa 2)) (gT 2 (BU (gN 0) (BU (gN 1) Lo))) (aF (aJ cY (aa 1) (pC (.str "down")))) (aa 0)}) (gN 3))
 (ck (fV (aJ dI (aa 1) (iB zM {aa 3})) (gN 4))
 (ck (nK (aF (aJ oY (Lm xb (aa 0) (ng (aa 1)) (ng (aa 4))) (aa 3))) (eO (pC .none)) fO)
 (eO (aa 4)))))
def gh:FN:=ic 5 iU
end K72
namespace K72
open PySem L2 L3 L10 STP
def dj:eP:=(aK (cB (bJ (xO Si (ae (aa 1)) (a9 "Places" "numbers" (ar 0)))) (aK (cB (bJ (kZ Rn (GR eU (aj (a9 "Places" "found" (ar 0)) aQ)) (a9 "Places" "most" (ar 0)))) (pX "TooMany" "most" (a9 "Places" "most" (ar 0))) cO)
 (aK (wY (a9 "Places" "numbers" (ar 0)) (ae (aa 1)) (GR eU (aj (a9 "Places" "found" (ar 0)) aQ)))
 (bM (l4 (a9 "Places" "found" (ar 0)) (ae (bB {aa 1,aa 2,aa 3})))))) cO)
 (gC (l7 (a9 "Places" "numbers" (ar 0)) (ae (aa 1)))))
def bV:iA:=cU 4 dj
def cR:eP:=(aK (fQ "Places" "most" (ar 0) (ae (aa 2)))
 (aK (fQ "Places" "found" (ar 0) (ae (dU aw)))
 (aK (fQ "Places" "numbers" (ar 0) Aw)
 (bM (sO "Places" "enter" bV 4 (ar 0) (aj (ae (aa 1)) (aj (ae (pC .none)) (aj (ae (pC .none)) aQ))))))))
def cS:iA:=cU 3 cR
def gK:eP:=(aK (cL (ae (dU aw)) (fD 2))
 (aK (cL (j8 (a9 "Places" "found" (ar 0)) (ae (aa 1))) (fD 3))
 (aK (wN (bO (aF (aJ lJ (aJ bj (aa 3) (~~~1)) (pC .none)))) (aK (bM (l4 (ar 2) (ae (aJ bj (aa 3) (~~~2)))))
 (cL (j8 (a9 "Places" "found" (ar 0)) (ae (aJ bj (aa 3) (~~~1)))) (fD 3))))
 (gC (Bq (ar 2))))))
def cM:iA:=cU 4 gK
def kA:eP:=(aK (cL (nO (ae (fx gA 1 {aa 0}))) (fD 3))
 (aK (cL (Hl "Places" cS 3 (aj (ae (bB {pC (.tuple [(.tuple []),.none,.none]),~~~0})) (aj (ae (aa 2)) aQ))) (fD 4))
 (aK (cL (ae (~~~0)) (fD 5))
 (aK (wN (bJ (kZ OO (ae (aa 5)) (GR eU (aj (a9 "Places" "found" (ar 4)) aQ)))) (aK (cL (j8 (j8 (a9 "Places" "found" (ar 4)) (ae (aa 5))) (ae (~~~0))) (fD 6))
 (aK (sg (pf (ji (aa 3))) (fD 7) (aK (cL (nO (uh STP.kE 3 (aj (ae (aa 0)) (aj (ae (aJ bj (aa 6) (~~~0))) (aj (ae (aa 7)) aQ))))) (fD 8))
 (aK (cL (ae (fx gh 3 {aa 1,aJ bj (aa 6) (~~~1),aJ bj (aa 8) (~~~0)})) (fD 9))
 (cB (bO (aF (aJ lJ (aa 9) (pC .none)))) (bM (sO "Places" "enter" bV 4 (ar 4) (aj (ae (bB {aJ bj (aa 8) (~~~1),aa 9})) (aj (ae (aa 5)) (aj (ae (aa 7)) aQ))))) cO))))
 (Hm 5 Pj (ae (~~~1))))))
 (gC (ar 4))))))
def dA:iA:=cU 10 kA
def hV:eP:=(aK (cL (ae (dU aw)) (fD 3))
 (aK (cL (ae (dU aw)) (fD 4))
 (aK (sg (jf (a9 "Places" "found" (za dA 3 [] (aj (ae (aa 0)) (aj (ae (aa 1)) (aj (ae (aa 2)) aQ)))))) (OI 3 (nV (fD 5) (nV (fD 6) (nV (fD 7) DT)))) (aK (cL (HR (bO (aF (aJ mw (aa 6) (pC .none)))) (ae (~~~0)) (kZ dI (j8 (ar 3) (ae (aa 6))) (ae (~~~1)))) (fD 8))
 (aK (bM (l4 (ar 3) (ae (aa 8))))
 (bM (l4 (ar 4) (ae (bB {aJ bj (aa 5) (~~~0),aJ bj (aa 5) (~~~1),aa 8})))))))
 (gC (ar 4)))))
def ez:iA:=cU 9 hV
def wQ:eP:=(aK (cL (za dA 3 [] (aj (ae (aa 0)) (aj (ae (aa 1)) (aj (ae (aa 2)) aQ)))) (fD 3))
 (aK (cL (ae (bB {pC (.tuple [(.tuple []),.none,.none]),iB zM {aa 1}})) (fD 4))
 (aK (cB (bJ (xO Si (ae (aa 4)) (a9 "Places" "numbers" (ar 3)))) (gC (ae (pC .none))) cO)
 (gC (aU "Places" "way_to" cM 2 (ar 3) (aj (l7 (a9 "Places" "numbers" (ar 3)) (ae (aa 4))) aQ))))))
def df:iA:=cU 5 wQ
def ci:iA
 |[.fz b,.fz t,.fz (.int m)],Z=>(match df [.fz b,.fz t,.fz (.int m)] [] with
  | .er x _=>if x.cls=("TooMany":Str) then(match x.fs with
   |[(f,.int k)]=>if f=("most":Str)/\k=m then .ok (.fz (.bool Si)) Z else .bad
   |_=> .bad) else .bad
  |_=> .bad)
 |_,_=> .bad
def FJ:eP:=(aK (cL (ae (fx jS 2 {aa 0,~~~2})) (fD 1))
 (aK (cL (ae (fx iL 1 {aa 0})) (fD 2))
 (aK (cL (nO (n6 ez 3 [(.int 400)] (aj (ae (aa 1)) (aj (ae (aa 2)) aQ)))) (fD 3))
 (aK (cL (n6 df 3 [] (aj (ae (aa 1)) (aj (ae (aa 2)) (aj (ae (iB eU {aa 3})) aQ)))) (fD 4))
 (aK (cB (ri (bJ (Cv ci 3 (aj (ae (aa 1)) (aj (ae (aa 2)) (aj (ae (aJ tN (iB eU {aa 3}) (~~~1))) aQ)))))) (gC (ae (pC (.bool Sq)))) cO)
 (aK (cL (nO (ae (fC 1 [2] (ji (aa 3)) (gN 0) (aF (aJ cY (Lm OS (aa 0) uI (ng (~~~2))) (bB {bB {bB aw,pC .none,pC .none},iB zM {aa 1}}))) (aJ bj (aa 0) (~~~2))))) (fD 5))
 (aK (cB (bO (aF (aJ cY (aa 5) (dU aw)))) (gC (kZ mw (ar 4) (ae (pC .none)))) cO)
 (aK (cB (DU (bJ (kZ mw (ar 4) (ae (pC .none)))) (DU (ri (bJ (GH dD 3 (aj (ae (aa 1)) (aj (ae (aa 2)) (aj (ar 4) aQ)))))) (bJ (kZ oY (GR eU (aj (ar 4) aQ)) (ae (aJ bj (aa 5) (~~~0))))))) (gC (ae (pC (.bool Sq)))) cO)
 (aK (bM (l4 (ar 4) (ae (pC .none))))
 (aK (cL (nO (n6 df 3 [(.int 400)] (aj (ae (aa 1)) (aj (ae (aa 2)) aQ)))) (fD 6))
 (gC (ae (Dv (fx dD 3 {aa 1,aa 2,aa 6}) (aJ cY (iB eU {aa 6}) (aJ bj (aa 5) (~~~0))))))))))))))))
def F_law:iA:=cU 7 FJ
section
variable {ρ ρ1:bf} {Z Z1 Y Z3:aV} {x y z:SV} {i:Nat} {d:D} {X:List (D×D)}
theorem EH (h:Z[i]? =lD (.dd X)):tF Z (.rf i)=lD (i,X):=by unfold tF;dsimp only;rw[h]
theorem Cq (a:fk ρ Z= .ok x Z1) (hd:fd ρ Z1= .ok (.rf i) Y) (e:oW x=lD k) (b:Y[i]? =lD (.dd X)):xO neg fk fd ρ Z= .ok (.fz (.bool ((iH X k).isSome !=neg))) Y:=by unfold xO;rw[a,RS.bind_ok,hd,RS.bind_ok,e];show((RS.TB Y (tF Y (.rf i))).bind _)=_;rw[EH b];rfl
theorem yh (hd:fd ρ Z= .ok (.rf i) Z1) (a:fk ρ Z1= .ok x Y) (f:oW x=lD k) (e:Y[i]? =lD (.dd X)) (b:iH X k=lD d):l7 fd fk ρ Z= .ok (.fz d) Y:=by unfold l7;rw[hd,RS.bind_ok,a,RS.bind_ok,f];show((RS.TB Y (tF Y (.rf i))).bind _)=_;rw[EH e];show((RS.TB Y (iH X k)).bind _)=_;rw[b];rfl
theorem Gz (a:fv ρ Z= .ok (.fz d) Z1) (hd:fd ρ Z1= .ok (.rf i) Y) (e:fk ρ Y= .ok x Z3) (g:oW x=lD k) (f:Z3[i]? =lD (.dd X)) (b:X.length<1000000):wY fd fk fv ρ Z= .ok (.nx ρ) (Z3.set i (.dd (sZ X k d))):=by unfold wY;rw[a,RS.bind_ok,hd,RS.bind_ok,e,RS.bind_ok,g];show((RS.TB Z3 (tF Z3 (.rf i))).bind _)=_;rw[EH f];show(if X.length<1000000 then _ else _)=_;rw[if_pos b]
theorem Ka (ha:fa ρ Z= .ok xs Z1) (hn:xs.length=n) (a:F xs Z1= .ok x Y):Cv F n fa ρ Z= .ok x Y:=by unfold Cv;rw[ha,RS.bind_ok,if_pos hn,a,yq]
end
theorem xx {l r:aV}:(l++r)[l.length+t]? =r[t]? :=by rw[Tb (by omega),VS]
theorem Ke {l r:aV}:(l++r).set (l.length+t) c=l++r.set t c:=by rw[List.set_append_right _ _ (by omega),VS]
structure Pl where
 p:D
 b:D
 e:D
def vd (q:Pl):D:= .tuple [q.p,q.b,q.e]
def iy:List Pl->D->Option Nat
 |[],_=>Sg
 |q::r,p=>if Sk.eqv q.p p=Si then lD 0 else(iy r p).map (·+1)
def i6:Nat->List Pl->List (D×D)
 |_,[]=>[]
 |k,q::r=>(q.p,nd k)::i6 (k+1) r
theorem ju:∀(k:Nat) (fs:List Pl) (p:D),iH (i6 k fs) p=(iy fs p).map fun i=>nd (k+i)
 |_,[],_=>rfl
 |k,q::r,p=>by
  have a:=ju (k+1) r p;unfold iH at a⊢;unfold i6 iy;rw[Tu];cases Sk.eqv q.p p with
  |true=>rfl
  |false=>dsimp only;rw[a,if_neg SH,Option.map_map];congr 1;funext i;show nd (k+1+i)=nd (k+(i+1));rw[YA,aaL 1 i]
theorem yA:∀(k:Nat) (fs:List Pl) (q:Pl),i6 k (fs++[q])=i6 k fs++[(q.p,nd (k+fs.length))]
 |k,[],q=>rfl
 |k,a::r,q=>by show(a.p,nd k)::i6 (k+1) (r++[q])=(a.p,nd k)::(i6 (k+1) r++[(q.p,nd (k+(r.length+1)))]);rw[yA (k+1) r q,YA,aaL 1 r.length]
theorem A9:∀(k:Nat) (fs:List Pl),(i6 k fs).length=fs.length
 |_,[]=>rfl
 |k,q::r=>congrArg (·+1) (A9 (k+1) r)
theorem J6 (h:iy fs p=Sg):sZ (i6 0 fs) p (nd fs.length)=i6 0 (fs++[⟨p,b,e⟩]):=by
 have g:=ju 0 fs p;rw[h] at g;unfold iH at g;have f:((i6 0 fs).find? fun a=>Sk.eqv a.1 p)=Sg:=by
  cases q:(i6 0 fs).find? fun a=>Sk.eqv a.1 p with
  |none=>rfl
  |some x=>rw[q] at g;cases g
 unfold sZ;rw[f,yA,UX];rfl
theorem EB (h:iy fs q.p=Sg) (f:Sk.eqv q.p q.p=Si):iy (fs++[q]) q.p=lD fs.length:=by
 induction fs with
 |nil=>show(if Sk.eqv q.p q.p=Si then lD 0 else _)=_;rw[if_pos f];rfl
 |cons a r b=>
  unfold iy at h;show(if Sk.eqv a.p q.p=Si then lD 0 else(iy (r++[q]) q.p).map (·+1))=_;by_cases e:Sk.eqv a.p q.p=Si
  .rw[if_pos e] at h;cases h
  .rw[if_neg e] at h⊢;rw[b (by cases k:iy r q.p with|none=>rfl|some _=>rw[k] at h;cases h)];rfl
theorem qJ (h:LD.keyD p=Si):Sk.eqv p p=Si:=by
 refine W8 p (LD.kd_lay p ?_);cases p with
 |tuple xs=>unfold LD.keyD at h;rw[S2] at h;unfold LD.kd;exact h.1
 |_=>simp[LD.keyD] at h
def pF (m:Int) (j k:Nat):List (Str×SV):=[("most",.fz (.int m)),("found",.rf j),("numbers",.rf k)]
structure PSt (i j k:Nat) (m:Int) (fs:List Pl) (Z:aV):Prop where
 o:Z[i]? =lD (.obj "Places" (pF m j k))
 f:Z[j]? =lD (.lst ((fs.map vd).map .fz))
 n:Z[k]? =lD (.dd (i6 0 fs))
 jk:j≠k
 ij:i≠j
 ik:i≠k
 lt:fs.length<100000
def tJ (j k:Nat) (fs:List Pl) (Z:aV):aV:=(Z.set k (.dd (i6 0 fs))).set j (.lst ((fs.map vd).map .fz))
section
variable {i j k:Nat} {m:Int} {fs:List Pl} {Z:aV} {p b e:D}
theorem PSt.ent (h:PSt i j k m fs Z) (l:fs.length+1<100000):PSt i j k m (fs++[q]) (tJ j k (fs++[q]) Z):=by
 have g:=(Sl.mp h.f).1;have a:=(Sl.mp h.n).1;refine⟨?_,?_,?_,h.jk,h.ij,h.ik,by rw[Su];exact l⟩
 .unfold tJ;rw[Ts (Ne.symm h.ij),Ts (Ne.symm h.ik)];exact h.o
 .unfold tJ;rw[TV (by rw[TZ];exact g)]
 .unfold tJ;rw[Ts h.jk,TV a]
theorem Fm:(pF m j k).lookup ("most":Str)=-(.int m):=by rfl
theorem lB:(pF m j k).lookup ("found":Str)=lD (.rf j):=by rfl
theorem oO:(pF m j k).lookup ("numbers":Str)=lD (.rf k):=by rfl
theorem uK:(pF m j k).lookup ("enter":Str)=Sg:=by rfl
theorem xU (a:LD.keyD p=Si):oW (.fz p)=lD p:=if_pos a
theorem tX (h:PSt i j k m fs Z) (hm:L9.PB (.int m)=Si) (O:m<=1000) (E:LD.keyD p=Si):bV [.rf i,.fz p,.fz b,.fz e] Z=(match iy fs p with
  |some t=> .ok (.fz (nd t)) Z
  |none=>if m<=(fs.length:Int) then .er ⟨"TooMany",[("most",.int m)]⟩ Z else .ok (.fz (nd fs.length)) (tJ j k (fs++[⟨p,b,e⟩]) Z)):=by
 have w:=xU E;have A:∀{a:aV},a[i]? =lD (.obj "Places" (pF m j k))->a9 "Places" "numbers" (ar 0) [lD (.rf i),-(p),-(b),-(e)] a= .ok (.rf k) a:=fun z=>gF (bv rfl) z oO;have F:∀{a:aV},a[i]? =lD (.obj "Places" (pF m j k))->a9 "Places" "found" (ar 0) [lD (.rf i),-(p),-(b),-(e)] a= .ok (.rf j) a:=fun z=>gF (bv rfl) z lB;have B:∀{a:aV},a[i]? =lD (.obj "Places" (pF m j k))->a9 "Places" "most" (ar 0) [lD (.rf i),-(p),-(b),-(e)] a= .ok (.fz (.int m)) a:=fun z=>gF (bv rfl) z Fm;have u:∀{a:aV},ae (aa 1) [lD (.rf i),-(p),-(b),-(e)] a= .ok (.fz p) a:=ag (af rfl);have g:=Cq (neg:=Si) u (A h.o) w h.n;rw[ju] at g;have get:∀{l:List Pl} {a:aV} {t:Nat},a[i]? =lD (.obj "Places" (pF m j k))->a[k]? =lD (.dd (i6 0 l))->iy l p=lD t->gC (l7 (a9 "Places" "numbers" (ar 0)) (ae (aa 1))) [lD (.rf i),-(p),-(b),-(e)] a= .ok (.rt (.fz (nd t))) a:=fun K J I=>by refine iY (yh (A K) u w J ?_);rw[ju,I];show lD (nd (0+_))=_;rw[UX]
 have v:=Bl (aq (F h.o) aO) (by unfold aC;rw[gI h.f];rfl) ((gz _).trans (by rw[Sj]));cases q:iy fs p with
 |some t=>rw[q] at g;refine jJ rfl ?_;exact cV (ip (aZ g) gQ) (get h.o h.n q)
 |none=>
  rw[q] at g;dsimp only;by_cases r:m<=(fs.length:Int)
  .rw[if_pos r]
   have y:=aZ (cW v (B h.o) (cr ((B6 _ _).trans (by rw[decide_eq_true r]))));show cU 4 dj _ _=_;unfold cU;show((dj [lD (.rf i),-(p),-(b),-(e)] Z).bind _)=_;have N:dj [lD (.rf i),-(p),-(b),-(e)] Z= .er ⟨"TooMany",[("most",.int m)]⟩ Z:=by unfold dj;unfold aK;rw[fH (aZ g) rfl,fH y rfl,Dq (B h.o) hm];rfl
   rw[N];rfl
  .rw[if_neg r]
   have y:=aZ (cW v (B h.o) (cr ((B6 _ _).trans (by rw[decide_eq_false r]))));have C:=Gz v (A h.o) u w h.n (by rw[A9];have:=h.lt;omega);rw[J6 q] at C;have L:(Z.set k (.dd (i6 0 (fs++[⟨p,b,e⟩]))))[i]? =lD (.obj "Places" (pF m j k)):=(Ts (Ne.symm h.ik)).trans h.o;have G:(Z.set k (.dd (i6 0 (fs++[⟨p,b,e⟩]))))[j]? =lD (.lst ((fs.map vd).map .fz)):=(Ts (Ne.symm h.jk)).trans h.f;have H:=ml (fe:=ae (bB {aa 1,aa 2,aa 3})) (x:= .fz (vd ⟨p,b,e⟩)) (F L) G (ag (cA (ai (af rfl) (ai (af rfl) (ai (af rfl) aI))) rfl (Sm rfl))) G (by rw[Sj,Sj];have:=h.lt;omega);have M:(Z.set k (.dd (i6 0 (fs++[⟨p,b,e⟩])))).set j (.lst ((fs.map vd).map SV.fz++[.fz (vd ⟨p,b,e⟩)]))=tJ j k (fs++[⟨p,b,e⟩]) Z:=by unfold tJ;rw[S5,S5];rfl
   rw[M] at H;have P:=h.ent (q:=⟨p,b,e⟩) (by omega);refine jJ rfl ?_;exact cV (fH (aZ g) (cV (ip y gQ) (cV C (gw H)))) (get P.o P.n (EB q (qJ E)))
end
def i7 (Z:aV) (m:Int) (fs:List Pl) (J:aV):aV:=Z++(Cell.obj "Places" (pF m (Z.length+1) (Z.length+2)):: .lst ((fs.map vd).map .fz):: .dd (i6 0 fs)::J)
theorem we (h:fs.length<100000):PSt Z.length (Z.length+1) (Z.length+2) m fs (i7 Z m fs J):=
 ⟨by have:=xx (l:=Z) (r:=Cell.obj "Places" (pF m (Z.length+1) (Z.length+2)):: .lst ((fs.map vd).map .fz):: .dd (i6 0 fs)::J) (t:=0);exact this,xx,xx,by omega,by omega,by omega,h⟩
theorem Br:tJ (Z.length+1) (Z.length+2) fs' (i7 Z m fs J)=i7 Z m fs' J:=by unfold tJ i7;rw[Ke,Ke];rfl
def TM (m:Int):Xc:=⟨"TooMany",[("most",.int m)]⟩
theorem yy (a:0<=m) (h:m<=1000):L9.PB (.int m)=Si:=by refine decide_eq_true (abY (Nat.log2_le_self m.natAbs) ?_);omega
theorem EL (l:LD.keyD p=Si) (j:0<=m) (f:m<=1000):cS [.rf Z.length,.fz p,.fz (.int m)] (Z++[.obj "Places" []])=if m<=0 then .er (TM m) (i7 Z m [] []) else .ok (.fz .none) (i7 Z m [⟨p,.none,.none⟩] []):=by
 have i:fQ "Places" "most" (ar 0) (ae (aa 2)) [lD (.rf Z.length),-(p),-(.int m)] (Z++[.obj "Places" []])= .ok (.nx [lD (.rf Z.length),-(p),-(.int m)]) (Z++[.obj "Places" [("most",.fz (.int m))]]):=
  (oA (ag (af rfl)) (bv rfl) bc (by decide)).trans (by rw[fK];rfl)
 have h:fQ "Places" "found" (ar 0) (ae (dU aw)) [lD (.rf Z.length),-(p),-(.int m)] (Z++[.obj "Places" [("most",.fz (.int m))]])= .ok (.nx [lD (.rf Z.length),-(p),-(.int m)]) (Z++[.obj "Places" [("most",.fz (.int m)),("found",.rf (Z.length+1))],.lst []]):=by refine(oA (ef (by fail "ev")) (bv rfl) (by rw[Tw];exact xx (t:=0)) (Sm rfl)).trans ?_;rw[Tw,show Z.length=Z.length+0 from rfl,Ke,Su];rfl
 have g:fQ "Places" "numbers" (ar 0) Aw [lD (.rf Z.length),-(p),-(.int m)] (Z++[.obj "Places" [("most",.fz (.int m)),("found",.rf (Z.length+1))],.lst []])= .ok (.nx [lD (.rf Z.length),-(p),-(.int m)]) (i7 Z m [] []):=by refine(oA rfl (bv rfl) (by rw[Tw];exact xx (t:=0)) (Sm rfl)).trans ?_;rw[Tw,show Z.length=Z.length+0 from rfl,Ke,Su];rfl
 have P:PSt Z.length (Z.length+1) (Z.length+2) m [] (i7 Z m [] []):=we (by decide);have n:=tX (b:= .none) (e:= .none) P (yy j f) f l;have a:=Bm (F:=bV) (fo:=ar 0) (fa:=aj (ae (aa 1)) (aj (ae (pC .none)) (aj (ae (pC .none)) aQ))) (ρ:=[lD (.rf Z.length),-(p),-(.int m)]) (bv rfl) P.o uK (aq (ag (af rfl)) (aq (ag aD) (aq (ag aD) aO))) rfl;rw[n] at a;have a:sO "Places" "enter" bV 4 (ar 0) (aj (ae (aa 1)) (aj (ae (pC .none)) (aj (ae (pC .none)) aQ))) [lD (.rf Z.length),-(p),-(.int m)] (i7 Z m [] [])=if m<=0 then .er (TM m) (i7 Z m [] []) else .ok (.fz (nd 0)) (tJ (Z.length+1) (Z.length+2) [⟨p,.none,.none⟩] (i7 Z m [] [])):=a
 rw[Br] at a;show cU 3 cR _ _=_;unfold cU;show((cR [lD (.rf Z.length),-(p),-(.int m)] (Z++[.obj "Places" []])).bind _)=_;unfold cR;rw[cV i rfl,cV h rfl,cV g rfl];unfold bM;rw[a];split<;>rfl
theorem wu:∀{l:List α},(∀a∈l,LD.kd (f a)=Si)->LD.kds (l.map f)=Si
 |[],_=>by rw[Wz,LD.kds]
 |a::r,h=>by rw[SN,LD.kds,h a Sv,wu fun x b=>h x (Sy _ b)];rfl
theorem JZ:∀ks:List Nat,LD.kds (bp ks)=Si:=fun ks=>wu fun a _=>by show LD.kd (.int a)=Si;rw[LD.kd]
theorem Lf (h:LB m):LD.kd (mD m)=Si:=by
 cases m with
 |S9 c=>show LD.kd (.tuple [.str "letter",.str (d8 c)])=Si;simp only[LD.kd,LD.kds];rw[rR h,show Sk.strOk "letter"=Si by left];rfl
 |UZ n=>show LD.kd (.tuple [.str "layer",.int n])=Si;simp only[LD.kd,LD.kds];rw[show Sk.strOk "layer"=Si by left];rfl
 |Xh c n=>show LD.kd (.tuple [.str "tap",.str (d8 c),.int n])=Si;simp only[LD.kd,LD.kds];rw[rR h,show Sk.strOk "tap"=Si by left];rfl
 |once n=>show LD.kd (.tuple [.str "once",.int n])=Si;simp only[LD.kd,LD.kds];rw[show Sk.strOk "once"=Si by left];rfl
 |none=>show LD.kd (.tuple [.str "none"])=Si;simp only[LD.kd,LD.kds];rw[show Sk.strOk "none"=Si by left];rfl
 |below=>show LD.kd (.tuple [.str "below"])=Si;simp only[LD.kd,LD.kds];rw[show Sk.strOk "below"=Si by left];rfl
theorem Et (h:SW b s):LD.kd (dr s)=Si/\Sk.depth (dr s)<=4:=by
 have j:LD.kds ((fW s.ac).map pD)=Si:=wu fun q l=>by show LD.kd (.tuple [nd q.1,mD q.2])=Si;simp only[LD.kd,LD.kds];rw[Lf (h.sa.ac _ _ (eX.mp l).2).2.lb];rfl
 have o:∀m:Mn,Sk.depth (mD m)<=1:=fun m=>by cases m<;>exact Sm rfl
 have p:Sk.depthAll ((fW s.ac).map pD)<=2:=wS fun q _=>by show max 0 (max (Sk.depth (mD q.2)) 0)+1<=2;have:=o q.2;omega
 have f:LD.kd (iQ s.wt)=Si/\Sk.depth (iQ s.wt)<=2:=by
  cases q:s.wt with
  |none=>exact⟨by show LD.kd .none=Si;rw[LD.kd],Th _⟩
  |some x=>
   obtain⟨a,g,w⟩:=x;have v:=(h.wt a g w q).1;constructor
   .show LD.kd (.tuple [.tuple (bp a),.int g,si w])=Si
    simp only[LD.kd,LD.kds];rw[JZ];cases w with
    |none=>show(Si&&(Si&&(LD.kd (.tuple [.str "chord"])&&Si)))=Si;simp only[LD.kd,LD.kds];rw[show Sk.strOk "chord"=Si by left];rfl
    |some i=>obtain⟨c,n⟩:=i;have lb:LB (.Xh c n):=(v.tp c n rfl).1;show(Si&&(Si&&(LD.kd (mD (.Xh c n))&&Si)))=Si;rw[Lf lb];rfl
   .show max (Sk.depthAll (bp a)+1) (max 0 (max (Sk.depth (si w)) 0))+1<=2
    rw[jB];cases w with
    |none=>exact Sm rfl
    |some i=>exact Sm rfl
 have e:LD.kd (pd s.oc)=Si/\Sk.depth (pd s.oc)=0:=by cases s.oc<;>exact⟨by show LD.kd _=Si;unfold pd;simp only[LD.kd],rfl⟩
 constructor
 .show LD.kd (.tuple [.tuple ((fW s.ac).map pD),iQ s.wt,pd s.oc])=Si;simp only[LD.kd,LD.kds];rw[j,f.1,e.1];rfl
 .show max (Sk.depthAll ((fW s.ac).map pD)+1) (max (Sk.depth (iQ s.wt)) (max (Sk.depth (pd s.oc)) 0))+1<=4;rw[e.2];have:=f.2;omega
def tD (n:Nat):List Wn:=(S6 n).map .down++(S6 n).map .up++[.turn]
theorem zL {b:Bd} {n:Nat} (hn:b.n=n):∀e∈tD n,EV b e:=by
 intro e a;rcases Tx.mp a with a|a
 .rcases Tx.mp a with a|a
  .obtain⟨k,f,rfl⟩:=Ta.mp a;have:=U1.mp f;show(k:Int)<b.n;omega
  .obtain⟨k,f,rfl⟩:=Ta.mp a;have:=U1.mp f;show(k:Int)<b.n;omega
 .rw[SQ.mp a];trivial
theorem Qu (h:xs.length+ys.length<=1000000):dI (.list xs) (.list ys)=lD (.ow (xs++ys)):=if_pos h
theorem Qs (b:Bd):bj (bD b) (.int 0)=-(.int b.n):=ib
theorem M9 {b:Bd} {n:Nat} (hn:b.n=n) (l:n<=5):gA [bD b]= .ok (.ow ((tD n).map cI)):=by
 have i:my [.int b.n]=lD (bp (S6 n)):=by rw[hn];exact p7 (by omega)
 have j:=Qs b;have a:(S6 n).length<=1000:=by rw[TR];omega
 have f:kJ (dS (gN 0) fy (bB {pC (.str "down"),aa 0}) (bp (S6 n)) [Sg] [])= .ok ((S6 n).map fun k=>cI (.down k)):=nc nd (fun k=>cI (.down k)) (S6 n) a rfl fun k _=>cA (ai aD (ai (af rfl) aI)) rfl (Sm rfl);have e:kJ (dS (gN 0) fy (bB {pC (.str "up"),aa 0}) (bp (S6 n)) [Sg] [])= .ok ((S6 n).map fun k=>cI (.up k)):=nc nd (fun k=>cI (.up k)) (S6 n) a rfl fun k _=>cA (ai aD (ai (af rfl) aI)) rfl (Sm rfl);have h:dI (.list ((S6 n).map fun k=>cI (.down k))) (.list ((S6 n).map fun k=>cI (.up k)))=lD (.ow (((S6 n).map fun k=>cI (.down k))++(S6 n).map fun k=>cI (.up k))):=Qu (by rw[Sj,Sj];omega);have g:dI (.list (((S6 n).map fun k=>cI (.down k))++(S6 n).map fun k=>cI (.up k))) (.list [cI .turn])=lD (.ow ((tD n).map cI)):=(Qu (by rw[Su,Sj,Sj];show _+1<=_;omega)).trans (by unfold tD;rw[S5,S5,Tr,Tr];rfl);refine jE rfl ?_;unfold kq;refine di (d4 (by fail "ev") rfl f) rfl rfl ?_;refine di (d4 (by fail "ev") rfl e) rfl rfl ?_;exact fJ (aL (aL (oi rfl) (oi rfl) rfl rfl h) (nY (ai (cA (ai aD (ai aD aI)) rfl (Sm rfl)) aI) rfl (Sm rfl)) rfl rfl g) rfl rfl
abbrev zf (d:D):Option PV:=-(d)
abbrev zo (l:List D):Option PV:=lD (.ow l)
def eD (w:List Nat):Str:=⟨(w.map (97+·)).toArray⟩
theorem qD (w:List Nat):(eD w).length=w.length:=by show((w.map (97+·)).toArray).size=_;rw[SE,Sj]
theorem IV {v w:List Nat} (h:eD v=eD w):v=w:=by have a:v.map (97+·)=w.map (97+·):=congrArg (fun z:Str=>z.cps.toList) h;exact(YB fun x y e=>by omega).mp a
theorem zD {w:List Nat} (h:∀c∈w,c<26):Sk.strOk (eD w)=Si:=by show((w.map (97+·)).toArray.all fun c=>decide (c<0x110000))=Si;rw[<-ab5];refine Vt.mpr fun c b=> ?_;obtain⟨d,a,rfl⟩:=Ta.mp b;have:=h d a;exact decide_eq_true (by omega)
theorem Bg (v w:List Nat):eD v++eD w=eD (v++w):=by show(⟨(v.map (97+·)).toArray++(w.map (97+·)).toArray⟩:Str)=⟨((v++w).map (97+·)).toArray⟩;rw[S5];simp
theorem zK {w:List Nat} (h:w.length<=1000):zM [.str (eD w)]=-(nd w.length):=by show(if(eD w).length<=1000000 then lD (RV.fz (.int (eD w).length)) else Sg)=_;rw[qD,if_pos (by omega)]
theorem Lu (a b n:Nat):Builtin.Str.strSliceIndices (lD (a:Int)) (lD (b:Int)) 1 n=Builtin.Str.strSliceIndices (lD (abw (min a n):Int)) (lD (abw (min b n):Int)) 1 n:=by
 unfold Builtin.Str.strSliceIndices;dsimp only;rw[if_neg (show¬(a:Int)<0 by omega),if_neg (show¬(b:Int)<0 by omega),if_neg (show¬(abw (min a n):Int)<0 by omega),if_neg (show¬(abw (min b n):Int)<0 by omega)];congr 1
 .rw[if_pos (by decide),if_pos (by decide)];omega
 .rw[if_pos (by decide),if_pos (by decide)];omega
theorem Kz {w:List Nat} (h:w.length<=1000) {a b:Nat} (j:a<=b):xb (.str (eD w)) (lD (a:Int)) (lD (b:Int))=-(.str (eD ((w.drop a).take (b - a)))):=by
 have f:=qD w;have g:Txt.slice (eD w) (lD (a:Int)) (lD (b:Int))=eD ((w.drop a).take (b - a)):=by
  have e:=afc (eD w) (a:=min a w.length) (b:=min b w.length) (by omega) (by rw[f];omega);rw[f,<-Lu] at e;have l:((eD w).cps.toList.drop (min a w.length)).take (min b w.length - min a w.length)=((w.drop a).take (b - a)).map (97+·):=by
   show((w.map (97+·)).drop (min a w.length)).take (min b w.length - min a w.length)=_;rw[adM,adN];by_cases q:a<=w.length
   .rw[ado q,List.take_eq_take_iff,Vs,Sj];omega
   .rw[UB (by rw[Sj];omega),UB (by rw[Sj];omega),adO,adO]
  rw[l] at e;unfold Txt.slice;rw[f];split
  .rename_i z
   rw[S2] at z;have z:=eq_of_beq z.2;have n:=PySem.sliceIndices_le (lD (a:Int)) (lD (b:Int)) w.length;have m:(adp (fun i=>(eD w).cps[i]?) (Builtin.Str.strSliceIndices (lD (a:Int)) (lD (b:Int)) 1 w.length)).length=((w.drop a).take (b - a)).length:=by rw[e,Sj]
   rw[Lu,afd (by omega) (by omega),Sj,TR] at z;rw[Xp (by rw[Vs];omega)];by_cases q:a=0
   .rw[q];rfl
   .rw[List.length_eq_zero_iff.mp (show w.length=0 by omega),List.drop_nil]
  .show(⟨(adp (fun i=>(eD w).cps[i]?) _).toArray⟩:Str)=_;rw[e];rfl
 show(if(eD w).length<=1000000 then lD (RV.fz (.str (Txt.slice (eD w) (lD (a:Int)) (lD (b:Int))))) else Sg)=_;rw[f,if_pos (by omega),g]
theorem Hz:∀w:List Nat,Y1 (⟨#[]⟩:Str) (w.map d8)=eD w
 |[]=>rfl
 |[c]=>rfl
 |c::d::r=>by show d8 c++(⟨#[]⟩:Str)++Y1 (⟨#[]⟩:Str) ((d::r).map d8)=_;rw[Hz (d::r),show d8 c++(⟨#[]⟩:Str)=d8 c by show(⟨#[97+c]++ #[]⟩:Str)=_;simp;rfl];exact Bg [c] (d::r)
theorem vD {w:List Nat} (h:w.length<=1000):uf "" [.list (w.map fun c=> .str (d8 c))]=-(.str (eD w)):=by
 have a:("":Str)=⟨#[]⟩:=by left
 show(match vn (w.map fun c=> .str (d8 c)) with
   |some b=>if ab0 "" b=Si then lD (RV.fz (.str (Txt.join "" b))) else Sg
   |none=>Sg)=_
 rw[show(w.map fun c=>Sk.str (d8 c))=(w.map d8).map .str by rw[Tr];rfl,Ej];dsimp only;have ok:ab0 "" (w.map d8)=Si:=by unfold ab0;have:=afe (sep:= "") (texts:=w.map d8) (B:=1) (fun z e=>by obtain⟨n,_,rfl⟩:=Ta.mp e;exact Sw _) (by rw[Sj,a];show _+_*0<=_;omega);rw[this];rfl
 rw[if_pos ok,show Txt.join "" (w.map d8)=Y1 "" (w.map d8) from aff _ _,a,Hz]
theorem JE (v w:List Nat):Sk.eqv (.str (eD v)) (.str (eD w))=decide (v=w):=by
 rw[Sk.eqv];by_cases h:v=w
 .rw[decide_eq_true h,h];simp
 .rw[decide_eq_false h];exact beq_eq_false_iff_ne.mpr fun z=>h (IV z)
theorem N0 {v w:List Nat} (b:∀c∈v,c<26) (a:∀c∈w,c<26):oY (.str (eD v)) (.str (eD w))=-(.bool (!decide (v=w))):=by unfold oY;rw[show jv (.str (eD v))=Si from sJ (zD b) (by show 0<=64;decide),show Sk.canLay0 (.str (eD w))=Si from zD a,T7,if_pos rfl,JE]
theorem Es {f:Str->List D->Option RV} {fo:FE} {fa:FA} {ρ ρ1 a:aY} {pv:PV} {z:Str} {ps:List PV} {ds:List D} {rv:RV} (b:fo ρ= .ok (pv,ρ1)) (hz:CA pv=lD z) (ha:fa ρ1= .ok (ps,a)) (hd:tR a ps=lD ds) (e:f z ds=lD rv):OL f fo fa ρ= .ok (rv.pv,a):=by unfold OL;rw[b,Res.bind_ok];dsimp only;rw[hz,aH,Res.bind_ok,ha,Res.bind_ok,hd,aH,Res.bind_ok,e,aH,Res.bind_ok]
def ke (sn:Sn):List Nat:=(sn.filter (·.2)).map (·.1)
theorem NJ {sn:Sn} (h:Wv sn):∀c∈ke sn,c<26:=fun c b=>by obtain⟨q,a,rfl⟩:=Ta.mp b;exact h q (T6.mp a).1
theorem CD (sn:Sn):(ke sn).length<=sn.length:=by unfold ke;rw[Sj];exact Wc _ _
theorem x4 {sn:Sn} (g:sn.length<=1000):kJ (dS (gT 2 (BU (gN 0) (BU (gN 1) Lo))) (aF (aJ cY (aa 1) (pC (.str "down")))) (aa 0) (sn.map kh) [Sg,Sg] [])= .ok ((ke sn).map fun c=> .str (d8 c)):=by
 have e:∀d:Bool,cY (.str (if d=Si then "down" else "up")) (.str "down")=-(.bool d):=fun d=>by
  cases d
  .exact(P8 (by left) (by left)).trans (by rw[show((if Sq=Si then "down" else "up":Str)== "down")=Sq by left])
  .exact(P8 (by left) (by left)).trans (by rw[show((if Si=Si then "down" else "up":Str)== "down")=Si by left])
 rw[wI kh (fun q=>if q.2=Si then lD (Sk.str (d8 q.1)) else Sg) (fun ρ=>∃a d,ρ=[a,d]) sn ⟨Sg,Sg,rfl⟩ g ?_]
 .congr 1
  unfold ke;rw[Tr];clear g
  induction sn with
  |nil=>rfl
  |cons x r f=>
   cases q:x.2 with
   |true=>rw[W6 (b:=Sk.str (d8 x.1)) (by rw[if_pos q]),aam q,f];rfl
   |false=>rw[W5 (by rw[if_neg (by rw[q];simp)]),aan (by rw[q];simp),f]
 .rintro⟨c,d⟩ h ρ ⟨x,y,rfl⟩
  cases d with
  |true=>exact⟨[zf (.str (d8 c)),zf (.str (if Si=Si then "down" else "up"))],AD (x:= .str (d8 c)) rfl (bq (aL (rv:= .fz (.bool Si)) (af rfl) aD rfl rfl (e Si)) rfl) (af rfl) rfl rfl,_,_,rfl⟩
  |false=>exact⟨[zf (.str (d8 c)),zf (.str (if Sq=Si then "down" else "up"))],N5 rfl (bq (aL (rv:= .fz (.bool Sq)) (af rfl) aD rfl rfl (e Sq)) rfl) rfl,_,_,rfl⟩
def Ci (w:List Nat) (d:Nat) (sn:Sn):Option Nat:=if(w.drop d).take (ke sn).length=ke sn then lD (d+(ke sn).length) else Sg
def Pw:Option Nat->D
 |some k=>nd k
 |none=> .none
theorem Ib {w:List Nat} (i:∀c∈w,c<26) (m:w.length<=3) {d:Nat} (hd:d<=3) {sn:Sn} (j:Wv sn) (n:sn.length<=900):gh [.str (eD w),nd d,.list (sn.map kh)]= .ok (.fz (Pw (Ci w d sn))):=by
 have o:=CD sn;have cm:=x4 (sn:=sn) (by omega);have h:=vD (w:=ke sn) (by omega);have g:=zK (w:=ke sn) (by omega);have e:=NJ j;have f:=Kz (w:=w) (by omega) (a:=d) (b:=d+(ke sn).length) (by omega);rw[VS] at f;have ne:=N0 (v:=(w.drop d).take (ke sn).length) (w:=ke sn) (fun c l=>i c (List.mem_of_mem_drop (X2 l))) e;refine jE (ρ:=[zf (.str (eD w)),zf (nd d),zf (.list (sn.map kh)),Sg,Sg]) rfl ?_;unfold iU;refine di (ρ3:=[zf (.str (eD w)),zf (nd d),zf (.list (sn.map kh)),zf (.str (eD (ke sn))),Sg]) (Es (rv:= .fz (.str (eD (ke sn)))) aD rfl (ai (d4 (cs:=[]) (ds:=sn.map kh) (gu (d:= .list (sn.map kh)) (af rfl) rfl rfl) rfl cm) aI) rfl h) rfl rfl ?_;refine di (ρ3:=[zf (.str (eD w)),zf (nd d),zf (.list (sn.map kh)),zf (.str (eD (ke sn))),zf (nd (d+(ke sn).length))]) (aL (rv:= .fz (nd (d+(ke sn).length))) (af rfl) (fM (rv:= .fz (nd (ke sn).length)) (ai (af rfl) aI) rfl g) rfl rfl (jM _ _)) rfl rfl ?_;refine oP (bq (aL (Cm (rv:= .fz (.str (eD ((w.drop d).take (ke sn).length)))) (af rfl) (kB (af rfl) rfl) (kB (af rfl) rfl) rfl f) (af rfl) rfl rfl ne) rfl) (fun q=> ?_) (fun q=>gj ?_)
 .have q:¬(w.drop d).take (ke sn).length=ke sn:=by simpa using q
  refine ki (rv:= .fz .none) aD rfl ?_;unfold Ci;rw[if_neg q];rfl
 .have q:(w.drop d).take (ke sn).length=ke sn:=by simpa using q
  refine fJ (rv:= .fz (nd (d+(ke sn).length))) (af rfl) rfl ?_;unfold Ci;rw[if_pos q];rfl
def AO:Mn->Mn
 | .Xh _ n=> .UZ n
 | .once _=> .none
 |m=>m
def Mo:Mn->Option (Nat×Int)
 | .Xh c n=>lD (c,n)
 |_=>Sg
def Ca (b:Bd) (x:Nat) (k:Nat) (a:Mn):Prop:=a=j4 b 0 k\/a= .S9 x\/a= .none
def Na (b:Bd) (k:Nat) (a:Mn):Prop:=a=AO (j4 b 0 k)\/a=AO (j4 b 1 k)
structure IN (b:Bd) (s:UQ):Prop where
 ac:∀k a,s.ac k=lD a->Na b k a
 wt:∀ks g w,s.wt=lD (ks,g,w)->∃k c n,ks=[k]/\w=lD (c,n)/\(j4 b 0 k= .Xh c n\/j4 b 1 k= .Xh c n)
structure IC (b:Bd) (x:Nat) (s:UQ):Prop where
 ac:∀k a,s.ac k=lD a->Ca b x k a
 wt:∀ks g w,s.wt=lD (ks,g,w)->w=Sg/\∃k,ks=[k]
 oc:s.oc=Sg
section
variable {b:Bd} {p:UQ×Sn} {s:UQ} {k x:Nat}
theorem Cj {Q:Nat->Mn->Prop} {ac:Ac} {o:Option Mn} (h:∀k a,ac k=lD a->Q k a) (f:∀a,o=lD a->Q k a):∀j a,kj ac k o j=lD a->Q j a:=fun j a e=>by
 by_cases z:j=k
 .subst z;rw[dQ] at e;exact f a e
 .rw[eZ z] at e;exact h j a e
theorem BP {Q:Nat->Mn->Prop} (h:∀j a,j≠k->p.1.ac j=lD a->Q j a):∀j a,(go p k).1.ac j=lD a->Q j a:=fun j a e=>by
 unfold go at e;cases z:p.1.ac k with
 |none=>rw[z] at e;dsimp only at e;exact h j a (fun q=>by subst q;rw[z] at e;cases e) e
 |some y=>
  rw[z] at e;by_cases q:j=k
  .subst q;exact absurd ((dQ (ac:=p.1.ac) (k:=j) (o:=Sg)).symm.trans e) (by simp)
  .exact h j a q ((eZ q).symm.trans e)
theorem tY:(go p k).1.wt=p.1.wt/\(go p k).1.oc=p.1.oc:=by unfold go;split<;>exact⟨rfl,rfl⟩
theorem Gi (s:UQ) (m:Mn):(d6 s m).ac=s.ac/\(d6 s m).wt=s.wt:=by unfold d6;split<;>exact⟨rfl,rfl⟩
theorem JB (a:VB b) (f:SA b s) (g:b.ls.length<=2):look b (jD s.ac s.oc) k=j4 b 0 k\/look b (jD s.ac s.oc) k=j4 b 1 k:=by
 obtain⟨i,h⟩:=u7 a f;have:(jD s.ac s.oc).toNat=0\/(jD s.ac s.oc).toNat=1:=by omega
 unfold look;split
 .exact .inl rfl
 .rcases this with e|e<;>rw[e]
  .exact .inl rfl
  .exact .inr rfl
theorem IN.dec (h:IN b p.1):IN b (cb b p).1/\(cb b p).1.wt=Sg:=by
 unfold cb;split
 .rename_i q;exact⟨h,q⟩
 .rename_i f g w q
  obtain⟨k,c,n,rfl,rfl,i⟩:=h.wt f g w q;refine⟨⟨?_,fun _ _ _ e=>(by cases e)⟩,rfl⟩;refine Cj (k:=k) (o:=lD (.UZ n)) h.ac fun a e=> ?_;cases e;rcases i with e|e
  .exact .inl (by rw[e];rfl)
  .exact .inr (by rw[e];rfl)
theorem IN.step (l:VB b) (C:b.ls.length<=2) (i:b.cs=[]) (r:SW b s) (h:IN b s) {e:Wn} (I:EV b e):IN b (bA b s e).1:=by
 have t:∀f,dY b f=[]:=fun f=>by unfold dY;rw[i];rfl
 cases e with
 |turn=>
  show IN b (gM b (s,[])).1;unfold gM;split
  .exact h
  .rename_i f g w q
   have v:IN b {s with wt:=lD (f,g+1,w)}:=⟨h.ac,fun _ _ _ e=>by cases e;exact h.wt f g w q⟩;split
   .exact(IN.dec (p:=({s with wt:=lD (f,g+1,w)},[])) v).1
   .exact v
 |up k=>
  show IN b (nJ b (s,[]) k).1;unfold nJ;split
  .rename_i q
   cases z:s.wt with
   |none=>rw[show yj s.wt k=Sq by rw[z];rfl] at q;cases q
   |some y=>
    obtain⟨f,g,w⟩:=y;obtain⟨G,c,n,rfl,rfl,H⟩:=h.wt f g w z;have e:STP.bS b (s,[]) k=eN ({s with wt:=Sg},[]) k (.S9 c):=by unfold STP.bS;dsimp only;rw[z]
    rw[e];refine⟨BP fun j a B o=>h.ac j a ((eZ B).symm.trans o),fun f g w e=> ?_⟩;rw[tY.1] at e;cases e
  .refine⟨BP fun j a _ o=>h.ac j a o,fun f g w e=> ?_⟩;rw[tY.1] at e;exact h.wt f g w e
 |down k=>
  show IN b (hJ b (s,[]) k).1;unfold hJ;split
  .exact h
  .rw[if_neg (by
    show¬Az b s k=Si;unfold Az;split
    .rw[t];simp
    .simp)]
   have d:=IN.dec (p:=(s,[])) h;have A:=et l (p:=(s,[])) r.sa (SW.wd l r);generalize cb b (s,[])=p at d A;obtain⟨h,E⟩:=d;have lo:=JB (k:=k) l A.1.sa C;unfold Bb;have u:=Gi p.1 (look b (jD p.1.ac p.1.oc) k);generalize d6 p.1 (look b (jD p.1.ac p.1.oc) k)=s' at u;generalize look b (jD p.1.ac p.1.oc) k=m at lo;generalize jD p.1.ac p.1.oc=L;have i:∀a,a=AO m->IN b (eN (s',p.2) k a).1:=fun a F=>by
    refine⟨Cj (fun j y e=>h.ac j y (by rw[<-u.1];exact e)) fun y e=> ?_,fun f g w e=> ?_⟩
    .cases e
     rw[F];rcases lo with e|e
     .exact .inl (by rw[e])
     .exact .inr (by rw[e])
    .have e:s'.wt=_:=e;rw[u.2,E] at e;cases e
   cases m with
   |Xh c n=>refine⟨fun j y e=>h.ac j y (by rw[<-u.1];exact e),fun f g w e=> ?_⟩;cases e;exact⟨k,c,n,rfl,rfl,by rcases lo with e|e<;>simp[<-e]⟩
   |S9 c=>show IN b (if(decide (L=0)&& !(dY b [k]).isEmpty)=Si then _ else eN (s',p.2) k (.S9 c)).1;rw[t,if_neg (by simp)];exact i _ rfl
   |once n=>have:=i .none rfl;exact⟨this.ac,this.wt⟩
   |UZ n=>exact i _ rfl
   |none=>exact i _ rfl
   |below=>exact i _ rfl
theorem Cr {α e:Type} {f:α->e} {q:α×e}:∀{l:List α},q∈l.zip (l.map f)->q.2=f q.1
 |[],h=>by cases h
 |a::r,h=>by
  rcases SS.mp h with rfl|h
  .rfl
  .exact Cr h
theorem Mu {Q:Nat->Mn->Prop} (f:List (Nat×Mn)):∀{p:UQ×Sn},(∀k a,p.1.ac k=lD a->Q k a)->(∀q∈f,Q q.1 q.2)->(∀k a,(gO p f).1.ac k=lD a->Q k a)/\(gO p f).1.wt=p.1.wt/\(gO p f).1.oc=p.1.oc:=by
 induction f with
 |nil=>exact fun h _=>⟨h,rfl,rfl⟩
 |cons q r i=>intro p h g;exact i (p:=eN p q.1 q.2) (Cj h fun a e=>by cases e;exact g q Sv) fun y j=>g y (Sy _ j)
theorem P9 (f:b.cs=[([0,1],x)]) (ks:List Nat):∀q∈ks.zip (K1 b ks),Ca b x q.1 q.2:=by
 intro q a;unfold K1 at a;split at a
 .rename_i c e
  have cm:=WQ e;rw[f] at cm;have cm:=SQ.mp cm;rcases SS.mp (VI a).2 with h|h
  .exact .inr (.inl (by rw[h,cm]))
  .exact .inr (.inr (abP.mp h).2)
 .exact .inl (Cr a)
structure IC0 (b:Bd) (x:Nat) (s:UQ):Prop where
 ac:∀k a,s.ac k=lD a->Ca b x k a
 wt:∀ks g w,s.wt=lD (ks,g,w)->w=Sg
 oc:s.oc=Sg
theorem IC.z (h:IC b x s):IC0 b x s:=⟨h.ac,fun a g w e=>(h.wt a g w e).1,h.oc⟩
theorem IC0.dec (j:b.cs=[([0,1],x)]) (h:IC0 b x p.1):IC b x (cb b p).1/\(cb b p).1.wt=Sg:=by
 unfold cb;split
 .rename_i q;exact⟨⟨h.ac,fun _ _ _ e=>(by rw[q] at e;cases e),h.oc⟩,q⟩
 .rename_i a g w q;have i:=h.wt a g w q;subst i;obtain⟨m,f,l⟩:=Mu (p:=({p.1 with wt:=Sg},p.2)) (a.zip (K1 b a)) h.ac (P9 j a);exact⟨⟨m,fun _ _ _ e=>(by rw[show(gO ({p.1 with wt:=Sg},p.2) (a.zip (fZ b a Sg))).1.wt=Sg from f] at e;cases e),l.trans h.oc⟩,f⟩
theorem P1 (f:VB b) (i:SA b s) (l:b.cs=[([0,1],x)]) (o:b.n<=2) (h:IC b x s):jD s.ac s.oc=0:=by
 rw[h.oc];show(((fW s.ac).filterMap HP).foldl kO Sg).getD 0=0;have:(fW s.ac).filterMap HP=[]:=List.filterMap_eq_nil_iff.mpr fun q j=>by
  have g:=(eX.mp j).2;have r:=(i.ac q.1 q.2 g).1;have ok:tV (b.ls.headD []) q.1=Si:=(f.vc ([0,1],x) (by rw[l];exact Sv)).2.2.1 q.1 (by
   have:q.1=0\/q.1=1:=by omega
   rcases this with e|e<;>simp[e])
  obtain⟨c,m⟩:=AU f ok;obtain⟨k,a⟩:=q;rcases h.ac k a g with rfl|rfl|rfl
  .show HP (k,j4 b 0 k)=Sg;rw[m];rfl
  .rfl
  .rfl
 rw[this];rfl
theorem IC.step (o:VB b) (H:b.n<=2) (m:b.cs=[([0,1],x)]) (C:SW b s) (h:IC b x s) {e:Wn} (J:EV b e):IC b x (bA b s e).1:=by
 cases e with
 |turn=>
  show IC b x (gM b (s,[])).1;unfold gM;split
  .exact h
  .rename_i i g w q
   have E:IC b x {s with wt:=lD (i,g+1,w)}:=⟨h.ac,fun _ _ _ e=>by cases e;exact h.wt i g w q,h.oc⟩;split
   .exact(IC0.dec m (p:=({s with wt:=lD (i,g+1,w)},[])) E.z).1
   .exact E
 |up k=>
  show IC b x (nJ b (s,[]) k).1;unfold nJ;split
  .rename_i q
   cases z:s.wt with
   |none=>rw[show yj s.wt k=Sq by rw[z];rfl] at q;cases q
   |some y=>
    obtain⟨i,g,w⟩:=y;obtain⟨rfl,t,rfl⟩:=h.wt i g w z;have e:STP.bS b (s,[]) k=cb b (s,[]):=by unfold STP.bS;dsimp only;rw[z]
    rw[e];obtain⟨d,v⟩:=IC0.dec m (p:=(s,[])) h.z;exact⟨BP fun j a _ B=>d.ac j a B,fun i g w e=>(by rw[tY.1,v] at e;cases e),tY.2.trans d.oc⟩
  .exact⟨BP fun j a _ B=>h.ac j a B,fun i g w e=>(by rw[tY.1] at e;exact h.wt i g w e),tY.2.trans h.oc⟩
 |down k=>
  show IC b x (hJ b (s,[]) k).1;unfold hJ;split
  .exact h
  .split
   .rename_i l
    have l:Az b s k=Si:=l;unfold Az at l;split at l
    .rename_i i g z
     rw[S2] at l;obtain⟨_,t,rfl⟩:=h.wt i g Sg z;have G:dY b ([t]++[k])=[([0,1],x)]:=by
      have r:=l.2;unfold dY at r⊢;rw[m] at r⊢;rw[We] at r⊢;split
      .rfl
      .rename_i f;rw[if_neg f] at r;simp at r
     unfold rQ;dsimp only;rw[z];dsimp only;rw[G,if_pos (show ajk (fun x=>x.1.length) [(([0,1]:List Nat),x)]=[([t]++[k]).length] from rfl)];exact(IC0.dec m (p:=({s with wt:=lD ([t]++[k],g,Sg)},[])) ⟨h.ac,fun _ _ _ e=>(by cases e;rfl),h.oc⟩).1
    .cases l
   .obtain⟨d,v⟩:=IC0.dec m (p:=(s,[])) h.z
    have ds:=et o (p:=(s,[])) C.sa (SW.wd o C);generalize cb b (s,[])=p at d v ds;have K:(k:Int)<b.n:=J;have ok:tV (b.ls.headD []) k=Si:=(o.vc ([0,1],x) (by rw[m];exact Sv)).2.2.1 k (by
     have:k=0\/k=1:=by omega
     rcases this with e|e<;>simp[e])
    obtain⟨c,F⟩:=AU o ok;unfold Bb;have I:look b 0 k= .S9 c:=by unfold look;rw[show(0:Int).toNat=0 from rfl,F];rfl
    rw[P1 o ds.1.sa m H d,I];have u:=Gi p.1 (.S9 c);have A:(d6 p.1 (.S9 c)).oc=Sg:=rfl;generalize d6 p.1 (.S9 c)=s' at u A;show IC b x (if(decide ((0:Int)=0)&& !(dY b [k]).isEmpty)=Si then({s' with wt:=lD ([k],0,Sg)},p.2) else eN (s',p.2) k (.S9 c)).1;split
    .exact⟨fun j y e=>d.ac j y (by rw[<-u.1];exact e),fun i g w e=>(by cases e;exact⟨rfl,k,rfl⟩),A⟩
    .exact⟨Cj (fun j y e=>d.ac j y (by rw[<-u.1];exact e)) fun y e=>(by cases e;exact .inl F.symm),fun i g w e=>(by have e:s'.wt=_:=e;rw[u.2,v] at e;cases e),A⟩
def Lc (e a:Option Mn):Ac:=fun k=>if k=0 then e else if k=1 then a else Sg
theorem Pi (f:SA b s) (g:b.n<=2):s.ac=Lc (s.ac 0) (s.ac 1):=funext fun k=>by
 unfold Lc;split
 .rename_i e;rw[e]
 .split
  .rename_i e;rw[e]
  .cases q:s.ac k with
   |none=>rfl
   |some a=>have:=(f.ac k a q).1;omega
def A3 (b:Bd) (k:Nat):List (Option Mn):=[Sg,lD (AO (j4 b 0 k)),lD (AO (j4 b 1 k))]
def A4 (b:Bd) (x k:Nat):List (Option Mn):=[Sg,lD (j4 b 0 k),lD (.S9 x),lD .none]
def W4 (b:Bd) (k:Nat):List (Int×Option (Nat×Int)):=[(0,Mo (j4 b 0 k)),(0,Mo (j4 b 1 k)),(1,Mo (j4 b 0 k)),(1,Mo (j4 b 1 k))]
def QO (F:Nat->List (Option Mn)) (W:Nat->List (Int×Option (Nat×Int))) (o:Option Int):List UQ:=
 ((F 0).flatMap fun e=>(F 1).map fun a=>⟨Lc e a,Sg,o⟩)++((W 0).flatMap fun w=>(F 1).map fun a=>⟨Lc Sg a,lD ([0],w.1,w.2),o⟩)++(W 1).flatMap fun w=>(F 0).map fun e=>⟨Lc e Sg,lD ([1],w.1,w.2),o⟩
theorem Bh {F:Nat->List (Option Mn)} {W:Nat->List (Int×Option (Nat×Int))} (f:SW b s) (i:b.n<=2) (e:∀k,s.ac k∈F k) (j:∀ks g w,s.wt=lD (ks,g,w)->∃k,ks=[k]/\(g,w)∈W k):s∈QO F W s.oc:=by
 have a:=Pi f.sa i;unfold QO;cases q:s.wt with
 |none=>refine Ud _ (Ud _ (Xg.mpr ⟨s.ac 0,e 0,Ta.mpr ⟨s.ac 1,e 1,?_⟩⟩));show(⟨Lc (s.ac 0) (s.ac 1),Sg,s.oc⟩:UQ)=s;rw[<-a,<-q]
 |some y=>
  obtain⟨ks,g,w⟩:=y;obtain⟨k,rfl,hm⟩:=j ks g w q;have v:=(f.wt _ _ _ q).1;have l:=v.kn k Sv;have h:=v.kf k Sv;have:k=0\/k=1:=by omega
  rcases this with rfl|rfl
  .rw[h] at a;refine Ud _ (To _ (Xg.mpr ⟨(g,w),hm,Ta.mpr ⟨s.ac 1,e 1,?_⟩⟩));show(⟨Lc Sg (s.ac 1),lD ([0],g,w),s.oc⟩:UQ)=s;rw[<-a,<-q]
  .rw[h] at a;refine To _ (Xg.mpr ⟨(g,w),hm,Ta.mpr ⟨s.ac 0,e 0,?_⟩⟩);show(⟨Lc (s.ac 0) Sg,lD ([1],g,w),s.oc⟩:UQ)=s;rw[<-a,<-q]
theorem few (i:VB b) (A:b.n<=2) (J:b.ls.length<=2) (Q:b.wt<=2):∃(l:List UQ) (I:UQ->Prop),l.length<=66/\I bz/\(∀s,I s->SW b s/\s∈l)/\∀s e,I s->EV b e->I (bA b s e).1:=by
 by_cases F:b.cs=[]
 .refine⟨([Sg,lD 1]:List (Option Int)).flatMap (QO (A3 b) (W4 b)),fun s=>SW b s/\IN b s,Sw 66,⟨gX b,fun k a e=>(by cases e),fun m g w e=>(by cases e)⟩,fun s h=>⟨h.1,?_⟩,fun s e h u=>⟨qj i h.1 u,h.2.step i J F h.1 u⟩⟩
  refine Xg.mpr ⟨s.oc,?_,Bh h.1 A (fun k=> ?_) fun m g w e=> ?_⟩
  .cases q:s.oc with
   |none=>exact Sv
   |some o=>
    have:=h.1.sa.oc o q;have e:o=1:=by omega
    rw[e];exact Sy _ Sv
  .cases q:s.ac k with
   |none=>exact Sv
   |some a=>
    rcases h.2.ac k a q with rfl|rfl
    .exact Sy _ Sv
    .exact Sy _ (Sy _ Sv)
  .obtain⟨k,c,n,rfl,rfl,B⟩:=h.2.wt m g w e
   have v:=h.1.wt _ _ _ e;have M:=v.1.g0;have L:=v.2;have t:lD (c,n)=Mo (j4 b 0 k)\/lD (c,n)=Mo (j4 b 1 k):=by rcases B with e|e<;>simp[e,Mo]
   have:g=0\/g=1:=by omega
   refine⟨k,rfl,?_⟩;unfold W4;rcases this with rfl|rfl<;>rcases t with e|e<;>rw[e]<;>simp
 .obtain⟨x,K⟩:∃x,b.cs=[([0,1],x)]:=by
   have one:∀c∈b.cs,c.1=[0,1]:=fun c hm=>by
    obtain⟨P,O,N,_⟩:=i.vc c hm;have j:∀k∈c.1,k<2:=fun k B=>by
     have E:=i.l1;obtain⟨l,r,H⟩:∃l r,b.ls=l::r:=by
      cases q:b.ls with
      |nil=>rw[q] at E;cases E
      |cons l r=>exact⟨l,r,rfl⟩
     have R:=i.vl 0 l (by rw[H];rfl);have:=N k B;unfold tV at this;rw[H,acW] at this;cases q:l[k]? with
     |none=>rw[q] at this;cases this
     |some y=>have:=(Sl.mp q).1;omega
    match hq:c.1,P,O,j with
    |[a,d],_,h,j=>
     have:=j a Sv;have:=j d (Sy _ Sv);have h:=(Ub.mp h).1 d Sv;obtain rfl:a=0:=by omega
     obtain rfl:d=1:=by omega
     rfl
    |a::d::f::r,_,h,j=>have C:=(Ub.mp h).1 d Sv;have G:=(Ub.mp (Ub.mp h).2).1 f Sv;have:=j f (Sy _ (Sy _ Sv));omega
   cases e:b.cs with
   |nil=>exact absurd e F
   |cons c r=>
    have C:=one c (by rw[e];exact Sv);cases r with
    |nil=>exact⟨c.2,by rw[<-C]⟩
    |cons d r=>have G:=one d (by rw[e];exact Sy _ Sv);have:=i.cu;rw[e] at this;exact absurd (C.trans G.symm) ((Ub.mp this).1 d Sv)
  refine⟨QO (A4 b x) (fun _=>[(0,Sg),(1,Sg)]) Sg,fun s=>SW b s/\IC b x s,by show 32<=66;decide,⟨gX b,fun k a e=>(by cases e),fun m g w e=>(by cases e),rfl⟩,fun s h=>⟨h.1,?_⟩,fun s e h u=>⟨qj i h.1 u,h.2.step i A K h.1 u⟩⟩;rw[<-h.2.oc];refine Bh h.1 A (fun k=> ?_) fun m g w e=> ?_
  .cases q:s.ac k with
   |none=>exact Sv
   |some a=>rcases h.2.ac k a q with rfl|rfl|rfl<;>simp[A4]
  .obtain⟨rfl,k,rfl⟩:=h.2.wt m g w e
   have v:=h.1.wt _ _ _ e;have M:=v.1.g0;have L:=v.2;have:g=0\/g=1:=by omega
   exact⟨k,rfl,by rcases this with rfl|rfl<;>simp⟩
end
theorem Jx {ks a:List Nat} (h:bp ks=bp a):ks=a:=(YB fun x y e=>by injection e with e;exact Ze e).mp h
theorem F7 {m n:Mn} (h:mD m=mD n):m=n:=by
 have e:=(oX m).symm.trans ((congrArg (fun z=>bj z (.int 0)) h).trans (oX n));injection e with e;injection e with e;injection e with e
 have w:=xt _ (oS m) _ (oS n);rw[show ws (wn m)=ws (wn n) from e,beq_self_eq_true] at w;have w:=of_decide_eq_true w.symm;cases m<;>cases n<;>first|rfl|(exfalso;revert w;simp[wn];done)|(injection h with h;injection h with _ h;injection h with h g;injection h with h)
 .rw[vk h]
 .rw[h]
 .injection g with g;injection g with g;rw[vk h,g]
 .rw[h]
theorem ME {b c:Bd} (o:VB b) (l:VB c) {s t:UQ} (E:SW b s) (C:SW c t) (h:dr s=dr t):s=t:=by
 injection h with h
 injection h with h1 h
 injection h with h2 h
 injection h with h3 _
 injection h1 with h1
 have j:fW s.ac=fW t.ac:=(YB fun x y e=>by
  injection e with e;injection e with f e;injection e with e2 _;injection f with f
  exact Prod.ext (Ze f) (F7 e2)).mp h1
 have H:s.ac=t.ac:=funext fun k=>Option.ext fun a=>⟨fun e=>by
   have:=(eX (p:=(k,a))).mpr ⟨(SA.ak o E.sa k a e).1,e⟩;rw[j] at this;exact(eX.mp this).2,fun e=>by
   have:=(eX (p:=(k,a))).mpr ⟨(SA.ak l C.sa k a e).1,e⟩;rw[<-j] at this;exact(eX.mp this).2⟩
 have F:s.wt=t.wt:=by
  revert h2;cases s.wt with
  |none=>cases t.wt with
   |none=>exact fun _=>rfl
   |some y=>exact fun e=>by cases e
  |some x=>cases t.wt with
   |none=>exact fun e=>by cases e
   |some y=>
    obtain⟨I,g,w⟩:=x;obtain⟨J,i,v⟩:=y;intro e;injection e with e;injection e with f e;injection e with e2 e;injection e with e3 _;injection f with f;injection e2 with e2;have f:=Jx f;have:w=v:=by
     revert e3;cases w with
     |none=>cases v with
      |none=>exact fun _=>rfl
      |some q=>exact fun e=>by injection e with e;injection e with _ e;cases e
     |some p=>cases v with
      |none=>exact fun e=>by injection e with e;injection e with _ e;cases e
      |some q=>obtain⟨B,A⟩:=p;obtain⟨u,r⟩:=q;exact fun e=>by have:=F7 (m:= .Xh B A) (n:= .Xh u r) e;injection this with a b;rw[a,b]
    rw[f,e2,this]
 have G:s.oc=t.oc:=by
  revert h3;cases s.oc<;>cases t.oc<;>intro e
  .rfl
  .cases e
  .cases e
  .injection e with e;rw[e]
 cases s;cases t;cases H;cases F;cases G;rfl
abbrev TP:=UQ×Nat
def kT (p:TP):D:= .tuple [dr p.1,nd p.2]
def D5 (b:Bd) (w:List Nat) (p:TP) (e:Wn):Option TP:=(Ci w p.2 (bA b p.1 e).2).map fun d=>((bA b p.1 e).1,d)
def Ea:TP:=(bz,0)
def RT (b:Bd) (w:List Nat) (es:List Wn):Nat->TP->Prop
 |0,p=>p=Ea
 |k+1,p=>∃q e,RT b w es k q/\e∈es/\D5 b w q e=lD p
structure TC (b:Bd) (w:List Nat) (es:List Wn):Prop where
 vb:VB b
 eb:∀e∈es,EV b e
 w26:∀c∈w,c<26
 wl:w.length<=3
def TW (b:Bd) (w:List Nat) (p:TP):Prop:=SW b p.1/\p.2<=w.length
theorem Al:∀{fs:List Pl} {d:D} {t:Nat},iy fs d=lD t->∃q,fs[t]? =lD q/\Sk.eqv q.p d=Si
 |[],_,_,h=>by cases h
 |a::r,d,t,h=>by
  unfold iy at h;split at h
  .rename_i e;cases h;exact⟨a,rfl,e⟩
  .cases q:iy r d with
   |none=>rw[q] at h;cases h
   |some j=>rw[q] at h;cases h;obtain⟨x,f,b⟩:=Al q;exact⟨x,by simpa using f,b⟩
theorem tj:∀{fs:List Pl} {d:D},iy fs d=Sg->∀q∈fs,Sk.eqv q.p d=Sq
 |[],_,_,_,hq=>by cases hq
 |a::r,d,h,q,hq=>by
  unfold iy at h;by_cases e:Sk.eqv a.p d=Si
  .rw[if_pos e] at h;cases h
  .rw[if_neg e] at h
   rcases SS.mp hq with rfl|hq
   .exact Bool.eq_false_iff.mpr e
   .exact tj (by cases z:iy r d with|none=>rfl|some _=>rw[z] at h;cases h) q hq
theorem Oa {w:List Nat} {d k:Nat} {sn:Sn} (hd:d<=w.length) (h:Ci w d sn=lD k):k<=w.length:=by
 unfold Ci at h;split at h
 .rename_i q;cases h;have:=congrArg WW q;rw[TQ,Vs] at this;omega
 .cases h
section
variable {b:Bd} {w:List Nat} {es:List Wn}
theorem TC.nx (h:TC b w es) (a:TW b w p) (f:e∈es) (hn:D5 b w p e=lD q):TW b w q:=by
 unfold D5 at hn;cases z:Ci w p.2 (bA b p.1 e).2 with
 |none=>rw[z] at hn;cases hn
 |some d=>rw[z] at hn;cases hn;exact⟨qj h.vb a.1 (h.eb e f),Oa a.2 z⟩
theorem TC.rw (h:TC b w es):∀{k p},RT b w es k p->TW b w p
 |0,p,e=>by rw[show p=Ea from e];exact⟨gX b,Th _⟩
 |k+1,p,⟨q,e,hq,he,hp⟩=>h.nx (h.rw hq) he hp
theorem RT.inv (h:TC b w es) {I:UQ->Prop} (f:I bz) (a:∀s e,I s->EV b e->I (bA b s e).1):∀{k p},RT b w es k p->I p.1
 |0,p,e=>by rw[show p=Ea from e];exact f
 |k+1,p,⟨q,e,hq,he,hp⟩=>by
  unfold D5 at hp;cases z:Ci w q.2 (bA b q.1 e).2 with
  |none=>rw[z] at hp;cases hp
  |some d=>rw[z] at hp;cases hp;exact a _ _ (RT.inv h f a hq) (h.eb e he)
theorem zu (h:TC b w es) (f:TW b w p) (a:TW b w q) (e:kT p=kT q):p=q:=by
 injection e with e;injection e with e1 e;injection e with e2 _;injection e2 with e2
 exact Prod.ext (ME h.vb h.vb f.1 a.1 e1) (Ze e2)
theorem gL (a:TW b w p):LD.keyD (kT p)=Si:=by obtain⟨e,f⟩:=Et a.1;unfold kT;rw[LD.keyD];simp only[LD.kds];rw[e,show LD.kd (nd p.2)=Si by show LD.kd (.int _)=Si;rw[LD.kd],decide_eq_true (show Sk.depth (.tuple [dr p.1,nd p.2])<=8 by show max (Sk.depth (dr p.1)) (max 0 0)+1<=8;omega)];rfl
end
structure Te where
 p:TP
 b:D
 e:D
 d:Nat
def gU (q:Te):Pl:=⟨kT q.p,q.b,q.e⟩
def Pc:Te:=⟨Ea,.none,.none,0⟩
def Dt (b:Bd) (w:List Nat) (fs:List Te) (q:Te) (e:Wn):Prop:=∀p,D5 b w q.p e=lD p->∃r∈fs,r.p=p/\r.d<=q.d+1
structure BT (b:Bd) (w:List Nat) (es:List Wn) (fs:List Te) (n:Nat):Prop where
 z:fs[0]? =lD Pc
 bk:∀i q,fs[i]? =lD q->0<i->∃j r,j<i/\fs[j]? =lD r/\q.b=nd j/\q.d=r.d+1/\∃e,q.e=cI e/\e∈es/\D5 b w r.p e=lD q.p
 rw:∀q∈fs,RT b w es q.d q.p
 mo:fs.Pairwise fun q r=>q.d<=r.d
 up:∀q,fs[n]? =lD q->∀r∈fs,r.d<=q.d+1
 un:(fs.map (·.p)).Nodup
 dn:∀j q,j<n->fs[j]? =lD q->∀e∈es,Dt b w fs q e
section
variable {b:Bd} {w:List Nat} {es:List Wn} {fs:List Te} {n:Nat}
theorem RN:BT b w es [Pc] 0:=by
 refine⟨rfl,fun i q h hi=> ?_,fun q a=> ?_,Uv _ _,fun q a r e=> ?_,Uv _ _,fun j q f=>absurd f (Nat.not_lt_zero _)⟩
 .match i,hi,h with
  |i+1,_,h=>cases h
 .rw[SQ.mp a];rfl
 .rw[SQ.mp e];exact Th _
theorem Dt.mono (h:Dt b w fs q e) (l:List Te):Dt b w (fs++l) q e:=fun p f=>by obtain⟨r,a,x⟩:=h p f;exact⟨r,Ud _ a,x⟩
theorem BT.old (B:TC b w es) (h:BT b w es fs n) (l:fs[n]? =lD q) (o:e∈es) (m:D5 b w q.p e=lD p) (hi:iy (fs.map gU) (kT p)=lD t):Dt b w fs q e:=fun y a=>by
 rw[m] at a;cases a;obtain⟨r,f,v⟩:=Al hi;rw[Sx] at f;cases z:fs[t]? with
 |none=>rw[z] at f;cases f
 |some u=>rw[z] at f;cases f;have g:=S7 z;have i:=B.rw (h.rw u g);have j:=B.nx (B.rw (h.rw q (S7 l))) o m;exact⟨u,g,zu B i j (LD.kd_eqv _ _ (LD.keyD_kd (gL i)).1 (LD.keyD_kd (gL j)).1 v),h.up q l u g⟩
theorem BT.new (B:TC b w es) (h:BT b w es fs n) (l:fs[n]? =lD q) (v:e∈es) (o:D5 b w q.p e=lD p) (hi:iy (fs.map gU) (kT p)=Sg):BT b w es (fs++[⟨p,nd n,cI e,q.d+1⟩]) n:=by
 have C:=(Sl.mp l).1;have A:=S7 l;have old:∀{i:Nat} {r:Te},fs[i]? =lD r->(fs++[⟨p,L3.nd n,cI e,q.d+1⟩])[i]? =lD r:=fun x=>(SG (Sl.mp x).1).trans x;refine⟨old h.z,fun i r a t=> ?_,fun r a=> ?_,?_,fun r a u g=> ?_,?_,fun j r G a f H=> ?_⟩
 .by_cases E:i<fs.length
  .rw[SG E] at a;obtain⟨j,u,L,K,J⟩:=h.bk i r a t;exact⟨j,u,L,old K,J⟩
  .rw[Tb (by omega)] at a
   have z:i - fs.length=0:=by have:=(Sl.mp a).1;rw[Wb] at this;omega
   rw[z] at a;cases a;exact⟨n,q,by omega,old l,rfl,rfl,e,rfl,v,o⟩
 .rcases Tx.mp a with a|a
  .exact h.rw r a
  .rw[SQ.mp a];exact⟨q.p,e,h.rw q A,v,o⟩
 .rw[abj];refine⟨h.mo,Uv _ _,fun r a u g=> ?_⟩;rw[SQ.mp g];exact h.up q l r a
 .rw[SG C,l] at a
  cases a;rcases Tx.mp g with g|g
  .exact h.up q l u g
  .rw[SQ.mp g];exact Sw _
 .rw[S5,V0];refine⟨h.un,Uv _ _,fun x F y m I=> ?_⟩;obtain⟨r,a,rfl⟩:=Ta.mp F;have m:y=p:=SQ.mp m;have:=tj hi (gU r) (Ta.mpr ⟨r,a,rfl⟩);rw[show(gU r).p=kT p by show kT r.p=_;rw[I,m],qJ (gL (B.nx (B.rw (h.rw q A)) v o))] at this;cases this
 .rw[SG (by omega)] at a;exact(h.dn j r G a f H).mono _
theorem BT.next (h:BT b w es fs n) (f:fs[n]? =lD q) (hd:∀e∈es,Dt b w fs q e):BT b w es fs (n+1):=by
 refine⟨h.z,h.bk,h.rw,h.mo,fun r a u o=> ?_,h.un,fun j r p a e l=> ?_⟩
 .have i:=(Sl.mp f);have g:=(Sl.mp a);have:=List.pairwise_iff_getElem.mp h.mo n (n+1) i.1 g.1 (by omega);rw[i.2,g.2] at this;have:=h.up q f u o;omega
 .by_cases m:j<n
  .exact h.dn j r m a e l
  .have:j=n:=by omega
   subst this;rw[f] at a;cases a;exact hd e l
theorem BT.all (h:BT b w es fs n) (hn:fs.length<=n):∀k p,RT b w es k p->∃r∈fs,r.p=p/\r.d<=k
 |0,p,hp=>⟨Pc,S7 h.z,(show p=Ea from hp).symm,Sw _⟩
 |k+1,p,⟨u,e,hu,he,hp⟩=>by obtain⟨r,l,i,o⟩:=h.all hn k u hu;obtain⟨j,a⟩:=TJ.mp l;obtain⟨v,g,f,m⟩:=h.dn j r (SX (Sl.mp a).1 hn) a e he p (by rw[i];exact hp);exact⟨v,g,f,by omega⟩
end
theorem rM {α:Type}:∀{m l:List α},m.Nodup->(∀x∈m,x∈l)->m.length<=l.length
 |[],_,_,_=>Th _
 |a::r,l,h,hs=>by
  obtain⟨f,e,rfl⟩:=List.append_of_mem (hs a Sv);rw[Um] at h;have:=rM (m:=r) (l:=f++e) h.2 fun x b=>by
   rcases Tx.mp (hs x (Sy _ b)) with q|q
   .exact Ud _ q
   .rcases SS.mp q with rfl|q
    .exact absurd b h.1
    .exact To _ q
  rw[Su] at this⊢;rw[SJ,SJ];omega
def Nl:List UQ->List TP
 |[]=>[]
 |s::r=>(s,0)::(s,1)::(s,2)::(s,3)::Nl r
theorem B5:∀l:List UQ,(Nl l).length=4*l.length
 |[]=>rfl
 |s::r=>by show(Nl r).length+4=4*(r.length+1);rw[B5 r];omega
theorem BE {s:UQ} {d:Nat} (hd:d<=3):∀{l:List UQ},s∈l->(s,d)∈Nl l
 |[],h=>by cases h
 |a::r,h=>by
  rcases SS.mp h with rfl|h
  .have:d=0\/d=1\/d=2\/d=3:=by omega
   rcases this with rfl|rfl|rfl|rfl<;>simp[Nl]
  .have:=BE hd h;simp only[Nl,SS];exact .inr (.inr (.inr (.inr this)))
theorem Qb {b:Bd} {w:List Nat} {es:List Wn} (B:TC b w es) (f:b.n<=2) (g:b.ls.length<=2) (e:b.wt<=2) {l:List TP} (h:l.Nodup) (j:∀p∈l,∃k,RT b w es k p):l.length<=264:=by
 obtain⟨m,I,u,t,r,q⟩:=few B.vb f g e;have:=rM (l:=Nl m) h fun p o=>by obtain⟨k,a⟩:=j p o;have i:=(r _ (a.inv B t q)).2;have:=(B.rw a).2;have:=B.wl;exact BE (d:=p.2) (by omega) i
 rw[B5] at this;omega
section
variable {b:Bd} (Z:VB b) {s:UQ} {p:UQ×Sn} {k:Nat}
theorem Fz:(go p k).2.length<=p.2.length+1:=by
 unfold go;split
 .rename_i a q
  rw[Su];have:(Ly (kj p.1.ac k Sg) a).length<=1:=by
   cases a with
   |S9 c=>show(if mq (kj p.1.ac k Sg) (.S9 c)=Si then[] else[(c,Sq)]:Sn).length<=1;split<;>exact Sm rfl
   |_=>exact Th _
  omega
 .omega
theorem Ki:(Bb b p k).2.length<=p.2.length+1:=by
 have e:Bb b p k=wm b (jD p.1.ac p.1.oc) (d6 p.1 (look b (jD p.1.ac p.1.oc) k),p.2) k (look b (jD p.1.ac p.1.oc) k):=rfl;rw[e];generalize look b (jD p.1.ac p.1.oc) k=m;generalize jD p.1.ac p.1.oc=L;have cm:∀a,(eN (d6 p.1 m,p.2) k a).2.length<=p.2.length+1:=fun a=>nw (p:=(d6 p.1 m,p.2));cases m with
 |Xh c n=>exact W0 _
 |S9 c=>
  show(if(decide (L=0)&& !(dY b [k]).isEmpty)=Si then({d6 p.1 (.S9 c) with wt:=lD ([k],0,Sg)},p.2) else eN (d6 p.1 (.S9 c),p.2) k (.S9 c)).2.length<=_;split
  .exact W0 _
  .exact cm _
 |once n=>exact cm .none
 |UZ n=>exact cm _
 |none=>exact cm _
 |below=>exact cm _
include Z
theorem x5 {e:Wn} (a:SW b s) (j:EV b e):(bA b s e).2.length<=100:=by
 have d:=et Z (p:=(s,[])) a.sa (SW.wd Z a);have o:(cb b (s,[])).2.length<=5:=d.2.2.1;cases e with
 |turn=>
  show(gM b (s,[])).2.length<=100;unfold gM;split
  .exact Th _
  .rename_i f g w q
   have v:=(a.wt f g w q).1;split
   .have:=(et Z (p:=({s with wt:=lD (f,g+1,w)},[])) ⟨a.sa.ac,a.sa.oc⟩ fun _ _ _ e=>by cases e;exact⟨v.ne,v.nd,v.kn,v.kf,by have:=v.g0;omega,v.tp,v.ch⟩).2.2.1;exact Tg this (show 0+5<=100 by decide)
   .exact Th _
 |up k=>
  show(nJ b (s,[]) k).2.length<=100;unfold nJ;split
  .rename_i q;have z:=(lm Z (p:=(s,[])) a q).2;have z:(STP.bS b (s,[]) k).2.length<=5:=z;have:=Fz (p:=STP.bS b (s,[]) k) (k:=k);omega
  .exact Tg Fz (show 0+1<=100 by decide)
 |down k=>
  show(hJ b (s,[]) k).2.length<=100;unfold hJ;split
  .exact Th _
  .rename_i q
   rw[Xw,not_or] at q;have ha:s.ac k=Sg:=by
    cases z:s.ac k with
    |none=>rfl
    |some x=>exact absurd (show(s.ac k).isSome=Si by rw[z];rfl) q.1
   have hn:yj s.wt k=Sq:=by
    cases z:yj s.wt k with
    |false=>rfl
    |true=>exact absurd z q.2
   split
   .rename_i i
    obtain⟨f,g,h,n,l,m⟩:=wW Z (p:=(s,[])) a j ha hn i;have h:s.wt=lD (f,g,Sg):=h;unfold rQ;dsimp only;rw[h];dsimp only;split
    .have:=(et Z (p:=({s with wt:=lD (f++[k],g,Sg)},[])) ⟨a.sa.ac,a.sa.oc⟩ fun _ _ _ e=>by cases e;exact l).2.2.1;exact Tg this (show 0+5<=100 by decide)
    .exact Th _
   .have:=Ki (b:=b) (p:=cb b (s,[])) (k:=k);omega
end
section
variable {ρ:bf} {Z Z1 Z2:aV} {x:SV}
theorem Hk {F:iA} {n:Nat} {fa:uS} {xs:List SV} (ha:fa ρ Z= .ok xs Z1) (a:nu F n xs Z1= .ok x Z2):uh F n fa ρ Z= .ok x Z2:=by unfold uh;rw[ha,RS.bind_ok,a];rfl
theorem Hh (sn:List D) (st:D):frz 4 (Z++[.lst (sn.map .fz)]) (.tp [.rf Z.length,.fz st])=lD (.tuple [.list sn,st],Z++[.dead]):=by
 have b:frz 3 (Z++[.lst (sn.map .fz)]) (.rf Z.length)=lD (.list sn,Z++[.dead]):=by unfold frz;rw[bc];dsimp only;rw[ww];dsimp only;rw[fK]
 have a:pM (frz 3) (Z++[.lst (sn.map .fz)]) [.rf Z.length,.fz st]=lD ([.list sn,st],Z++[.dead]):=by unfold pM;rw[b];rfl
 unfold frz;rw[show([AV.rf Z.length,AV.fz st].map AV.sv)=[.rf Z.length,.fz st] from rfl,a]
theorem Bv {b:Bd} (a:VB b) {s:UQ} (f:SW b s) {e:Wn} (g:EV b e) {fa fb fc:dH} (j:fa ρ Z= .ok (.fz (bD b)) Z) (i:fb ρ Z= .ok (.fz (dr s)) Z) (h:fc ρ Z= .ok (.fz (cI e)) Z):nO (uh STP.kE 3 (aj fa (aj fb (aj fc aQ)))) ρ Z= .ok (.fz (.tuple [.list ((bA b s e).2.map kh),dr (bA b s e).1])) (Z++[.dead]):=
 mh (Hk (aq j (aq i (aq h aO))) (PZ a f g)) (Hh _ _)
end
theorem nz (h:Out r T X) (k:∀a Z,T a Z->T' a Z) (b:∀x,X x->X' x):Out r T' X':=by
 refine⟨?_⟩;have h:=h.out;cases r with
 |bad=>exact h
 |er x o=>exact b x h
 |ok a o=>exact k a o h
theorem Il:i7 Z m fs (J++K)=i7 Z m fs J++K:=by unfold i7;rw[Tw];rfl
theorem Q0 {xs:List SV} {n:Nat} {v:SV} (h:xs[n]? =lD v):l9 xs (n:Int)=lD v:=wF (by omega) (by rw[Ua];exact h)
def FT (b:Bd) (w:List Nat):TP->List Wn->TP->Prop
 |q,[],p=>q=p
 |q,e::r,p=>∃q',D5 b w q e=lD q'/\FT b w q' r p
theorem Nc {b:Bd} {w:List Nat} {es:List Wn} {fs:List Te} {n t i j k:Nat} {q:Te} {m:Int} {Z:aV} (B:BT b w es fs t) (h:PSt i j k m (fs.map gU) Z) (F:fs[n]? =lD q):∃(J:aV) (g:List Wn),cM [.rf i,.fz (nd n)] Z= .ok (.rf (Z.length+1)) (Z++J)/\J[1]? =lD (.lst ((g.map cI).map .fz))/\g.length=q.d/\(∀e∈g,e∈es)/\FT b w Ea g q.p:=by
 have lt:=h.lt;rw[Sj] at lt;have E:Out (cM [.rf i,.fz (nd n)] Z) (fun v u=>∃g:List Wn,v= .rf (Z.length+1)/\u=Z++[.lst ((g.reverse.map cI).map .fz),.lst ((g.map cI).map .fz)]/\g.length=q.d/\(∀e∈g,e∈es)/\FT b w Ea g q.p) (fun _=>False):=by
  refine rN rfl ?_;unfold gK;refine dX (ρ1:=[lD (.rf i),-(nd n),lD (.rf Z.length),Sg]) (ef (by fail "ev")) rfl ?_;have K:∀{X:aV},PSt i j k m (fs.map gU) (Z++X):=fun{X}=>by have U:=(Sl.mp h.o).1;have T:=(Sl.mp h.f).1;have S:=(Sl.mp h.n).1;exact⟨(SG U).trans h.o,(SG T).trans h.f,(SG S).trans h.n,h.jk,h.ij,h.ik,h.lt⟩
  have I:∀{X:aV} {ρ:bf} {f:dH} {a:Nat} {r:Te},ρ[0]? =lD (lD (.rf i))->f ρ (Z++X)= .ok (.fz (nd a)) (Z++X)->fs[a]? =lD r->j8 (a9 "Places" "found" (ar 0)) f ρ (Z++X)= .ok (.fz (vd (gU r))) (Z++X):=fun{X ρ f a r} h0 C A=>zA (gF (bv h0) K.o lB) C rfl K.f (Q0 (by rw[Sx,Sx,Sx,A];rfl));refine dX (x:= .fz (vd (gU q))) (ρ1:=[lD (.rf i),-(nd n),lD (.rf Z.length),-(vd (gU q))]) (I rfl (ag (af rfl)) F) rfl ?_;refine kL (xD (fun s ρ u=>∃(row:List Wn) (a:Nat) (r:Te),ρ=[lD (.rf i),-(nd n),lD (.rf Z.length),-(vd (gU r))]/\u=Z++[.lst ((row.reverse.map cI).map .fz)]/\fs[a]? =lD r/\row.length=s/\a+s<=n/\row.length+r.d=q.d/\(∀e∈row,e∈es)/\FT b w r.p row q.p) 100000 (by decide) ⟨[],n,q,rfl,rfl,F,rfl,Sw _,UX _,fun e O=>(by cases O),rfl⟩ ?_);rintro s ρ u ⟨row,a,r,rfl,rfl,ha,hs,han,hd,hes,hft⟩;have nl:=(Sl.mp F).1;by_cases Y:a=0
  .subst Y;rw[B.z] at ha;cases ha;have G:bO (aF (aJ lJ (aJ bj (aa 3) (~~~1)) (pC .none))) [lD (.rf i),-(nd n),lD (.rf Z.length),-(vd (gU Pc))] (Z++[.lst ((row.reverse.map cI).map .fz)])= .ok Sq (Z++[.lst ((row.reverse.map cI).map .fz)]):=bH (bq (aL (rv:= .fz (.bool Sq)) (aL (rv:= .fz .none) (af rfl) aD rfl rfl iw) aD rfl rfl rfl) rfl);refine .inl ⟨_,G,?_⟩;refine oE ((Jo (xs:=(row.reverse.map cI).map .fz) (bv rfl) bc).trans (by rw[Su,Tw,<-acL,<-acL,List.reverse_reverse];rfl)) ⟨row,rfl,rfl,hd,hes,hft⟩
  .obtain⟨M,H,C,A,y,h4,e,R,Q,P⟩:=B.bk a r ha (by omega);have G:bO (aF (aJ lJ (aJ bj (aa 3) (~~~1)) (pC .none))) [lD (.rf i),-(nd n),lD (.rf Z.length),-(vd (gU r))] (Z++[.lst ((row.reverse.map cI).map .fz)])= .ok Si (Z++[.lst ((row.reverse.map cI).map .fz)]):=bH (bq (aL (rv:= .fz (.bool Si)) (aL (rv:= .fz r.b) (af rfl) aD rfl rfl iw) aD rfl rfl (by rw[y];rfl)) rfl);refine .inr ⟨by omega,_,G,?_⟩;have L:=ml (ρ:=[lD (.rf i),-(nd n),lD (.rf Z.length),-(vd (gU r))]) (fo:=ar 2) (fe:=ae (aJ bj (aa 3) (~~~2))) (x:= .fz r.e) (bv rfl) (bc (l:=Z) (x:=Cell.lst ((row.reverse.map cI).map .fz))) (ag (aL (rv:= .fz r.e) (af rfl) aD rfl rfl pI)) bc (by rw[Sj,Sj,Yl];omega);rw[fK,R,show(row.reverse.map cI).map SV.fz++[.fz (cI e)]=((e::row).reverse.map cI).map SV.fz by rw[VZ,S5,S5];rfl] at L;refine A8 (gw L) ?_;refine zS (ρ1:=[lD (.rf i),-(nd n),lD (.rf Z.length),-(vd (gU H))]) (vT (I rfl (ag (aL (rv:= .fz (nd M)) (af rfl) aD rfl rfl (by rw[<-y];exact iw))) A) rfl) ⟨e::row,M,H,rfl,rfl,A,by rw[SJ,hs],by omega,by rw[SJ];omega,fun f N=>(SS.mp N).elim (fun z=>by rw[z];exact Q) (hes f),_,P,hft⟩
 obtain⟨v,u,C,g,rfl,rfl,y⟩:=E.all;exact⟨_,g,C,rfl,y⟩
abbrev ET (b:Bd) (w:List Nat) (m:Int) (r:bf):bf:=-(bD b)::-(.str (eD w))::-(.int m)::r
abbrev E0 (b:Bd) (w:List Nat) (m:Int) (es:List Wn) (l n:Nat) (g f e a:Option SV):bf:=(ET b w m [-(.list (es.map cI)),lD (.rf l),-(nd n),g,f,e,a])
def Qm (b:Bd) (w:List Nat) (es:List Wn) (m:Int) (x:Xc):Prop:=x=TM m/\∃l:List TP,l.Nodup/\(∀p∈l,∃k,RT b w es k p)/\m<(l.length:Int)
theorem tq {b:Bd} (T:VB b) {n:Nat} (hn:b.n=n) (h5:n<=5) {w:List Nat} (hw:∀c∈w,c<26) (wl:w.length<=3) {m:Int} (m0:0<=m) (m4:m<=1000) (I:aV):Out (dA [.fz (bD b),.fz (.str (eD w)),.fz (.int m)] I) (fun v Z'=>∃(fs:List Te) (J:aV),v= .rf (I.length+1)/\Z'=i7 (I++[.dead]) m (fs.map gU) J/\BT b w (tD n) fs fs.length/\(fs.length:Int)<=m) (Qm b w (tD n) m):=by
 have ell:(tD n).length<=1000:=by unfold tD;rw[Su,Su,Sj,Sj,TR];show n+n+1<=_;omega
 have ev:=M9 hn h5;have B:TC b w (tD n):=⟨T,zL hn,hw,wl⟩;generalize tD n=es at ell ev B;refine rN rfl ?_;unfold kA;have e1:nO (ae (fx gA 1 {aa 0})) (ET b w m [Sg,Sg,Sg,Sg,Sg,Sg,Sg]) I= .ok (.fz (.list (es.map cI))) (I++[.dead]):=by refine mh (ef (fF (ai (af rfl) aI) rfl rfl ev)) ?_;rw[jO bc,fK]
 refine dX e1 rfl ?_;have O:I.length+1=(I++[Cell.dead]).length:=by rw[Su];rfl
 rw[O];generalize I++[Cell.dead]=base;have N:=Ng (C:= "Places") (F:=cS) (fa:=aj (ae (bB {pC (.tuple [(.tuple []),.none,.none]),~~~0})) (aj (ae (aa 2)) aQ)) (ρ:=(ET b w m [-(.list (es.map cI)),Sg,Sg,Sg,Sg,Sg,Sg])) (Z:=base) (aq (ag (d:=kT Ea) (cA (ai aD (ai aD aI)) rfl (Sm rfl))) (aq (ag (af rfl)) aO)) rfl;rw[EL (gL (b:=b) (w:=w) ⟨gX b,Th _⟩) m0 m4] at N;by_cases mz:m<=0
 .rw[if_pos mz] at N;exact C2 (.eq N ⟨⟨rfl,[Ea],Uv _ _,fun p H=>⟨0,SQ.mp H⟩,by show m<1;omega⟩⟩)
 rw[if_neg mz] at N;refine dX (ρ1:=(ET b w m [-(.list (es.map cI)),lD (.rf base.length),Sg,Sg,Sg,Sg,Sg])) N rfl ?_;refine dX (ρ1:=E0 b w m es base.length 0 Sg Sg Sg Sg) (ag aD) rfl ?_;refine kL (xD (fun n ρ Z=>∃(fs:List Te) (J:aV) (K E l j:Option SV),ρ=E0 b w m es base.length n K E l j/\Z=i7 base m (fs.map gU) J/\BT b w es fs n/\n<=fs.length/\(fs.length:Int)<=m) 1000 (by decide) ⟨[Pc],[],Sg,Sg,Sg,Sg,rfl,rfl,RN,Th _,by show(1:Int)<=m;omega⟩ ?_);rintro n ρ Z ⟨fs,J,K,E,l,j,rfl,rfl,bi,hle,ZV⟩;have P:∀{fs:List Te} {J:aV},(fs.length:Int)<=m->PSt base.length (base.length+1) (base.length+2) m (fs.map gU) (i7 base m (fs.map gU) J):=fun{fs J} h=>we (by rw[Sj];omega);have ff:∀{fs:List Te} {J:aV} {K E l j:Option SV},(fs.length:Int)<=m->a9 "Places" "found" (ar 4) (E0 b w m es base.length n K E l j) (i7 base m (fs.map gU) J)= .ok (.rf (base.length+1)) (i7 base m (fs.map gU) J):=fun h=>gF (bv rfl) (P h).o lB;have R:GR eU (aj (a9 "Places" "found" (ar 4)) aQ) (E0 b w m es base.length n K E l j) (i7 base m (fs.map gU) J)= .ok (.fz (nd fs.length)) (i7 base m (fs.map gU) J):=Bl (aq (ff ZV) aO) (by unfold aC;rw[gI (P ZV).f];rfl) ((gz _).trans (by rw[Sj,Sj]));have S:=aZ (cW (ag (f:=aa 5) (af rfl)) R (cr (ox (n:Int) (fs.length:Int))));by_cases WT:n<fs.length
 case neg=>
  rw[decide_eq_false (by omega)] at S;have e:n=fs.length:=by omega
  subst e;exact .inl ⟨_,S,oE (bv rfl) ⟨fs,J,rfl,rfl,bi,ZV⟩⟩
 case pos=>
  rw[decide_eq_true (by omega)] at S;refine .inr ⟨by omega,_,S,?_⟩;obtain⟨q,A⟩:∃q,fs[n]? =lD q:=⟨_,SI WT⟩;have st:j8 (j8 (a9 "Places" "found" (ar 4)) (ae (aa 5))) (ae (~~~0)) (E0 b w m es base.length n K E l j) (i7 base m (fs.map gU) J)= .ok (.fz (kT q.p)) (i7 base m (fs.map gU) J):=de (dx:=vd (gU q)) (zA (ff ZV) (ag (d:=nd n) (af rfl)) rfl (P ZV).f (Q0 (by rw[Sx,Sx,Sx,A];rfl))) (ag aD) ib;refine dX (x:= .fz (kT q.p)) (ρ1:=E0 b w m es base.length n (-(kT q.p)) E l j) st rfl ?_;refine kL (NN (fun i ρ Z=>∃(fs:List Te) (J:aV) (E l j:Option SV),ρ=E0 b w m es base.length n (-(kT q.p)) E l j/\Z=i7 base m (fs.map gU) J/\BT b w es fs n/\fs[n]? =lD q/\(fs.length:Int)<=m/\∀e∈es.take i,Dt b w fs q e) (rB (gu (d:= .list (es.map cI)) (af rfl) rfl rfl)) ⟨fs,J,E,l,j,rfl,rfl,bi,A,ZV,fun e he=>by cases he⟩ ?_ ?_)
  .clear S R st WT A hle bi ZV
   rintro i d ρ Z Q ⟨fs,J,E,l,j,rfl,rfl,bi,A,ZV,dn⟩;rw[Sx] at Q;cases qe:es[i]? with
   |none=>rw[qe] at Q;cases Q
   |some e=>
    rw[qe] at Q;cases SM Q;have L:=S7 qe;have M:=B.rw (bi.rw q (S7 A));refine⟨E0 b w m es base.length n (-(kT q.p)) (-(cI e)) l j,_,rfl,?_⟩;have X:=Bv (ρ:=E0 b w m es base.length n (-(kT q.p)) (-(cI e)) l j) (Z:=i7 base m (fs.map gU) J) T M.1 (B.eb e L) (fa:=ae (aa 0)) (fb:=ae (aJ bj (aa 6) (~~~0))) (fc:=ae (aa 7)) (ag (af rfl)) (ag (aL (rv:= .fz (dr q.p.1)) (af rfl) aD rfl rfl ib)) (ag (af rfl));rw[<-Il] at X;have k1:=CF T M.1 (B.eb e L);have k2:=x5 T M.1 (B.eb e L);have dk:=Ib hw wl (d:=q.p.2) (by have:=M.2;omega) k1 (by omega);have a:D5 b w q.p e=(Ci w q.p.2 (bA b q.p.1 e).2).map fun d=>((bA b q.p.1 e).1,d):=rfl;refine dX (ρ1:=E0 b w m es base.length n (-(kT q.p)) (-(cI e)) (-(.tuple [.list ((bA b q.p.1 e).2.map kh),dr (bA b q.p.1 e).1])) j) X rfl ?_;clear X;generalize bA b q.p.1 e=u at k1 dk a;generalize J++[Cell.dead]=J;refine dX (ρ1:=E0 b w m es base.length n (-(kT q.p)) (-(cI e)) (-(.tuple [.list (u.2.map kh),dr u.1])) (-(Pw (Ci w q.p.2 u.2)))) (ag (fF (rv:= .fz (Pw (Ci w q.p.2 u.2))) (ds:=[.str (eD w),nd q.p.2,.list (u.2.map kh)]) (ai (af rfl) (ai (aL (rv:= .fz (nd q.p.2)) (af rfl) aD rfl rfl iw) (ai (aL (rv:= .fz (.list (u.2.map kh))) (af rfl) aD rfl rfl ib) aI))) rfl rfl dk)) rfl ?_;have U:es.take (i+1)=es.take i++[e]:=by rw[VX,qe];rfl
    cases qd:Ci w q.p.2 u.2 with
    |none=>
     rw[qd] at a;refine .eq (ip (bH (bq (aL (rv:= .fz (.bool Sq)) (af rfl) aD rfl rfl rfl) rfl)) gQ) ⟨fs,J,_,_,_,rfl,rfl,bi,A,ZV,fun f g=> ?_⟩;rw[U] at g;rcases Tx.mp g with g|g
     .exact dn f g
     .rw[SQ.mp g];intro p H;rw[a] at H;cases H
    |some d=>
     rw[qd] at a;have a:D5 b w q.p e=lD (u.1,d):=a;have t2:bO (aF (aJ lJ (aa 9) (pC .none))) (E0 b w m es base.length n (-(kT q.p)) (-(cI e)) (-(.tuple [.list (u.2.map kh),dr u.1])) (-(Pw (lD d)))) (i7 base m (fs.map gU) J)= .ok Si (i7 base m (fs.map gU) J):=bH (bq (aL (rv:= .fz (.bool Si)) (af rfl) aD rfl rfl rfl) rfl);have pn:=B.nx M L a;have G:=Bm (F:=bV) (fo:=ar 4) (fa:=aj (ae (bB {aJ bj (aa 8) (~~~1),aa 9})) (aj (ae (aa 5)) (aj (ae (aa 7)) aQ))) (ρ:=E0 b w m es base.length n (-(kT q.p)) (-(cI e)) (-(.tuple [.list (u.2.map kh),dr u.1])) (-(Pw (lD d)))) (Z:=i7 base m (fs.map gU) J) (m:= "enter") (n:=4) (bv rfl) (P ZV).o uK (aq (ag (d:=kT (u.1,d)) (cA (ai (aL (rv:= .fz (dr u.1)) (af rfl) aD rfl rfl iw) (ai (af rfl) aI)) rfl (Sm rfl))) (aq (ag (af rfl)) (aq (ag (af rfl)) aO))) rfl;rw[tX (P ZV) (yy (by omega) m4) m4 (gL pn)] at G;refine .eq (fH t2 rfl) (GA ?_);cases qi:iy (fs.map gU) (kT (u.1,d)) with
     |some t=>
      rw[qi] at G;refine .eq G ⟨fs,J,_,_,_,rfl,rfl,bi,A,ZV,fun f g=> ?_⟩;rw[U] at g;rcases Tx.mp g with g|g
      .exact dn f g
      .rw[SQ.mp g];exact bi.old B A L a qi
     |none=>
      rw[qi] at G;dsimp only at G;rw[Sj] at G;have bn:=bi.new B A L a qi;by_cases hm:m<=(fs.length:Int)
      .rw[if_pos hm] at G
       refine .eq G ⟨rfl,_,bn.un,fun p H=> ?_,?_⟩
       .obtain⟨r,hr,rfl⟩:=Ta.mp H;exact⟨r.d,bn.rw r hr⟩
       .rw[Sj,Su];show m<((fs.length+1:Nat):Int);omega
      .rw[if_neg hm,Br] at G
       have Y:=(Sl.mp A).1;refine .eq G ⟨fs++[⟨(u.1,d),nd n,cI e,q.d+1⟩],J,_,_,_,rfl,by rw[S5];rfl,bn,(SG Y).trans A,?_,fun f g=> ?_⟩
       .rw[Su];show((fs.length+1:Nat):Int)<=m;omega
       .rw[U] at g
        rcases Tx.mp g with g|g
        .exact(dn f g).mono _
        .rw[SQ.mp g];intro p H;rw[a] at H;cases H;exact⟨_,To _ Sv,rfl,Sw _⟩
  .rintro ρ Z ⟨fs,J,E,l,j,rfl,rfl,bi,A,ZV,dn⟩;rw[Sj,Vu] at dn;have Y:=(Sl.mp A).1;refine zS (Ou (Z3:=[]) (i:=5) (x:= .fz (nd n)) (y:= .fz (.int 1)) (z:= .fz (nd (n+1))) rfl (ag aD) (cr rfl)) ⟨fs,J,_,_,_,_,rfl,rfl,bi.next A dn,Y,ZV⟩
section
variable {b:Bd} {w:List Nat} {es:List Wn} {fs Z:List Te}
theorem BT.len (h:BT b w es fs fs.length) {l:List TP} (a:l.Nodup) (e:∀p∈l,∃k,RT b w es k p):l.length<=fs.length:=by
 have:=rM (l:=fs.map (·.p)) a fun p f=>by obtain⟨k,g⟩:=e p f;obtain⟨r,j,i,_⟩:=h.all (Sw _) k p g;exact Ta.mpr ⟨r,j,i⟩
 rw[Sj] at this;exact this
theorem BT.one (h:BT b w es fs fs.length) (h':BT b w es Z Z.length):fs.length=Z.length:=by
 have g:=h.len h'.un fun p e=>by obtain⟨r,a,rfl⟩:=Ta.mp e;exact⟨_,h'.rw r a⟩
 have f:=h'.len h.un fun p e=>by obtain⟨r,a,rfl⟩:=Ta.mp e;exact⟨_,h.rw r a⟩
 rw[Sj] at g f;omega
theorem BT.uniq (h:BT b w es fs n) {q r:Te} (l:q∈fs) (g:r∈fs) (e:q.p=r.p):q=r:=by obtain⟨i,hi⟩:=TJ.mp l;obtain⟨j,a⟩:=TJ.mp g;have f:=(Sl.mp hi).1;have:i=j:=(ab3 (show i<(fs.map (·.p)).length by rw[Sj];exact f) h.un).mp (by rw[Sx,Sx,hi,a];exact congrArg lD e);subst this;rw[hi] at a;exact SM a
theorem BT.min (h:BT b w es fs fs.length) {q:Te} (a:q∈fs) (e:RT b w es k q.p):q.d<=k:=by obtain⟨r,i,g,f⟩:=h.all (Sw _) k _ e;rw[h.uniq a i g.symm];exact f
theorem BT.afG (h:BT b w es fs fs.length) (h':BT b w es Z Z.length) {q r:Te} (f:q∈fs) (a:r∈Z) (e:q.p=r.p):q.d=r.d:=by have i:=h.min f (k:=r.d) (by rw[e];exact h'.rw r a);have g:=h'.min a (k:=q.d) (by rw[<-e];exact h.rw q f);omega
end
def R0 (b:Bd) (w:List Nat) (es:List Wn) (m:Int) (Z:aV) (v:SV) (f:aV):Prop:=∃fs:List Te,BT b w es fs fs.length/\(fs.length:Int)<=m/\((v= .fz .none/\∀q∈fs,q.p≠(bz,w.length))\/∃(i:Nat) (a:List Wn) (q:Te),v= .rf i/\f[i]? =lD (.lst ((a.map cI).map .fz))/\q∈fs/\q.p=(bz,w.length)/\a.length=q.d/\(∀e∈a,e∈es)/\FT b w Ea a q.p)
theorem oy {b:Bd} (r:VB b) {n:Nat} (hn:b.n=n) (X:n<=5) {w:List Nat} (E:∀c∈w,c<26) (l:w.length<=3) {m:Int} (R:0<=m) (Q:m<=1000) (Z:aV):Out (df [.fz (bD b),.fz (.str (eD w)),.fz (.int m)] Z) (R0 b w (tD n) m Z) (Qm b w (tD n) m):=by
 have B:TC b w (tD n):=⟨r,zL hn,E,l⟩;refine rN rfl ?_;unfold wQ;have ca:=yx (F:=dA) (es:=[]) (fa:=aj (ae (aa 0)) (aj (ae (aa 1)) (aj (ae (aa 2)) aQ))) (ρ:=(ET b w m [Sg,Sg])) (Z:=Z) (n:=3) (aq (ag (af rfl)) (aq (ag (af rfl)) (aq (ag (af rfl)) aO))) rfl;refine C2 (.eq ca ((tq r hn X E l R Q Z).imp fun v Z' T=> ?_));obtain⟨fs,J,rfl,rfl,j,H⟩:=T;have a:Z.length+1=(Z++[Cell.dead]).length:=by rw[Su];rfl
 rw[a];generalize Z++[Cell.dead]=base;have P:PSt base.length (base.length+1) (base.length+2) m (fs.map gU) (i7 base m (fs.map gU) J):=we (by rw[Sj];omega);have S:=zK (w:=w) (by omega);show mx (aK _ _ (ET b w m [lD (.rf base.length),Sg]) _) _ _ _;refine dX (ρ1:=(ET b w m [lD (.rf base.length),-(kT (bz,w.length))])) (ag (d:=kT (bz,w.length)) (cA (ds:=[dr bz,nd w.length]) (ai aD (ai (fM (rv:= .fz (nd w.length)) (ai (af rfl) aI) rfl S) aI)) rfl (Sm rfl))) rfl ?_;have i:TW b w (bz,w.length):=⟨gX b,Sw _⟩;have f:=xU (gL i);have G:a9 "Places" "numbers" (ar 3) (ET b w m [lD (.rf base.length),-(kT (bz,w.length))]) (i7 base m (fs.map gU) J)= .ok (.rf (base.length+2)) (i7 base m (fs.map gU) J):=gF (bv rfl) P.o oO;have y:∀{o:aV},ae (aa 4) (ET b w m [lD (.rf base.length),-(kT (bz,w.length))]) o= .ok (.fz (kT (bz,w.length))) o:=ag (af rfl);have h:=aZ (Cq (neg:=Si) y G f P.n);rw[ju] at h;cases ht:iy (fs.map gU) (kT (bz,w.length)) with
 |none=>rw[ht] at h;refine FL h (Ce (ag aD) ⟨fs,j,H,.inl ⟨rfl,fun q U e=> ?_⟩⟩);have:=tj ht (gU q) (Ta.mpr ⟨q,U,rfl⟩);rw[show(gU q).p=kT (bz,w.length) by show kT q.p=_;rw[e],qJ (gL i)] at this;cases this
 |some t=>
  rw[ht] at h;refine vj h (pV ?_);obtain⟨x,g,Y⟩:=Al ht;rw[Sx] at g;cases z:fs[t]? with
  |none=>rw[z] at g;cases g
  |some u=>
   rw[z] at g;cases g;have A:=S7 z;have C:=B.rw (j.rw u A);have N:=zu B C i (LD.kd_eqv _ _ (LD.keyD_kd (gL C)).1 (LD.keyD_kd (gL i)).1 Y);obtain⟨K,Vq,M,L,I⟩:=Nc j P z;have gg:iH (i6 0 (fs.map gU)) (kT (bz,w.length))=lD (nd t):=by rw[ju,ht];show lD (nd (0+t))=_;rw[UX]
   have O:aU "Places" "way_to" cM 2 (ar 3) (aj (l7 (a9 "Places" "numbers" (ar 3)) (ae (aa 4))) aQ) (ET b w m [lD (.rf base.length),-(kT (bz,w.length))]) (i7 base m (fs.map gU) J)= .ok (.rf ((i7 base m (fs.map gU) J).length+1)) (i7 base m (fs.map gU) J++K):=BK (bv rfl) P.o (by rfl) (aq (yh G y f P.n gg) aO) rfl M;exact oE O ⟨fs,j,H,.inr ⟨_,Vq,u,rfl,xx.trans L,A,N,I⟩⟩
theorem Kj {C f:Str} {e:dH} {ρ:bf} {Z:aV} {T:List D->aV->Prop} {X:Xc->Prop} (a:Out (e ρ Z) (fun v Z1=>∃(i:Nat) (fs:List (Str×SV)) (j:Nat) (ds:List D),v= .rf i/\Z1[i]? =lD (.obj C fs)/\fs.lookup f=lD (.rf j)/\Z1[j]? =lD (.lst (ds.map .fz))/\T ds (Z1.set j .dead)) X):Out (jf (a9 C f e) ρ Z) T X:=by
 have h:=a.out;refine⟨?_⟩;cases q:e ρ Z with
 |bad=>rw[q] at h;exact h.elim
 |er x o=>
  rw[q] at h;have:jf (a9 C f e) ρ Z= .er x o:=by unfold jf a9;rw[q];rfl
  rw[this];exact h
 |ok v o=>rw[q] at h;obtain⟨i,fs,j,ds,rfl,m,l,g,b⟩:=h;rw[Au (gF q m l) g];exact b
def D9 (q:Te):D:= .tuple [dr q.p.1,nd q.p.2,nd q.d]
theorem zV {b:Bd} (R:VB b) {n:Nat} (hn:b.n=n) (h5:n<=5) {w:List Nat} (hw:∀c∈w,c<26) (Q:w.length<=3) {m:Int} (Y:0<=m) (U:m<=1000) (Z:aV):Out (ez [.fz (bD b),.fz (.str (eD w)),.fz (.int m)] Z) (fun v Z'=>∃(fs:List Te) (i:Nat),BT b w (tD n) fs fs.length/\(fs.length:Int)<=m/\v= .rf i/\Z'[i]? =lD (.lst ((fs.map D9).map .fz))) (Qm b w (tD n) m):=by
 refine rN rfl ?_;unfold hV;refine dX (ρ1:=(ET b w m [lD (.rf Z.length),Sg,Sg,Sg,Sg,Sg])) (ef (by fail "ev")) rfl ?_;refine dX (ρ1:=(ET b w m [lD (.rf Z.length),lD (.rf (Z.length+1)),Sg,Sg,Sg,Sg])) ((ef (by fail "ev")).trans (by rw[Su];rfl)) rfl ?_;have M:(Z++[Cell.lst (([]:List D).map .fz)]++[Cell.lst (([]:List D).map .fz)])[Z.length]? =lD (.lst []):=by rw[Tw];exact xx (t:=0)
 have L:(Z++[Cell.lst (([]:List D).map .fz)]++[Cell.lst (([]:List D).map .fz)])[Z.length+1]? =lD (.lst []):=by rw[Tw];exact xx (t:=1)
 have A:(Z++[Cell.lst (([]:List D).map .fz)]++[Cell.lst (([]:List D).map .fz)]).length=Z.length+2:=by rw[Su,Su];rfl
 generalize Z++[Cell.lst (([]:List D).map .fz)]++[Cell.lst (([]:List D).map .fz)]=Z1 at M L A;have ca:=yx (F:=dA) (es:=[]) (fa:=aj (ae (aa 0)) (aj (ae (aa 1)) (aj (ae (aa 2)) aQ))) (ρ:=(ET b w m [lD (.rf Z.length),lD (.rf (Z.length+1)),Sg,Sg,Sg,Sg])) (Z:=Z1) (n:=3) (aq (ag (af rfl)) (aq (ag (af rfl)) (aq (ag (af rfl)) aO))) rfl;refine kL (Out.bind (Kj (C:= "Places") (f:= "found") (.eq ca ((tq R hn h5 hw Q Y U Z1).imp fun v Z' hv=> ?_))));obtain⟨fs,J,rfl,rfl,H,ZV⟩:=hv;have P:PSt (Z1++[Cell.dead]).length ((Z1++[Cell.dead]).length+1) ((Z1++[Cell.dead]).length+2) m (fs.map gU) (i7 (Z1++[.dead]) m (fs.map gU) J):=we (by rw[Sj];omega);have bl:(Z1++[Cell.dead]).length=Z.length+3:=by rw[Su,A];rfl
 refine⟨_,_,_,fs.map fun q=>vd (gU q),by rw[bl,A],P.o,lB,by rw[Tr];have:=P.f;rw[Tr,Tr] at this;exact this,?_⟩;have O:((i7 (Z1++[.dead]) m (fs.map gU) J).set ((Z1++[Cell.dead]).length+1) .dead)[Z.length]? =lD (.lst []):=by rw[Ts (by omega)];unfold i7;rw[SG (by omega),SG (by omega)];exact M
 have N:((i7 (Z1++[.dead]) m (fs.map gU) J).set ((Z1++[Cell.dead]).length+1) .dead)[Z.length+1]? =lD (.lst []):=by rw[Ts (by omega)];unfold i7;rw[SG (by omega),SG (by omega)];exact L
 generalize (i7 (Z1++[.dead]) m (fs.map gU) J).set ((Z1++[Cell.dead]).length+1) .dead=Z2 at O N;have go:=v7 (gt:=OI 3 (nV (fD 5) (nV (fD 6) (nV (fD 7) DT)))) (T:=fun v Z'=>∃(fs:List Te) (i:Nat),BT b w (tD n) fs fs.length/\(fs.length:Int)<=m/\v= .rf i/\Z'[i]? =lD (.lst ((fs.map D9).map .fz))) (X:=Qm b w (tD n) m) (b:=(aK (cL (HR (bO (aF (aJ mw (aa 6) (pC .none)))) (ae (~~~0)) (kZ dI (j8 (ar 3) (ae (aa 6))) (ae (~~~1)))) (fD 8)) (aK (bM (l4 (ar 3) (ae (aa 8)))) (bM (l4 (ar 4) (ae (bB {aJ bj (aa 5) (~~~0),aJ bj (aa 5) (~~~1),aa 8}))))))) (fun i ρ Z'=>∃G E B u:Option SV,ρ=(ET b w m [lD (.rf Z.length),lD (.rf (Z.length+1)),G,E,B,u])/\Z'[Z.length]? =lD (.lst (((fs.take i).map fun q=>nd q.d).map .fz))/\Z'[Z.length+1]? =lD (.lst (((fs.take i).map D9).map .fz))) (fs.map fun q=>vd (gU q)) 0 (ET b w m [lD (.rf Z.length),lD (.rf (Z.length+1)),Sg,Sg,Sg,Sg]) Z2 ⟨Sg,Sg,Sg,Sg,rfl,O,N⟩ (by
  rintro i d ρ Z' y ⟨G,E,B,u,rfl,g,l⟩;rw[UX] at g l⊢;rw[Sx] at y;cases qi:fs[i]? with
  |none=>rw[qi] at y;cases y
  |some q=>
   rw[qi] at y;cases SM y;have il:=(Sl.mp qi).1;refine⟨(ET b w m [lD (.rf Z.length),lD (.rf (Z.length+1)),-(kT q.p),-(q.b),-(q.e),u]),Z',rfl,?_⟩;have S:HR (bO (aF (aJ mw (aa 6) (pC .none)))) (ae (~~~0)) (kZ dI (j8 (ar 3) (ae (aa 6))) (ae (~~~1))) (ET b w m [lD (.rf Z.length),lD (.rf (Z.length+1)),-(kT q.p),-(q.b),-(q.e),u]) Z'= .ok (.fz (nd q.d)) Z':=by
    by_cases i0:i=0
    .subst i0;rw[H.z] at qi;cases qi;exact CM (bH (bq (aL (rv:= .fz (.bool Si)) (af rfl) aD rfl rfl rfl) rfl)) (ag aD)
    .obtain⟨j,r,h1,h2,h3,h4,_⟩:=H.bk i q qi (by omega);rw[h3];refine Bt (bH (bq (aL (rv:= .fz (.bool Sq)) (af rfl) aD rfl rfl rfl) rfl)) ?_;refine(cW (zA (bv rfl) (ag (d:=nd j) (af rfl)) rfl g (Q0 (v:= .fz (nd r.d)) ?_)) (ag aD) (cr (jM (r.d:Int) 1))).trans (by rw[h4];rfl);rw[Sx,Sx,Z9 h1,h2];rfl
   refine dX (ρ1:=(ET b w m [lD (.rf Z.length),lD (.rf (Z.length+1)),-(kT q.p),-(q.b),-(q.e),-(nd q.d)])) S rfl ?_;have ap:=ml (ρ:=(ET b w m [lD (.rf Z.length),lD (.rf (Z.length+1)),-(kT q.p),-(q.b),-(q.e),-(nd q.d)])) (fo:=ar 3) (fe:=ae (aa 8)) (x:= .fz (nd q.d)) (bv rfl) g (ag (af rfl)) g (by rw[Sj,Sj,TQ];omega);refine A8 (gw ap) ?_;have l0:=(Sl.mp g).1;have l1:=(Sl.mp l).1;have h:=(Ts (a:=Cell.lst (((fs.take i).map fun q=>nd q.d).map SV.fz++[.fz (nd q.d)])) (show Z.length≠Z.length+1 by omega)).trans l;have I:=ml (ρ:=(ET b w m [lD (.rf Z.length),lD (.rf (Z.length+1)),-(kT q.p),-(q.b),-(q.e),-(nd q.d)])) (fo:=ar 4) (fe:=ae (bB {aJ bj (aa 5) (~~~0),aJ bj (aa 5) (~~~1),aa 8})) (x:= .fz (D9 q)) (bv rfl) h (ag (cA (ds:=[dr q.p.1,nd q.p.2,nd q.d]) (ai (aL (rv:= .fz (dr q.p.1)) (af rfl) aD rfl rfl ib) (ai (aL (rv:= .fz (nd q.p.2)) (af rfl) aD rfl rfl iw) (ai (af rfl) aI))) rfl (Sm rfl))) h (by rw[Sj,Sj,TQ];omega);have K:fs.take (i+1)=fs.take i++[q]:=by rw[VX,qi];rfl
   refine zS (gw I) ⟨_,_,_,_,rfl,?_,?_⟩
   .rw[Ts (by omega),TV l0,K,S5,S5];rfl
   .rw[TV (by rw[TZ];exact l1),K,S5,S5];rfl)
 rw[UX,Sj,Vu] at go;refine go.imp fun fl o k=> ?_;cases fl with
 |nx r=>obtain⟨G,E,B,u,rfl,g,l⟩:=k;exact oE (bv rfl) ⟨fs,_,H,ZV,rfl,l⟩
 |rt v=>exact k
 |ct r=>exact k.elim
 |bk r=>exact k.elim
theorem KC {b:Bd} (j:VB b) (es:List Wn) (B:es.length<=1000) (m:∀e∈es,EV b e):∃Z',vg [.fz (bD b),.fz (.list (es.map cI))] []= .ok (.tp [.rf 0,.fz (dr (cG b bz es).1)]) Z'/\sh Z' (.rf 0)=lD (.list (qV (cG b bz es).2)):=by
 refine ig (v:= .tp [.rf 0,.fz (dr (cG b bz es).1)]) (W:=fun Z'=>sh Z' (.rf 0)=lD (.list (qV (cG b bz es).2))) (ρ:=[-(bD b),-(.list (es.map cI)),Sg,Sg,Sg,Sg]) rfl ?_;unfold pW;refine gG (x:= .fz (dr bz)) (ρ1:=[-(bD b),-(.list (es.map cI)),-(dr bz),Sg,Sg,Sg]) (ag (d:=dr bz) (show _=Res.ok (PV.fz (.tuple [.tuple [],.none,.none]),_) from aD)) rfl ?_;refine gG (x:= .rf 0) (Z1:=[.lst []]) (ρ1:=[-(bD b),-(.list (es.map cI)),-(dr bz),lD (.rf 0),Sg,Sg]) (ef (ds:=[]) (by fail "ev")) rfl ?_;refine og (NU (fun i ρ Z=>∃(f a:Option SV) (J:aV),ρ=[-(bD b),-(.list (es.map cI)),-(dr (cG b bz (es.take i)).1),lD (.rf 0),f,a]/\Z= .lst ((qV (cG b bz (es.take i)).2).map .fz)::J) (ds:=es.map cI) (Z1:=[.lst []]) (rB (gu (af rfl) rfl rfl)) ⟨_,_,[],rfl,rfl⟩ ?_ ?_)
 .rintro i d ρ Z hi ⟨f,a,J,rfl,rfl⟩
  rw[Sx] at hi;cases q:es[i]? with
  |none=>rw[q] at hi;cases hi
  |some e=>
   rw[q] at hi;cases SM hi;refine⟨_,_,rfl,?_⟩;have g:=m e (S7 q);have o:SW b (cG b bz (es.take i)).1:=wV j _ (gX b) fun e h=>m e (X2 h);obtain⟨r,w⟩:=wa b es bz i e q;have A:i<es.length:=(Sl.mp q).1;have n:(cG b bz (es.take (i+1))).2=(cG b bz (es.take i)).2++[(bA b (cG b bz (es.take i)).1 e).2]:=by rw[VX,q,yG];rfl
   have y:(cG b bz (es.take i)).2.length<=1000:=by rw[rL,TQ];omega
   rw[r,n];have l:=Bv (ρ:=[-(bD b),-(.list (es.map cI)),-(dr (cG b bz (es.take i)).1),lD (.rf 0),-(cI e),a]) (Z:= .lst ((qV (cG b bz (es.take i)).2).map .fz)::J) j o g (fa:=ae (aa 0)) (fb:=ae (aa 2)) (fc:=ae (aa 4)) (ag (af rfl)) (ag (af rfl)) (ag (af rfl));generalize bA b (cG b bz (es.take i)).1 e=p at l;refine gG (x:= .fz (.tuple [.list (p.2.map kh),dr p.1])) (Z1:=Cell.lst ((qV (cG b bz (es.take i)).2).map .fz)::(J++[Cell.dead])) (ρ1:=[-(bD b),-(.list (es.map cI)),-(dr (cG b bz (es.take i)).1),lD (.rf 0),-(cI e),-(.tuple [.list (p.2.map kh),dr p.1])]) l rfl ?_;have u:bj (.tuple [.list (p.2.map kh),dr p.1]) (.int 0)=-(.list (p.2.map kh)):=ib;have t:bj (.tuple [.list (p.2.map kh),dr p.1]) (.int 1)=-(dr p.1):=iw;refine jL (Z1:=Cell.lst ((qV ((cG b bz (es.take i)).2++[p.2])).map .fz)::(J++[Cell.dead])) ((ml (i:=0) (xs:=(qV (cG b bz (es.take i)).2).map .fz) (ys:=(qV (cG b bz (es.take i)).2).map .fz) (x:= .fz (.list (p.2.map kh))) (bv rfl) rfl (ag (aL (rv:= .fz (.list (p.2.map kh))) (af rfl) aD rfl rfl u)) rfl (by rw[Sj,GZ];omega)).trans (by unfold qV;rw[S5,S5];rfl)) ?_;exact Ew (x:= .fz (dr p.1)) (ρ1:=[-(bD b),-(.list (es.map cI)),-(dr p.1),lD (.rf 0),-(cI e),-(.tuple [.list (p.2.map kh),dr p.1])]) (ag (aL (rv:= .fz (dr p.1)) (af rfl) aD rfl rfl t)) rfl ⟨_,_,_,rfl,rfl⟩
 .rintro ρ Z ⟨f,a,J,rfl,rfl⟩;rw[Sj,Vu];exact Ez (K2 (xs:=[.rf 0,.fz (dr (cG b bz es).1)]) (aq (bv rfl) (aq (ag (af rfl)) aO)) (Sm rfl) rfl rfl) ⟨rfl,gI (ds:=qV (cG b bz es).2) rfl⟩
theorem Ph {b:Bd} (a:VB b) (es:List Wn) (f:es.length<=1000) (g:∀e∈es,EV b e):rK [bD b,.list (es.map cI)]= .ok (.fz (.tuple [.list (qV (cG b bz es).2),dr (cG b bz es).1])):=by obtain⟨j,i,h⟩:=KC a es f g;unfold rK QQ;rw[show[bD b,.list (es.map cI)].map SV.fz=[.fz (bD b),.fz (.list (es.map cI))] from rfl,i];dsimp only;unfold aC;rw[show QW j (.rf 0)=lD (.list (qV (cG b bz es).2)) from h];rfl
theorem FR {b:Bd} {w:List Nat}:∀(row:List Wn) {q p:TP},FT b w q row p->(cG b q.1 row).1=p.1/\q.2<=p.2/\((cG b q.1 row).2.map ke).flatten=(w.drop q.2).take (p.2 - q.2)
 |[],q,p,h=>by rw[show q=p from h];exact⟨rfl,Sw _,by rw[aaR,List.take_zero];rfl⟩
 |e::r,q,p,⟨q',h1,h2⟩=>by
  unfold D5 at h1;cases z:Ci w q.2 (bA b q.1 e).2 with
  |none=>rw[z] at h1;cases h1
  |some d=>
   rw[z] at h1;cases h1;obtain⟨g,a,f⟩:=FR r h2;unfold Ci at z;split at z
   .rename_i c;cases z;refine⟨g,Tg (Xk _ _) a,?_⟩;show ke (bA b q.1 e).2++((cG b (bA b q.1 e).1 r).2.map ke).flatten=_;rw[f];dsimp only at a⊢;rw[show p.2 - q.2=(ke (bA b q.1 e).2).length+(p.2 - (q.2+(ke (bA b q.1 e).2).length)) by omega,List.take_add,c,List.drop_drop]
   .cases z
theorem FK {x:Str} (h:x= "down"\/x= "up"):pA (.str x) (.tuple [.str "down",.str "up"])=-(.bool Sq):=by
 show(if(jv (.str x)&&(Sk.strOk "down"&&(Sk.strOk "up"&&Si)))=Si then lD (RV.fz (.bool (!(Sk.eqv (.str "down") (.str x)||(Sk.eqv (.str "up") (.str x)||false))))) else Sg)=_;rw[show Sk.strOk "down"=Si by left,show Sk.strOk "up"=Si by left];rcases h with rfl|rfl
 .rw[show jv (.str "down")=Si by left,show Sk.eqv (.str "down") (.str "down")=Si by left];rfl
 .rw[show jv (.str "up")=Si by left,show Sk.eqv (.str "up") (.str "up")=Si by left,U9,WA];rfl
abbrev oT:L3.FT:=rV (aF (aJ oY (aa 3) (bB {pC (.str "turn"),~~~0}))) (OP (aF (aJ pA (aJ bj (aa 3) (~~~0)) (bB {pC (.str "down"),pC (.str "up")}))) (zY (aF (sd QE OO (~~~0) (aJ bj (aa 3) (~~~1)) (aJ bj (aa 0) (~~~0))))))
theorem OB {b:Bd} {e:Wn} (i:EV b e) (ρ:aY) (m:ρ[0]? =lD (zf (bD b))) (g:ρ[3]? =lD (zf (cI e))):oT ρ= .ok (Sq,ρ):=by
 have h:bB {pC (.str "turn"),~~~0} ρ= .ok (.fz (.tuple [.str "turn",.int 0]),ρ):=cA (ai aD (ai aD aI)) rfl (Sm rfl);have p:bB {pC (.str "down"),pC (.str "up")} ρ= .ok (.fz (.tuple [.str "down",.str "up"]),ρ):=cA (ai aD (ai aD aI)) rfl (Sm rfl);have f:∀(x:Str) (k:Nat),cI e= .tuple [.str x,nd k]->(k:Int)<b.n->oY (.tuple [.str x,nd k]) (.tuple [.str "turn",.int 0])=-(.bool Si)->pA (.str x) (.tuple [.str "down",.str "up"])=-(.bool Sq)->oT ρ= .ok (Sq,ρ):=fun x k o l ne j=>by rw[o] at g;exact qH (a:=Si) (b:=Sq) (bq (aL (rv:= .fz (.bool Si)) (af g) h rfl rfl ne) rfl) fun _=>HB (a:=Sq) (b:=Sq) (bq (aL (rv:= .fz (.bool Sq)) (aL (rv:= .fz (.str x)) (af g) aD rfl rfl ib) p rfl rfl j) rfl) fun _=>wP (a:=Si) (bq (yF (dx:= .int 0) (dy:=nd k) (dz:= .int b.n) aD (aL (rv:= .fz (nd k)) (af g) aD rfl rfl iw) (aL (rv:= .fz (.int b.n)) (af m) aD rfl rfl (Qs b)) rfl rfl rfl ((F1 0 (k:Int)).trans (by rw[decide_eq_true (by omega)])) (fun _=>(ox (k:Int) b.n).trans (by rw[decide_eq_true l]))) rfl)
 cases e with
 |turn=>exact qH (a:=Sq) (b:=Si) (bq (aL (rv:= .fz (.bool Sq)) (af g) h rfl rfl (CB (d:= .tuple [.str "turn",.int 0]) (by left))) rfl) fun q=>nomatch q
 |down k=>
  refine f "down" k rfl i ?_ ?_
  .unfold oY;rw[show jv (.tuple [.str "down",nd k])=Si from sJ (by show(Sk.strOk "down"&&(Si&&Si))=Si;left) (Sm rfl),show Sk.canLay0 (.tuple [.str "turn",.int 0])=Si by left,T7,if_pos rfl];rw[show Sk.eqv (.tuple [.str "down",nd k]) (.tuple [.str "turn",.int 0])=Sq by rw[Sk.eqv,Sk.eqvAll,Sk.eqv,show(("down":Str)== "turn")=Sq by left];rfl];rfl
  .exact FK (.inl rfl)
 |up k=>
  refine f "up" k rfl i ?_ ?_
  .unfold oY;rw[show jv (.tuple [.str "up",nd k])=Si from sJ (by show(Sk.strOk "up"&&(Si&&Si))=Si;left) (Sm rfl),show Sk.canLay0 (.tuple [.str "turn",.int 0])=Si by left,T7,if_pos rfl];rw[show Sk.eqv (.tuple [.str "up",nd k]) (.tuple [.str "turn",.int 0])=Sq by rw[Sk.eqv,Sk.eqvAll,Sk.eqv,show(("up":Str)== "turn")=Sq by left];rfl];rfl
  .exact FK (.inr rfl)
abbrev EY (b:Bd) (w:List Nat) (a:List Wn) (r:aY):aY:=zf (bD b)::zf (.str (eD w))::zf (.list (a.map cI))::r
theorem Fv {b:Bd} (l:VB b) {w:List Nat} (G:∀c∈w,c<26) (v:w.length<=3) {f:List Wn} (H:f.length<=1000) (m:∀e∈f,EV b e) (y:FT b w Ea f (bz,w.length)):dD [bD b,.str (eD w),.list (f.map cI)]= .ok (.fz (.bool Si)):=by
 obtain⟨n,_,j⟩:=FR f y;have p:=Ph l f H m;have n:(cG b bz f).1=bz:=n;rw[n] at p;have B:=rL b f bz;have sn:∀x∈(cG b bz f).2,Wv x/\x.length<=100:=by intro x F;obtain⟨i,hi⟩:=TJ.mp F;have u:=(Sl.mp hi).1;rw[B] at u;have C:=(wa b f bz i f[i] (SI u)).2;rw[hi] at C;have A:=wV l (f.take i) (gX b) fun e h=>m e (X2 h);have ev:=m _ (Y4 u);cases SM C;exact⟨CF l A ev,x5 l A ev⟩
 have j:((cG b bz f).2.map ke).flatten=w:=j.trans (by show(w.drop 0).take (w.length - 0)=w;rw[ZI,aaO,Vu]);generalize (cG b bz f).2=sns at p B sn j;have t:∃rv,ic 8 g6 [bD b,.str (eD w),.list (f.map cI)]= .ok rv/\rv= .fz (.bool Si):=by
  refine sM (T:=fun rv=>rv= .fz (.bool Si)) (ρ:=(EY b w f [Sg,Sg,Sg,Sg,Sg])) rfl ?_;unfold g6;refine oP (b:=Sq) (wP (a:=Si) (bq (El (dx:= .list (f.map cI)) (af rfl) rfl rfl) rfl)) (fun q=>nomatch q) (fun _=>gj ?_);refine zG (fun _ ρ=>∃o,ρ=(EY b w f [o,Sg,Sg,Sg,Sg])) (ds:=f.map cI) (gu (d:= .list (f.map cI)) (af rfl) rfl rfl) ⟨Sg,rfl⟩ ?_ ?_
  .rintro i d ρ g ⟨o,rfl⟩
   rw[Sx] at g;cases qe:f[i]? with
   |none=>rw[qe] at g;cases g
   |some e=>rw[qe] at g;cases SM g;refine⟨(EY b w f [zf (cI e),Sg,Sg,Sg,Sg]),rfl,?_⟩;exact LM (b:=Sq) (OB (m e (S7 qe)) _ rfl rfl) (fun q=>nomatch q) (fun _=>BL ⟨_,rfl⟩)
  rintro ρ ⟨o,rfl⟩;refine di (ρ3:=(EY b w f [o,zf (.list (qV sns)),zf (dr bz),Sg,Sg])) (fF (rv:= .fz (.tuple [.list (qV sns),dr bz])) (ai (af rfl) (ai (af rfl) aI)) rfl rfl p) rfl rfl ?_;refine di (ρ3:=(EY b w f [o,zf (.list (qV sns)),zf (dr bz),zo [],Sg])) (by fail "ev") rfl rfl ?_;refine zG (fun i ρ=>∃r,ρ=(EY b w f [o,zf (.list (qV sns)),zf (dr bz),zo ((((sns.take i).map ke).flatten).map fun c=> .str (d8 c)),r])) (ds:=qV sns) (gu (d:= .list (qV sns)) (af rfl) rfl rfl) ⟨Sg,rfl⟩ ?_ ?_
  .rintro i d ρ g ⟨r,rfl⟩
   unfold qV at g;rw[Sx] at g;cases qe:sns[i]? with
   |none=>rw[qe] at g;cases g
   |some x=>
    rw[qe] at g;cases SM g;have xs:=sn x (S7 qe);have cm:=x4 (sn:=x) (by omega);have J:(((sns.take i).map ke).flatten).length<=w.length:=by
     rw[<-j]
     conv=>rhs;rw[<-List.take_append_drop i sns]
     rw[S5,abx,Su];exact Xk _ _
    have K:=CD x;refine⟨(EY b w f [o,zf (.list (qV sns)),zf (dr bz),zo ((((sns.take i).map ke).flatten).map fun c=> .str (d8 c)),zf (.list (x.map kh))]),rfl,?_⟩;refine vf (L10.NW (i:=6) (es:=(ke x).map fun c=> .str (d8 c)) rfl (d4 (cs:=[]) (ds:=x.map kh) (gu (d:= .list (x.map kh)) (af rfl) rfl rfl) rfl cm) rfl (by rw[Sj,Sj];have:=v;omega)) ⟨zf (.list (x.map kh)),?_⟩;rw[VX,qe,S5,abx,S5];show _=(EY b w f [o,zf (.list (qV sns)),zf (dr bz),zo (_++([ke x].flatten).map fun c=> .str (d8 c)),zf (.list (x.map kh))]);rw[List.flatten_singleton];rfl
  rintro ρ ⟨r,rfl⟩;rw[GZ,Vu,j];have E:=vD (w:=w) (by omega);have I:cY (.str (eD w)) (.str (eD w))=-(.bool Si):=STP.qk (sJ (zD G) (by show 0<=64;decide));have er:cY (dr bz) (.tuple [.tuple [],.none,.none])=-(.bool Si):=STP.qk (GU (gX b));exact fJ (rv:= .fz (.bool Si)) (pZ (a:=Si) (b:=Si) (bq (aL (rv:= .fz (.bool Si)) (Es (rv:= .fz (.str (eD w))) aD rfl (ai (oi rfl) aI) rfl E) (af rfl) rfl rfl I) rfl) fun _=>aL (rv:= .fz (.bool Si)) (af rfl) (cA (ds:=[.tuple [],.none,.none]) (ai (cA aI rfl (Sm rfl)) (ai aD (ai aD aI))) rfl (Sm rfl)) rfl rfl er) rfl rfl
 obtain⟨rv,h,rfl⟩:=t;exact h
theorem qN (a:List Int) (k:Int) (e:0<=k):∃c:Int,cF [.list (a.map .int),.int k]= .ok (.fz (.int c)):=by
 obtain⟨n,rfl⟩:∃n:Nat,k=(n:Int):=⟨k.toNat,by omega⟩;have b:eU [.list (a.map .int)]=-(nd a.length):=(gz _).trans (by rw[Sj]);by_cases h:n<a.length
 .refine⟨a[n],jE (ρ:=[-(.list (a.map .int)),-(nd n)]) rfl (fJ (pv:= .fz (.int a[n])) (rv:= .fz (.int a[n])) (My (bq (aL (rv:= .fz (.bool Si)) (af rfl) (fM (rv:= .fz (nd a.length)) (ai (af rfl) aI) rfl b) rfl rfl ?_) rfl) (aL (rv:= .fz (.int a[n])) (af rfl) (af rfl) rfl rfl (RQ ?_))) rfl rfl)⟩
  .rw[ox,decide_eq_true (by omega)]
  .rw[Sx,SI h];rfl
 .refine⟨0,jE (ρ:=[-(.list (a.map .int)),-(nd n)]) rfl (fJ (pv:= .fz (.int 0)) (rv:= .fz (.int 0)) (Nt (bq (aL (rv:= .fz (.bool Sq)) (af rfl) (fM (rv:= .fz (nd a.length)) (ai (af rfl) aI) rfl b) rfl rfl ?_) rfl) aD) rfl rfl)⟩;rw[ox,decide_eq_false (by omega)]
theorem RG {i j:Int} (h: -2^64<i/\i<2^64):i9 (.int i) (.int j)=-(.int (i*j)):=Iv h
theorem RD {i j:Int} (h: -2^64<j/\j<2^64):i9 (.int i) (.int j)=-(.int (i*j)):=Jk h
def BN (x s m:Int):Int:=((x % 1000033+s)*(s+521) % 1000033*((x % 1000033+s)*(s+521) % 1000033)+x/1000033+7*s) % 999983/3 % m
theorem kM {x s m:Int} (hm:0<m):0<=BN x s m/\BN x s m<m:=⟨adq _ (by omega),ab6 _ hm⟩
theorem gv (x:Int) {s m:Int} (p:0<=s) (o:s<1000) (hm:0<m):bh [.int x,.int s,.int m]= .ok (.fz (.int (BN x s m))):=by unfold BN;have n:tO (.int x) (.int 1000033)=-(.int (x % 1000033)):=wB (by decide);have f:i9 (.int (x % 1000033+s)) (.int (s+521))=-(.int ((x % 1000033+s)*(s+521))):=RD ⟨by omega,by omega⟩;generalize (x % 1000033+s)*(s+521)=y at f;have e:tO (.int y) (.int 1000033)=-(.int (y % 1000033)):=wB (by decide);have g:0<=y % 1000033/\y % 1000033<1000033:=⟨adq _ (by decide),ab6 _ (by decide)⟩;generalize y % 1000033=z at e g;have b:i9 (.int z) (.int z)=-(.int (z*z)):=RD ⟨by omega,by omega⟩;have l:DL (.int x) (.int 1000033)=-(.int (x/1000033)):=Gm ⟨by decide,by decide⟩;have j:i9 (.int 7) (.int s)=-(.int (7*s)):=RG ⟨by decide,by decide⟩;generalize z*z=u at b;have a:tO (.int (u+x/1000033+7*s)) (.int 999983)=-(.int ((u+x/1000033+7*s) % 999983)):=wB (by decide);generalize (u+x/1000033+7*s) % 999983=v at a;have i:DL (.int v) (.int 3)=-(.int (v/3)):=Gm ⟨by decide,by decide⟩;have h:tO (.int (v/3)) (.int m)=-(.int (v/3 % m)):=wB hm;exact jE (ρ:=[-(.int x),-(.int s),-(.int m),Sg]) rfl (Aj (G9 (by fail "ev") rfl (Aj (G9 (by fail "ev") rfl (fJ (by fail "ev") rfl rfl)))))
theorem Mz {z:Str} {cs:List Nat} (hz:z.cps.toList=cs.map (97+·)) (a:z.length<=1000000) {r:Int} {c:Nat} (b:0<=r) (h:cs[r.toNat]? =lD c):L3.j8 (.str z) (.int r)=-(.str (d8 c)):=by show(if z.length<=1000000 then(l9 z.cps.toList r).map (fun c=>RV.fz (.str ⟨#[c]⟩)) else Sg)=_;rw[if_pos a,hz,wF (v:=97+c) b (by rw[Sx,h];rfl)];rfl
theorem zR {z:Str} (cs:List Nat) (hz:z.cps.toList=cs.map (97+·)) (b:z.length<=1000000) (e:∀c∈cs,c<26) {r:Int} (f:0<=r) (g:r<cs.length):∃c,c<26/\L3.j8 (.str z) (.int r)=-(.str (d8 c)):=by
 have a:r.toNat<cs.length:=by omega
 exact⟨cs[r.toNat],e _ (Y4 a),Mz hz b f (SI a)⟩
theorem HK {n i k:Nat} (h:(S6 n)[i]? =lD k):k=i/\i<n:=by obtain⟨b,a⟩:=Sl.mp h;rw[List.getElem_range] at a;rw[TR] at b;exact⟨a.symm,b⟩
theorem Kx {n a:Int} {e:List (List Mn)} {b:List Mn} (h:VL n a e) (g:(b.length:Int)=n) (f:∀m∈b,VM e.length a m):VL n a (e++[b]):=by
 intro i l hi;rcases L10.cw hi with h'|⟨rfl,rfl⟩
 .exact h i l h'
 .exact⟨g,f⟩
theorem MJ {a:Int} (b:1<=a):∃M:Int,Ba [.int 1,.int (a - 1)]=-(.int M)/\1<=M/\(1<a->M=a - 1):=by refine⟨_,rfl,?_⟩;split<;>omega
theorem Ih (c:Int) (L:Nat) (a:Int) (n:1<=a):∃m:Mn,VM L a m/\ei [.int c,nd L,.int a]= .ok (.fz (mD m)):=by
 have r:=gv c (s:=5) (m:=3) (by decide) (by decide) (by decide);have g:=kM (x:=c) (s:=5) (m:=3) (by decide);generalize BN c 5 3=r5 at r g;obtain⟨l,i,w⟩:=zR (z:= "abc") [0,1,2] (by left) (by left) (by decide) g.1 (show r5<3 from g.2);obtain⟨M,v,M1,M2⟩:=MJ n;have p:=gv c (s:=7) (m:=M) (by decide) (by decide) (by omega);have u:=kM (x:=c) (s:=7) (m:=M) (by omega);generalize BN c 7 M=r7 at p u;have t:=gv c (s:=3) (m:=8) (by decide) (by decide) (by decide);generalize BN c 3 8=r3 at t;have o:HU (nd L) (.int 0)=-(.bool (decide ((0:Int)<L))):=rfl;have f:∃rv,ic 6 eC [.int c,nd L,.int a]= .ok rv/\∃m:Mn,VM L a m/\rv= .fz (mD m):=by
  refine sM (T:=fun rv=>∃m:Mn,VM L a m/\rv= .fz (mD m)) (ρ:=[zf (.int c),zf (nd L),zf (.int a),Sg,Sg,Sg]) rfl ?_;unfold eC;refine di (ρ3:=[zf (.int c),zf (nd L),zf (.int a),zf (.str (d8 l)),Sg,Sg]) (by fail "ev") rfl rfl ?_;refine di (ρ3:=[zf (.int c),zf (nd L),zf (.int a),zf (.str (d8 l)),zf (.int (1+r7)),Sg]) (by fail "ev") rfl rfl ?_;refine di (ρ3:=[zf (.int c),zf (nd L),zf (.int a),zf (.str (d8 l)),zf (.int (1+r7)),zf (.int r3)]) (by fail "ev") rfl rfl ?_;refine oP (b:=(decide ((0:Int)<L)&&decide (5<r3))) (ρ1:=[zf (.int c),zf (nd L),zf (.int a),zf (.str (d8 l)),zf (.int (1+r7)),zf (.int r3)]) (by fail "ev") (fun q=> ?_) (fun _=>gj ?_)
  .rw[S2] at q;have e:=of_decide_eq_true q.1;exact ki (pv:= .fz (mD .below)) (ρ1:=[zf (.int c),zf (nd L),zf (.int a),zf (.str (d8 l)),zf (.int (1+r7)),zf (.int r3)]) (show _=Res.ok (PV.fz (.tuple [.str "below"]),_) by fail "ev") rfl ⟨.below,by show(L:Int)≠0;omega,rfl⟩
  refine oP (b:=(decide (1<a)&&decide (r3=3))) (ρ1:=[zf (.int c),zf (nd L),zf (.int a),zf (.str (d8 l)),zf (.int (1+r7)),zf (.int r3)]) (by fail "ev") (fun q=> ?_) (fun _=>gj ?_)
  .rw[S2] at q;have e:=M2 (of_decide_eq_true q.1);exact ki (pv:= .fz (mD (.UZ (1+r7)))) (ρ1:=[zf (.int c),zf (nd L),zf (.int a),zf (.str (d8 l)),zf (.int (1+r7)),zf (.int r3)]) (show _=Res.ok (PV.fz (.tuple [.str "layer",.int (1+r7)]),_) by fail "ev") rfl ⟨.UZ (1+r7),⟨by omega,by omega⟩,rfl⟩
  refine oP (b:=(decide (1<a)&&decide (r3=4))) (ρ1:=[zf (.int c),zf (nd L),zf (.int a),zf (.str (d8 l)),zf (.int (1+r7)),zf (.int r3)]) (by fail "ev") (fun q=> ?_) (fun _=>gj ?_)
  .rw[S2] at q;have e:=M2 (of_decide_eq_true q.1);exact ki (pv:= .fz (mD (.Xh l (1+r7)))) (ρ1:=[zf (.int c),zf (nd L),zf (.int a),zf (.str (d8 l)),zf (.int (1+r7)),zf (.int r3)]) (show _=Res.ok (PV.fz (.tuple [.str "tap",.str (d8 l),.int (1+r7)]),_) by fail "ev") rfl ⟨.Xh l (1+r7),⟨i,by omega,by omega⟩,rfl⟩
  refine oP (b:=(decide (1<a)&&decide (r3=5))) (ρ1:=[zf (.int c),zf (nd L),zf (.int a),zf (.str (d8 l)),zf (.int (1+r7)),zf (.int r3)]) (by fail "ev") (fun q=> ?_) (fun _=>gj ?_)
  .rw[S2] at q;have e:=M2 (of_decide_eq_true q.1);exact ki (pv:= .fz (mD (.once (1+r7)))) (ρ1:=[zf (.int c),zf (nd L),zf (.int a),zf (.str (d8 l)),zf (.int (1+r7)),zf (.int r3)]) (show _=Res.ok (PV.fz (.tuple [.str "once",.int (1+r7)]),_) by fail "ev") rfl ⟨.once (1+r7),⟨by omega,by omega⟩,rfl⟩
  exact fJ (pv:= .fz (mD (.S9 l))) (ρ1:=[zf (.int c),zf (nd L),zf (.int a),zf (.str (d8 l)),zf (.int (1+r7)),zf (.int r3)]) (show _=Res.ok (PV.fz (.tuple [.str "letter",.str (d8 l)]),_) by fail "ev") rfl ⟨.S9 l,i,rfl⟩
 obtain⟨rv,h,m,j,rfl⟩:=f;exact⟨m,j,h⟩
structure CsV (l0:List Mn) (cs:List (List Nat×Nat)):Prop where
 vc:∀c∈cs,VC l0 c
 un:cs.Pairwise fun a c=>a.1≠c.1
theorem CsV.nil (l0:List Mn):CsV l0 []:=⟨fun c a=>(by cases a),Xu⟩
theorem CsV.add {l0:List Mn} {cs:List (List Nat×Nat)} {s:List Nat} {l:Nat} (h:CsV l0 cs) (j:2<=s.length) (f:s.Pairwise (·<·)) (i:∀k∈s,tV l0 k=Si) (g:l<26) (e:s∉cs.map (·.1)):CsV l0 (cs++[(s,l)]):=by
 refine⟨fun c b=>(Tx.mp b).elim (h.vc c) fun z=> ?_,abj.mpr ⟨h.un,Uv _ _,fun a ha c b=> ?_⟩⟩
 .rw[SQ.mp z];exact⟨j,f,i,g⟩
 .rw[SQ.mp b];exact fun z=>e (Ta.mpr ⟨a,ha,z⟩)
theorem NA {l0:List Mn} {k:Nat} (a:k<l0.length):∃d,bj (lH l0) (nd k)=-(d)/\∃w,bj d (.int 0)=-(.str w)/\cY (.str w) (.str "letter")=-(.bool (tV l0 k)):=by
 have b:tV l0 k=l0[k].isL:=by unfold tV;rw[SI a];rfl
 rw[b];exact⟨mD l0[k],NM (by rw[Sx,SI a];rfl),_,oX _,lj _⟩
theorem Pm {n w:Int} {a:List (List Mn)} {l0:List Mn} {cs:List (List Nat×Nat)} (i:1<=n) (h:n<=5) (l:a.length<=3) (e:a[0]? =lD l0) (j:VL n a.length a) (b:CsV l0 cs) (m:cs.length<=4) (g:1<=w) (f:w<=4):VB ⟨n,a,cs,w⟩:=by
 cases a with
 |nil=>cases e
 |cons x r=>cases SM e;exact⟨i,h,by show 1<=r.length+1;omega,l,j,m,b.vc,b.un,g,f⟩
theorem NS (p:List Int):∃b:Bd,(VB b/\b.n<=2/\b.ls.length<=2/\b.wt<=2)/\jS [.list (p.map .int),.int 2]= .ok (.fz (bD b)):=by
 obtain⟨g,e0⟩:=qN p 0 (by decide);have d1:=gv g (s:=1) (m:=2) (by decide) (by decide) (by decide);have b1:=kM (x:=g) (s:=1) (m:=2) (by decide);generalize BN g 1 2=r1 at d1 b1;have d2:=gv g (s:=2) (m:=2) (by decide) (by decide) (by decide);have b2:=kM (x:=g) (s:=2) (m:=2) (by decide);generalize BN g 2 2=r2 at d2 b2;have G:=gv g (s:=23) (m:=2) (by decide) (by decide) (by decide);have b23:=kM (x:=g) (s:=23) (m:=2) (by decide);generalize BN g 23 2=r23 at G b23;have I:=gv g (s:=17) (m:=3) (by decide) (by decide) (by decide);generalize BN g 17 3=r17 at I;have H:=gv g (s:=19) (m:=3) (by decide) (by decide) (by decide);have C:=kM (x:=g) (s:=19) (m:=3) (by decide);generalize BN g 19 3=r19 at H C;obtain⟨E,Y,elc⟩:=zR (z:= "abd") [0,1,3] (by left) (by left) (by decide) C.1 (show r19<3 from C.2);obtain⟨n,hn⟩:∃n:Nat,1+r1=(n:Int):=⟨(1+r1).toNat,by omega⟩;obtain⟨nl,S⟩:∃n:Nat,1+r2=(n:Int):=⟨(1+r2).toNat,by omega⟩;have rgn:my [.int (1+r1)]=lD (bp (S6 n)):=by rw[hn];exact p7 (by omega)
 have rgl:my [.int (1+r2)]=lD (bp (S6 nl)):=by rw[S];exact p7 (by omega)
 have R:∃rv,ic 10 jW [.list (p.map .int),.int 2]= .ok rv/\∃b:Bd,(VB b/\b.n<=2/\b.ls.length<=2/\b.wt<=2)/\rv= .fz (bD b):=by
  refine sM (T:=fun rv=>∃b:Bd,(VB b/\b.n<=2/\b.ls.length<=2/\b.wt<=2)/\rv= .fz (bD b)) (ρ:=[zf (.list (p.map .int)),zf (.int 2),Sg,Sg,Sg,Sg,Sg,Sg,Sg,Sg]) rfl ?_;unfold jW;refine di (ρ3:=[zf (.list (p.map .int)),zf (.int 2),zf (.int g),Sg,Sg,Sg,Sg,Sg,Sg,Sg]) (by fail "ev") rfl rfl ?_;refine di (ρ3:=[zf (.list (p.map .int)),zf (.int 2),zf (.int g),zf (.int (1+r1)),Sg,Sg,Sg,Sg,Sg,Sg]) (by fail "ev") rfl rfl ?_;refine di (ρ3:=[zf (.list (p.map .int)),zf (.int 2),zf (.int g),zf (.int (1+r1)),zf (.int (1+r2)),Sg,Sg,Sg,Sg,Sg]) (by fail "ev") rfl rfl ?_;refine di (ρ3:=[zf (.list (p.map .int)),zf (.int 2),zf (.int g),zf (.int (1+r1)),zf (.int (1+r2)),zo [],Sg,Sg,Sg,Sg]) (by fail "ev") rfl rfl ?_;refine zG (fun i ρ=>∃(e:List (List Mn)) (A v:Option PV),e.length=i/\VL (1+r1) (1+r2) e/\ρ=[zf (.list (p.map .int)),zf (.int 2),zf (.int g),zf (.int (1+r1)),zf (.int (1+r2)),zo (e.map lH),A,v,Sg,Sg]) (ds:=bp (S6 nl)) (ρ1:=[zf (.list (p.map .int)),zf (.int 2),zf (.int g),zf (.int (1+r1)),zf (.int (1+r2)),zo [],Sg,Sg,Sg,Sg]) (by fail "ev") ⟨[],Sg,Sg,rfl,(fun j r h=>by cases h),rfl⟩ ?_ ?_
  .rintro i d ρ hi ⟨e,A,v,M,K,rfl⟩
   obtain⟨L,hL,rfl⟩:=wC hi;obtain⟨rfl,hin⟩:=HK hL;refine⟨[zf (.list (p.map .int)),zf (.int 2),zf (.int g),zf (.int (1+r1)),zf (.int (1+r2)),zo (e.map lH),zf (nd L),v,Sg,Sg],rfl,?_⟩;have mu:i9 (.int (1+r1)) (nd L)=-(.int ((1+r1)*L)):=RG ⟨by omega,by omega⟩;obtain⟨xs,c1,c2,c3⟩:=mM (gt:=gN 0) (ft:=fy) (fe:=fx cF 2 {aa 1,aJ dI (aJ dI (~~~1) (aJ i9 (aa 2) (aa 3))) (aa 0)}) (ds:=bp (S6 n)) (ρ:=[Sg,-(.list (p.map .int)),-(.int (1+r1)),-(nd L)]) (fun ρ=>∃o,ρ=[o,-(.list (p.map .int)),-(.int (1+r1)),-(nd L)]) (fun _ x=>∃a:Int,x= .int a/\True) ⟨Sg,rfl⟩ (by rw[eJ,TR];omega) (by rintro j d u ρ ⟨o,rfl⟩;obtain⟨k,hk,rfl⟩:=wC u;obtain⟨c,ec⟩:=qN p (1+(1+r1)*L+k) (by have:=Int.mul_nonneg (show 0<=1+r1 by omega) (show(0:Int)<=L by omega);omega);refine⟨.int c,_,AD (ρ1:=[-(nd k),-(.list (p.map .int)),-(.int (1+r1)),-(nd L)]) rfl rfl (fF (rv:= .fz (.int c)) (ds:=[.list (p.map .int),.int (1+(1+r1)*L+k)]) (ai (af rfl) (ai (aL (rv:= .fz (.int (1+(1+r1)*L+k))) (aL (rv:= .fz (.int (1+(1+r1)*L))) aD (aL (rv:= .fz (.int ((1+r1)*L))) (af rfl) (af rfl) rfl rfl mu) rfl rfl (jM _ _)) (af rfl) rfl rfl (jM _ _)) aI)) rfl rfl ec) rfl rfl,⟨_,rfl⟩,c,rfl,trivial⟩);obtain⟨cs,rfl,_⟩:=mI (f:=Sk.int) (Q:=fun _ (_:Int)=>True) xs 0 c3;rw[eJ,TR,Sj] at c2;refine di (pv:= .ow (cs.map .int)) (ρ3:=[zf (.list (p.map .int)),zf (.int 2),zf (.int g),zf (.int (1+r1)),zf (.int (1+r2)),zo (e.map lH),zf (nd L),zo (cs.map .int),Sg,Sg]) (d4 (cs:=[.list (p.map .int),.int (1+r1),nd L]) (ds:=bp (S6 n)) (by fail "ev") rfl c1) rfl rfl ?_;obtain⟨ys,c4,c5,c6⟩:=mM (gt:=gN 0) (ft:=fy) (fe:=fx ei 3 {aa 0,aa 1,aa 2}) (ds:=cs.map .int) (ρ:=[Sg,-(nd L),-(.int (1+r2))]) (fun ρ=>∃o,ρ=[o,-(nd L),-(.int (1+r2))]) (fun _ x=>∃a:Mn,x=mD a/\VM L (1+r2) a) ⟨Sg,rfl⟩ (by rw[Sj];omega) (by
    rintro j d u ρ ⟨o,rfl⟩;obtain⟨c,rfl⟩:∃c:Int,d= .int c:=by
     rw[Sx] at u;cases q:cs[j]? with
     |none=>rw[q] at u;cases u
     |some x=>rw[q] at u;exact⟨x,(SM u).symm⟩
    obtain⟨m,N,em⟩:=Ih c L (1+r2) (by omega);exact⟨mD m,_,AD (ρ1:=[-(.int c),-(nd L),-(.int (1+r2))]) rfl rfl (fF (rv:= .fz (mD m)) (ds:=[.int c,nd L,.int (1+r2)]) (ai (af rfl) (ai (af rfl) (ai (af rfl) aI))) rfl rfl em) rfl rfl,⟨_,rfl⟩,m,rfl,N⟩)
   obtain⟨y,rfl,q6⟩:=mI (f:=mD) (Q:=fun _ a=>VM L (1+r2) a) ys 0 c6;rw[Sj,Sj] at c5;have P:pT [.list (y.map mD)]=-(lH y):=rfl;have X:(e.map lH).length<1000000:=by rw[Sj];omega
   refine vf (pv:= .fz .none) (ρ1:=[zf (.list (p.map .int)),zf (.int 2),zf (.int g),zf (.int (1+r1)),zf (.int (1+r2)),zo (e.map lH++[lH y]),zf (nd L),zf (.list (cs.map .int)),Sg,Sg]) (Ff (pa:= .fz (lH y)) (d:=lH y) rfl (fM (rv:= .fz (lH y)) (ds:=[.list (y.map mD)]) (ai (d4 (cs:=[nd L,.int (1+r2)]) (ds:=cs.map .int) (gu (oi rfl) rfl rfl) rfl c4) aI) rfl P) rfl rfl X rfl) ⟨e++[y],_,_,by rw[Su,M];rfl,Kx K (by omega) (fun m hm=> ?_),by rw[S5];rfl⟩;obtain⟨t,ht⟩:=TJ.mp hm;rw[M];exact q6 t m ht
  .rintro ρ ⟨e,A,v,M,K,rfl⟩
   rw[eJ,TR] at M;obtain⟨l0,Z⟩:∃l0,e[0]? =lD l0:=⟨_,SI (show 0<e.length by omega)⟩;have hl0:=(K 0 l0 Z).1;have i0:bj (.list (e.map lH)) (.int 0)=-(lH l0):=Pn (by decide) (by show(e.map lH)[0]? =_;rw[Sx,Z];rfl);have J:kJ (dS (gN 0) (aF (aJ cY (aJ bj (aJ bj (aJ bj (aa 1) (~~~0)) (aa 0)) (~~~0)) (pC (.str "letter")))) (aa 0) (bp (S6 n)) [Sg,-(.list (e.map lH))] [])= .ok (((S6 n).filter (tV l0)).map nd):=pY nd nd (tV l0) (S6 n) (by rw[TR];omega) rfl (fun j u=>by obtain⟨d,e1,w,e2,e3⟩:=NA (l0:=l0) (k:=j) (by have:=U1.mp u;omega);exact bq (aL (aL (aL (aL (rv:= .fz (lH l0)) (af rfl) aD rfl rfl i0) (af rfl) rfl rfl e1) aD rfl rfl e2) aD rfl rfl e3) rfl) fun j _ _=>af rfl;have sp:((S6 n).filter (tV l0)).Pairwise (·<·):=afg _ aaE;have sm:∀j∈(S6 n).filter (tV l0),tV l0 j=Si:=fun j u=>(T6.mp u).2;have sl:((S6 n).filter (tV l0)).length<=2:=by have:=Wc (tV l0) (S6 n);rw[TR] at this;omega
   generalize (S6 n).filter (tV l0)=s at J sp sm sl;have O:pT [.list (s.map nd)]=-(.tuple (bp s)):=rfl;refine di (ρ3:=[zf (.list (p.map .int)),zf (.int 2),zf (.int g),zf (.int (1+r1)),zf (.int (1+r2)),zf (.list (e.map lH)),A,v,zf (.tuple (bp s)),Sg]) (fM (rv:= .fz (.tuple (bp s))) (ds:=[.list (s.map nd)]) (ai (d4 (cs:=[.list (e.map lH)]) (ds:=bp (S6 n)) (by fail "ev") rfl J) aI) rfl O) rfl rfl ?_;refine di (ρ3:=[zf (.list (p.map .int)),zf (.int 2),zf (.int g),zf (.int (1+r1)),zf (.int (1+r2)),zf (.list (e.map lH)),A,v,zf (.tuple (bp s)),zf (.tuple [])]) (cA (ds:=[]) aI rfl (Sm rfl)) rfl rfl ?_;have F:∀cs:List (List Nat×Nat),CsV l0 cs->cs.length<=4->Go (eO (bB {aa 3,iB pT {aa 5},aa 9,aJ dI (~~~1) (fx bh 3 {aa 2,~~~23,~~~2})}) [zf (.list (p.map .int)),zf (.int 2),zf (.int g),zf (.int (1+r1)),zf (.int (1+r2)),zf (.list (e.map lH)),A,v,zf (.tuple (bp s)),zf (.tuple (cs.map gB))]) (fun _=>∃b:Bd,(VB b/\b.n<=2/\b.ls.length<=2/\b.wt<=2)/\RV.fz .none= .fz (bD b)) (fun _=>False) (fun rv=>∃b:Bd,(VB b/\b.n<=2/\b.ls.length<=2/\b.wt<=2)/\rv= .fz (bD b)):=fun cs N v2=>by have P:pT [.list (e.map lH)]=-(.tuple (e.map lH)):=rfl;exact fJ (pv:= .fz (bD ⟨1+r1,e,cs,1+r23⟩)) (rv:= .fz (bD ⟨1+r1,e,cs,1+r23⟩)) (cA (ds:=[.int (1+r1),.tuple (e.map lH),.tuple (cs.map gB),.int (1+r23)]) (ai (af rfl) (ai (fM (rv:= .fz (.tuple (e.map lH))) (ds:=[.list (e.map lH)]) (ai (af rfl) aI) rfl P) (ai (af rfl) (ai (aL (rv:= .fz (.int (1+r23))) aD (fF (rv:= .fz (.int r23)) (ds:=[.int g,.int 23,.int 2]) (ai (af rfl) (ai aD (ai aD aI))) rfl rfl G) rfl rfl (jM _ _)) aI)))) rfl (Sm rfl)) rfl ⟨⟨1+r1,e,cs,1+r23⟩,⟨Pm (by omega) (by omega) (by omega) Z (by rw[show((e.length:Nat):Int)=1+r2 by omega];exact K) N v2 (by omega) (by omega),by show 1+r1<=2;omega,by show e.length<=2;omega,by show 1+r23<=2;omega⟩,rfl⟩
   have U:eU [.tuple (bp s)]=-(nd s.length):=(km _).trans (by rw[eJ]);refine oP (b:=decide ((1:Int)<s.length)&&decide (0<r17)) (qH (bq (aL (rv:= .fz (.bool (decide ((1:Int)<s.length)))) (fM (rv:= .fz (nd s.length)) (ai (af rfl) aI) rfl U) aD rfl rfl (C6 _ _)) rfl) fun _=>bq (aL (rv:= .fz (.bool (decide (0<r17)))) (fF (rv:= .fz (.int r17)) (ds:=[.int g,.int 17,.int 3]) (ai (af rfl) (ai aD (ai aD aI))) rfl rfl I) aD rfl rfl (C6 _ _)) rfl) (fun q=> ?_) (fun _=>gj (F [] (CsV.nil _) (Th _)));rw[S2] at q;have q1:=of_decide_eq_true q.1;have s2:s.length=2:=by omega
   have cut:QZ (.tuple (bp s)) Sg (lD 2)=-(.tuple (bp s)):=by show lD (RV.fz (.tuple (oB (bp s) Sg (lD ((2:Nat):Int)))))=_;unfold oB;rw[HT.sIx_nat,HT.sIx_none,eJ,s2,Nat.min_self,ZI,aaO,Xp (by rw[eJ,s2];exact Sw _)]
   refine di (ρ3:=[zf (.list (p.map .int)),zf (.int 2),zf (.int g),zf (.int (1+r1)),zf (.int (1+r2)),zf (.list (e.map lH)),A,v,zf (.tuple (bp s)),zf (.tuple ([(s,E)].map gB))]) (cA (ds:=[gB (s,E)]) (ai (cA (ds:=[.tuple (bp s),.str (d8 E)]) (ai (Cm (rv:= .fz (.tuple (bp s))) (af rfl) sK (kB aD rfl) rfl cut) (ai (aL (rv:= .fz (.str (d8 E))) aD (fF (rv:= .fz (.int r19)) (ds:=[.int g,.int 19,.int 3]) (ai (af rfl) (ai aD (ai aD aI))) rfl rfl H) rfl rfl elc) aI)) rfl (Sm rfl)) aI) rfl (Sm rfl)) rfl rfl ?_;exact F [(s,E)] (by have:=(CsV.nil l0).add (s:=s) (l:=E) (by omega) sp sm Y (fun z=>by cases z);exact this) (by show 1<=4;decide)
 obtain⟨rv,h,b,B,rfl⟩:=R;exact⟨b,B,h⟩
theorem IP (b:List Int):∃w:List Nat,(∀c∈w,c<26)/\w.length<=3/\iL [.list (b.map .int)]= .ok (.fz (.str (eD w))):=by
 obtain⟨g,O⟩:=qN b 9 (by decide);have E:=gv g (s:=131) (m:=4) (by decide) (by decide) (by decide);have L:=kM (x:=g) (s:=131) (m:=4) (by decide);generalize BN g 131 4=r at E L;obtain⟨n,hn⟩:∃n:Nat,r=(n:Int):=⟨r.toNat,by omega⟩;have M:my [.int r]=lD (bp (S6 n)):=by rw[hn];exact p7 (by omega)
 obtain⟨xs,K,J,I⟩:=mM (gt:=gN 0) (ft:=fy) (fe:=fx bh 3 {fx cF 2 {aa 1,aJ dI (~~~10) (aa 0)},~~~127,~~~7}) (ds:=bp (S6 n)) (ρ:=[Sg,-(.list (b.map .int))]) (fun ρ=>∃o,ρ=[o,-(.list (b.map .int))]) (fun _ x=>∃a:Int,x= .int a/\(0<=a/\a<7)) ⟨Sg,rfl⟩ (by rw[eJ,TR];omega) (by rintro j d e ρ ⟨o,rfl⟩;obtain⟨k,N,rfl⟩:=wC e;obtain⟨c,p⟩:=qN b (10+k) (by omega);have dd:=gv c (s:=127) (m:=7) (by decide) (by decide) (by decide);have v:=kM (x:=c) (s:=127) (m:=7) (by decide);generalize BN c 127 7=a at dd v;exact⟨.int a,_,AD (ρ1:=[-(nd k),-(.list (b.map .int))]) rfl rfl (fF (rv:= .fz (.int a)) (ds:=[.int c,.int 127,.int 7]) (ai (fF (rv:= .fz (.int c)) (ds:=[.list (b.map .int),.int (10+k)]) (ai (af rfl) (ai (aL (rv:= .fz (.int (10+k))) aD (af rfl) rfl rfl (jM _ _)) aI)) rfl rfl p) (ai aD (ai aD aI))) rfl rfl dd) rfl rfl,⟨_,rfl⟩,a,rfl,v⟩);obtain⟨cs,rfl,q⟩:=mI (f:=Sk.int) (Q:=fun _ (a:Int)=>0<=a/\a<7) xs 0 I;rw[eJ,TR,Sj] at J;obtain⟨y,H,G,F⟩:=mM (gt:=gN 0) (ft:=fy) (fe:=aJ L3.j8 (pC (.str "aabbcdz")) (aa 0)) (ds:=cs.map .int) (ρ:=[Sg]) (fun ρ=>∃o,ρ=[o]) (fun _ x=>∃a:Nat,x= .str (d8 a)/\a<26) ⟨Sg,rfl⟩ (by rw[Sj];omega) (by
  rintro j d e ρ ⟨o,rfl⟩;rw[Sx] at e;cases z:cs[j]? with
  |none=>rw[z] at e;cases e
  |some a=>rw[z] at e;cases SM e;have u:=q j a z;obtain⟨c,l,p⟩:=zR (z:= "aabbcdz") [0,0,1,1,2,3,25] (by left) (by left) (by decide) u.1 (show a<7 from u.2);exact⟨.str (d8 c),_,AD (ρ1:=[-(.int a)]) rfl rfl (aL (rv:= .fz (.str (d8 c))) aD (af rfl) rfl rfl p) rfl rfl,⟨_,rfl⟩,c,rfl,l⟩)
 obtain⟨w,rfl,A⟩:=mI (f:=fun c=>Sk.str (d8 c)) (Q:=fun _ (a:Nat)=>a<26) y 0 F;rw[Sj,Sj] at G;have B:=vD (w:=w) (by omega);refine⟨w,fun c l=> ?_,by omega,?_⟩
 .obtain⟨t,C⟩:=TJ.mp l;exact A t c C
 have i:∃rv,ic 3 iC [.list (b.map .int)]= .ok rv/\rv= .fz (.str (eD w)):=by refine sM (T:=fun rv=>rv= .fz (.str (eD w))) (ρ:=[zf (.list (b.map .int)),Sg,Sg]) rfl ?_;unfold iC;refine di (ρ3:=[zf (.list (b.map .int)),zf (.int g),Sg]) (by fail "ev") rfl rfl ?_;refine di (pv:= .ow (cs.map .int)) (ρ3:=[zf (.list (b.map .int)),zf (.int g),zo (cs.map .int)]) (d4 (cs:=[.list (b.map .int)]) (ds:=bp (S6 n)) (by fail "ev") rfl K) rfl rfl ?_;exact fJ (rv:= .fz (.str (eD w))) (Es (rv:= .fz (.str (eD w))) aD rfl (ai (d4 (cs:=[]) (ds:=cs.map .int) (gu (oi rfl) rfl rfl) rfl H) aI) rfl B) rfl rfl
 obtain⟨rv,h,rfl⟩:=i;exact h
theorem AM {b:Bd} (g:VB b) {n:Nat} (hn:b.n=n) (j:n<=5) {w:List Nat} (i:∀c∈w,c<26) (f:w.length<=3) {fs:List Te} (e:BT b w (tD n) fs fs.length) (t:fs.length<=400) (Z:aV):ci [.fz (bD b),.fz (.str (eD w)),.fz (.int ((fs.length:Int) - 1))] Z= .ok (.fz (.bool Si)) Z:=by
 have p:=(Sl.mp e.z).1;obtain⟨o,h⟩:∃o,df [.fz (bD b),.fz (.str (eD w)),.fz (.int ((fs.length:Int) - 1))] []= .er (TM ((fs.length:Int) - 1)) o:=by have ty:=nz (oy g hn j i f (m:=(fs.length:Int) - 1) (by omega) (by omega) []) (T':=fun _ _=>False) (X':=fun x=>x=TM ((fs.length:Int) - 1)) (fun a o ⟨r,l,q,_⟩=>by have:=e.one l;omega) (fun x h=>h.1);obtain⟨x,o,h,rfl⟩:=ty.er;exact⟨o,h⟩
 unfold ci;dsimp only;rw[h];unfold TM;dsimp only;rw[if_pos rfl,if_pos ⟨rfl,rfl⟩]
theorem FZ {b:Bd} {w:List Nat} {p:TP} (a:TW b w p):jv (kT p)=Si:=by
 obtain⟨_,e⟩:=Et a.1;refine sJ ?_ ?_
 .show(Sk.canLay0 (dr p.1)&&(Si&&Si))=Si;rw[oM (GU a.1)];rfl
 .show max (Sk.depth (dr p.1)) (max 0 0)+1<=64;omega
theorem O9 {b:Bd} {w:List Nat} {p q:TP} (e:TW b w p) (a:TW b w q):cY (kT p) (kT q)=-(.bool (Sk.eqv (kT p) (kT q))):=by unfold cY;rw[FZ e,oM (FZ a),T7,if_pos rfl]
theorem Er {b:Bd} {w:List Nat} {es:List Wn} (B:TC b w es) {p q:TP} (e:TW b w p) (a:TW b w q):Sk.eqv (kT p) (kT q)=Si↔p=q:=
 ⟨fun h=>zu B e a (LD.kd_eqv _ _ (LD.keyD_kd (gL e)).1 (LD.keyD_kd (gL a)).1 h),fun h=>by rw[h];exact qJ (gL a)⟩
theorem L8 (q:Te):OS (D9 q) Sg (lD 2)=-(kT q.p):=rfl
theorem Gy (Z:aV):∀ds:List D,aC (tS 5 Z) (ds.map .fz)=lD ds
 |[]=>rfl
 |d::r=>by unfold ajk aC;rw[show tS 5 Z (.fz d)=lD d from rfl,Gy Z r]
theorem CN (a:List Nat):jv (.list (bp a))=Si:=sJ (gW a) (by show Sk.depthAll (bp a)+1<=64;rw[jB];decide)
abbrev EM (a:List Int) (b:Bd) (w:List Nat) (fs:List Te) (r:bf):bf:=-(.list (a.map .int))::-(bD b)::-(.str (eD w))::-(.list (fs.map D9))::r
theorem main (f:List Int) (hns:f.length<=63):L10.Pz F_law [.list (f.map .int)]= .ok (.fz (.bool Si)):=by
 obtain⟨b,⟨F,n2,l2,w2⟩,e0⟩:=NS f;obtain⟨w,I,H,e1⟩:=IP f;obtain⟨n,hn⟩:∃n:Nat,b.n=n:=⟨b.n.toNat,by have:=F.n1;omega⟩;have U:n<=5:=by omega
 have B:TC b w (tD n):=⟨F,zL hn,I,H⟩;have few:∀x,¬Qm b w (tD n) 400 x:=fun x ⟨_,l,M,h2,h3⟩=>by have:=Qb B n2 l2 w2 M h2;omega
 have tt:TW b w (bz,w.length):=⟨gX b,Sw _⟩;have key:Out (F_law [.fz (.list (f.map .int))] []) (fun x _=>x= .fz (.bool Si)) (fun _=>False):=by
  refine rN rfl ?_;unfold FJ;refine dX (ρ1:=[-(.list (f.map .int)),-(bD b),Sg,Sg,Sg,Sg,Sg]) (ag (fF (ai (af rfl) (ai aD aI)) rfl rfl e0)) rfl ?_;refine dX (ρ1:=[-(.list (f.map .int)),-(bD b),-(.str (eD w)),Sg,Sg,Sg,Sg]) (ag (fF (ai (af rfl) aI) rfl rfl e1)) rfl ?_;obtain⟨v,Z1,M,fs,i,A,fl,rfl,hi⟩:=(nz (zV F hn U I H (m:=400) (by decide) (by decide) []) (X':=fun _=>False) (fun a o h=>h) few).all;have f1:frz 4 Z1 (.rf i)=lD (.list (fs.map D9),Z1.set i .dead):=jO hi;refine dX (ρ1:=(EM f b w fs [Sg,Sg,Sg])) (mh (oJ (xs:=[.fz (bD b),.fz (.str (eD w))]) (aq (ag (af rfl)) (aq (ag (af rfl)) aO)) rfl M) f1) rfl ?_;generalize Z1.set i .dead=Z2;have l1:=(Sl.mp A.z).1;have ln:eU [.list (fs.map D9)]=-(nd fs.length):=(gz _).trans (by rw[Sj]);obtain⟨v,X,h2,J,O,gl,T⟩:=(nz (oy F hn U I H (m:=(fs.length:Int)) (by omega) (by omega) Z2) (X':=fun _=>False) (fun a o h=>h) (fun x ⟨_,l,S,Q,a3⟩=>by have:=A.len S Q;omega)).all;refine dX (ρ1:=(EM f b w fs [lD v,Sg,Sg])) (oJ (xs:=[.fz (bD b),.fz (.str (eD w)),.fz (nd fs.length)]) (aq (ag (af rfl)) (aq (ag (af rfl)) (aq (ag (fM (rv:= .fz (nd fs.length)) (ai (af rfl) aI) rfl ln)) aO))) rfl h2) rfl ?_;have rf:=AM F hn U I H A (by omega) X;refine vj (mQ (aZ (Ka (xs:=[.fz (bD b),.fz (.str (eD w)),.fz (.int ((fs.length:Int) - 1))]) (aq (ag (af rfl)) (aq (ag (af rfl)) (aq (ag (aL (rv:= .fz (.int ((fs.length:Int) - 1))) (fM (rv:= .fz (nd fs.length)) (ai (af rfl) aI) rfl ln) aD rfl rfl (vG _ _))) aO))) rfl rf))) (pV ?_);have lw:=zK (w:=w) (by omega);have N:kJ (dS (gN 0) (aF (aJ cY (Lm OS (aa 0) uI (ng (~~~2))) (bB {bB {bB aw,pC .none,pC .none},iB zM {aa 1}}))) (aJ bj (aa 0) (~~~2)) (fs.map D9) [Sg,-(.str (eD w))] [])= .ok ((fs.filter fun q=>Sk.eqv (kT q.p) (kT (bz,w.length))).map fun q=>nd q.d):=pY D9 (fun q=>nd q.d) (fun q=>Sk.eqv (kT q.p) (kT (bz,w.length))) fs (by omega) rfl (fun q u=>bq (aL (rv:= .fz (.bool (Sk.eqv (kT q.p) (kT (bz,w.length))))) (Cm (rv:= .fz (kT q.p)) (af rfl) sK (kB aD rfl) rfl (L8 q)) (cA (ds:=[dr bz,nd w.length]) (ai (cA (ds:=[.tuple [],.none,.none]) (ai (cA aI rfl (Sm rfl)) (ai aD (ai aD aI))) rfl (Sm rfl)) (ai (fM (rv:= .fz (nd w.length)) (ai (af rfl) aI) rfl lw) aI)) rfl (Sm rfl)) rfl rfl (O9 (B.rw (A.rw q u)) tt)) rfl) fun q _ _=>aL (rv:= .fz (nd q.d)) (af rfl) aD rfl rfl pI;have L:∀q∈fs,q.p=(bz,w.length)->q∈fs.filter fun q=>Sk.eqv (kT q.p) (kT (bz,w.length)):=fun q u e=>T6.mpr ⟨u,(Er B (B.rw (A.rw q u)) tt).mpr e⟩;have K:∀q∈fs.filter fun q=>Sk.eqv (kT q.p) (kT (bz,w.length)),q∈fs/\q.p=(bz,w.length):=fun q u=>⟨(T6.mp u).1,(Er B (B.rw (A.rw q (T6.mp u).1)) tt).mp (T6.mp u).2⟩;generalize (fs.filter fun q=>Sk.eqv (kT q.p) (kT (bz,w.length)))=G at N L K;refine dX (ρ1:=(EM f b w fs [lD v,-(.list (bp (G.map (·.d)))),Sg])) (mh (ef (ds:=bp (G.map (·.d))) (d4 (cs:=[.str (eD w)]) (ds:=fs.map D9) (gu (d:= .list (fs.map D9)) (af rfl) rfl rfl) rfl (N.trans (by unfold bp;rw[Tr];rfl)))) (by rw[jO bc,fK])) rfl ?_;have c5:∀{P:List D} {r:Bool} {Z:aV},cY (.list P) (.list [])=-(.bool r)->bO (aF (aJ cY (aa 5) (dU aw))) ((EM f b w fs [lD v,-(.list P),Sg])) Z= .ok r Z:=fun h=>bH (bq (aL (rv:= .fz (.bool _)) (af rfl) (nY (ds:=[]) aI rfl (Sm rfl)) rfl rfl h) rfl);cases G with
  |nil=>
   refine FL (c5 (STP.qk (CN []))) (Ce (Z1:=X++[.dead]) ?_ rfl);rcases T with⟨rfl,_⟩|⟨j,t,q,rfl,_,u,hp,_⟩
   .exact cW (bv rfl) (ag aD) (cr rfl)
   .obtain⟨r,r1,r2,_⟩:=A.all (Sw _) q.d q.p (O.rw q u);exact absurd (L r r1 (r2.trans hp)) (by intro z;cases z)
  |cons g R=>
   obtain⟨gm,gp⟩:=K g Sv;have ne5:cY (.list (bp ((g::R).map (·.d)))) (.list [])=-(.bool Sq):=by unfold cY;rw[CN,show Sk.canLay0 (.list [])=Si from rfl,T7,if_pos rfl];rfl
   refine vj (c5 ne5) (pV ?_);have i5:bj (.list (bp ((g::R).map (·.d)))) (.int 0)=-(nd g.d):=Pn (by decide) rfl;generalize bp ((g::R).map (·.d))=P at i5;have gd:g.d<=1000:=by
    have:∀(k:Nat) (q:Te),fs[k]? =lD q->q.d<=k:=by
     intro k
     induction k using Nat.strongRecOn with
     |_ k ih=>
      intro q u;by_cases k0:k=0
      .subst k0;rw[A.z] at u;cases u;exact Sw _
      .obtain⟨j,r,S,Q,_,a4,_⟩:=A.bk k q u (by omega);have:=ih j S r Q;omega
    obtain⟨k,hk⟩:=TJ.mp gm;have:=this k g hk;have:=(Sl.mp hk).1;omega
   have E:∀{J:List Te} {v:SV} {Z:aV},BT b w (tD n) J J.length->((v= .fz .none/\∀q∈J,q.p≠(bz,w.length))\/∃(i:Nat) (t:List Wn) (q:Te),v= .rf i/\Z[i]? =lD (.lst ((t.map cI).map .fz))/\q∈J/\q.p=(bz,w.length)/\t.length=q.d/\(∀e∈t,e∈tD n)/\FT b w Ea t q.p)->∃(i:Nat) (t:List Wn),v= .rf i/\Z[i]? =lD (.lst ((t.map cI).map .fz))/\t.length=g.d/\dD [bD b,.str (eD w),.list (t.map cI)]= .ok (.fz (.bool Si)):=fun{J v Z} O T=>by
    rcases T with⟨_,h⟩|⟨i,t,q,S,Q,a3,a4,a5,a6,a7⟩
    .obtain⟨r,r1,r2,_⟩:=O.all (Sw _) g.d g.p (A.rw g gm);exact absurd (r2.trans gp) (h r r1)
    .have dd:=A.afG O gm a3 (gp.trans a4.symm);rw[a4] at a7;exact⟨i,t,S,Q,by omega,Fv F I H (by omega) (fun e he=>B.eb e (a6 e he)) a7⟩
   obtain⟨j,t,rfl,hj,el,ty⟩:=E O T;have jl:=(Sl.mp hj).1;have y:(X++[Cell.dead])[j]? =lD (.lst ((t.map cI).map .fz)):=(SG jl).trans hj;generalize X++[Cell.dead]=Z4 at y;have c6:bJ (kZ mw (ar 4) (ae (pC .none))) (EM f b w fs [lD (.rf j),-(.list P),Sg]) Z4= .ok Sq Z4:=aZ (cW (bv rfl) (ag aD) (vK (gI y) rfl rfl));have rd:tS 6 Z4 (.rf j)=lD (.list (t.map cI)):=by show(match Z4[j]? with|some (.lst xs)=>(aC (tS 5 Z4) xs).map Sk.list|_=>Sg)=_;rw[y];show(aC (tS 5 Z4) ((t.map cI).map .fz)).map Sk.list=_;rw[Gy];rfl
   have c7:ri (bJ (GH dD 3 (aj (ae (aa 1)) (aj (ae (aa 2)) (aj (ar 4) aQ))))) ((EM f b w fs [lD (.rf j),-(.list P),Sg])) Z4= .ok Sq Z4:=mQ (aZ (KP (ds:=[bD b,.str (eD w),.list (t.map cI)]) (aq (ag (af rfl)) (aq (ag (af rfl)) (aq (bv rfl) aO))) (by unfold aC aC aC aC;rw[rd];rfl) rfl ty rfl));have le:eU [.list (t.map cI)]=-(nd g.d):=(gz _).trans (by rw[Sj,el]);have c8:bJ (kZ oY (GR eU (aj (ar 4) aQ)) (ae (aJ bj (aa 5) (~~~0)))) (EM f b w fs [lD (.rf j),-(.list P),Sg]) Z4= .ok Sq Z4:=aZ (cW (Bl (d:=nd g.d) (aq (bv rfl) aO) (by unfold aC;rw[gI y];rfl) le) (ag (d:=nd g.d) (aL (rv:= .fz (nd g.d)) (af rfl) aD rfl rfl i5)) (cr (STP.CB rfl)));refine vj (jh c6 (jh c7 c8)) (pV ?_);refine A8 (gw (ml (x:= .fz .none) (bv rfl) y (ag aD) y (by rw[Sj,Sj];omega))) ?_;generalize Z4.set j _=Z5;obtain⟨v,Z7,h3,gs',bg',gl',hv'⟩:=(nz (oy F hn U I H (m:=400) (by decide) (by decide) Z5) (X':=fun _=>False) (fun a o h=>h) few).all;obtain⟨j',C,rfl,hj7,el',Y⟩:=E bg' hv';have f2:frz 4 Z7 (.rf j')=lD (.list (C.map cI),Z7.set j' .dead):=jO hj7;have le':eU [.list (C.map cI)]=-(nd g.d):=(gz _).trans (by rw[Sj,el']);refine dX (ρ1:=(EM f b w fs [lD (.rf j),-(.list P),-(.list (C.map cI))])) (mh (oJ (xs:=[.fz (bD b),.fz (.str (eD w))]) (aq (ag (af rfl)) (aq (ag (af rfl)) aO)) rfl h3) f2) rfl ?_;exact oE (ag (pZ (a:=Si) (b:=Si) (bq (fF (rv:= .fz (.bool Si)) (ai (af rfl) (ai (af rfl) (ai (af rfl) aI))) rfl rfl Y) rfl) fun _=>aL (rv:= .fz (.bool Si)) (fM (rv:= .fz (nd g.d)) (ds:=[.list (C.map cI)]) (ai (af rfl) aI) rfl le') (aL (rv:= .fz (nd g.d)) (af rfl) aD rfl rfl i5) rfl rfl (STP.qk rfl))) rfl
 obtain⟨x,Z',M,rfl⟩:=key.all;unfold L10.Pz;rw[show[Sk.list (f.map .int)].map SV.fz=[.fz (.list (f.map .int))] from rfl,M]
end K72
local macro_rules| `(tactic|fail "sc")=> `(tactic|exact⟨rfl,rfl,rfl,by left,rfl,by left,by left⟩)| `(tactic|fail "me")=> `(tactic|first
 |exact .head _
 |(apply List.Mem.tail;fail "me"))
local macro_rules| `(tactic|fail "cm")=> `(tactic|first
 |change L3.jx
 |change L3.Ma
 |change L3.zF
 |change L3.MG
 |change L3.ML
 |change L3.Gq
 |change L3.vO
 |change L3.Ie
 |change L3.CO
 |change L3.u6)
local macro_rules| `(tactic|fail "sp")=> `(tactic|first
 |fail "cm"
 |change L3.cD
 |change L3.mF
 |change L3.IG
 |change L3.ve
 |change L3.xH
 |change L3.Iy
 |change L3.Jl
 |change L3.ky
 |change L3.mV
 |change L3.KL
 |change L3.ur
 |change L3.Hs
 |change L3.KN
 |change L3.wc
 |change L3.qA
 |change L3.Ig
 |change L3.Ql
 |change L3.qK
 |change L9.AG
 |change L10.BW
 |change L3.ve)
local macro_rules| `(tactic|fail "eo")=> `(tactic|first
 |change L3.ao
 |change L3.bE
 |(exists L3.bT);(·fail "sp");(·fail "eo");(·fail "eo")
 |change L3.ii
 |(exists L3.kR);(·fail "ao")
 |(exists L3.kr);(·fail "sp");(·fail "ao")
 |(exists L3.fT);(·fail "ao")
 |(exists L3.lZ);(·fail "ao")
 |(exists L3.Hr);(·fail "eo")
 |change L3.gH
 |change L3.P2
 |(exists L3.Ll);(·fail "tt");(·fail "eo");(·fail "eo")
 |(exists L3.LS);(·fail "sp");(·fail "eo");(·fail "oo");(·fail "oo")
 |(exists L3.yT);(·fail "sp");(·fail "sp");(·fail "eo");(·fail "eo");(·fail "eo")
 |(exists L3.Og);(·simp);(·fail "eo")
 |(exists L3.GS);(·fail "eo");(·fail "eo")
 |(exists L10.G5);(·fail "eo")
 |(exists L3.Ad);(·assumption))
local macro_rules| `(tactic|fail "ao")=> `(tactic|first
 |(exists L3.aA);(·fail "eo");(·fail "ao")
 |change L3.aX)
local macro_rules| `(tactic|fail "tt")=> `(tactic|first
 |(exists L3.dL);(exists L3.bT);(·fail "cm");(·fail "eo");(·fail "eo")
 |(exists L3.dL);(exists L3.yT);(·fail "cm");(·fail "cm");(·fail "eo");(·fail "eo");(·fail "eo")
 |(exists L3.J8);(·fail "tt");(·fail "tt")
 |(exists L3.N8);(·fail "tt");(·fail "tt")
 |(exists L3.Jd);(·fail "tt")
 |(exists L3.Ln);(·fail "eo")
 |change L3.fS)
local macro_rules| `(tactic|fail "gg")=> `(tactic|first
 |change L3.bw
 |(exists L3.jT);(·fail "gg");(·fail "gg")
 |change L3.u8
 |(exists L3.v5);(·fail "gg")
 |change L10.bK
 |(exists L10.mG);(·fail "gg");(·fail "gg")
 |change L10.A2
 |(exists L10.BQ);(·fail "gg"))
local macro_rules| `(tactic|fail "io")=> `(tactic|first
 |(exists L3.jK);(·fail "ao")
 |(exists L3.gD);(·fail "eo")
 |(exists L3.Nh);(·fail "ao")
 |(exists L10.yd);(·fail "io")
 |(exists L10.qC);(·fail "es"))
local macro_rules| `(tactic|fail "oo")=> `(tactic|first
 |(exists L3.yo);(·fail "eo")
 |change L3.yI)
local macro_rules| `(tactic|fail "es")=> `(tactic|first
 |(exists L10.au);(·fail "eo")
 |change L10.a8
 |(exists L10.yM);(·fail "es");(·fail "es")
 |(exists L10.jH);(·fail "sp");(·fail "es");(·fail "es")
 |(exists L10.b8);(·assumption);(·fail "me");(·fail "es")
 |(exists L10.Dh);(·fail "as")
 |(exists L10.t8);(·fail "as")
 |(exists L10.BO);(·fail "as")
 |(exists L10.qE);(·fail "es");(·fail "es")
 |(exists L10.u9);(·fail "as")
 |(exists L10.sY);(·fail "es");(·fail "es")
 |(exists L10.wE);(·assumption);(·fail "es");(·fail "as")
 |(exists L10.yk);(·fail "es")
 |(exists L10.yS);(·fail "es")
 |(exists L10.FY);(·fail "es");(·fail "es")
 |(exists L10.HZ);(·fail "es");(·fail "es")
 |(exists L10.sB);(·fail "sp");(·fail "as")
 |(exists L10.lx);(·fail "es")
 |(exists L10.CQ);(·fail "es");(·fail "es")
 |(exists L10.ED);(·fail "as")
 |(exists L10.Eo);(·fail "ts");(·fail "es");(·fail "es")
 |(exists L10.J4);(·assumption);(·fail "as")
 |(exists L10.GM);(·fail "es"))
local macro_rules| `(tactic|fail "as")=> `(tactic|first
 |(exists L10.aN);(·fail "es");(·fail "as")
 |change L10.cC)
local macro_rules| `(tactic|fail "ts")=> `(tactic|first
 |(exists L10.jr);(exists L10.jH);(·fail "cm");(·fail "es");(·fail "es")
 |(exists L10.rY);(·fail "tt")
 |(exists L10.IR);(·fail "ts");(·fail "ts")
 |(exists L10.MW);(·fail "ts");(·fail "ts")
 |(exists L10.JX);(·fail "ts")
 |(exists L10.EA);(·fail "es"))
local macro_rules| `(tactic|fail "so")=> `(tactic|first
 |(exists L3.cj);(·fail "so");(·fail "so")
 |(exists L3.i4);(·fail "eo");(·fail "gg")
 |(exists L3.PY);(·fail "tt");(·fail "so");(·fail "so")
 |(exists L3.jR);(·fail "eo")
 |(exists L3.wq);(·fail "eo")
 |change L3.J7
 |(exists L3.z8);(·fail "io");(·fail "gg");(·fail "so")
 |(exists L10.aM);(·fail "so");(·fail "so")
 |(exists L10.dc);(·fail "es");(·fail "gg")
 |(exists L10.on);(·fail "ts");(·fail "so");(·fail "so")
 |(exists L10.iu);(·fail "es")
 |(exists L10.gx);(·fail "es")
 |(exists L10.Gn);(·fail "es");(·fail "es");(·fail "es")
 |(exists L10.k7);(·assumption);(·fail "me");(·fail "es");(·fail "es")
 |change L10.jj
 |(exists L10.wM);(·fail "io");(·fail "gg");(·fail "so")
 |(exists L10.uP);(·fail "ts");(·fail "so")
 |change L10.G4)
local macro_rules| `(tactic|fail "to")=> `(tactic|first
 |exact L2.b6
 |exact L2.jC (by assumption)
 |exact L2.N4 (by assumption)
 |exact L3.vx (by assumption)
 |exact L3.KK (by assumption)
 |exact L9.vq
 |exact L3.mO
 |exact L3.IJ
 |exact L3.MZ
 |exact L2.uR
 |exact L2.M7
 |exact L2.P7
 |exact L2.Fw
 |exact L3.Cy
 |exact L2.Np
 |exact L2.HL
 |exact L2.Hc
 |exact L2.v9
 |exact L2.PF
 |exact L2.LY
 |exact L2.eV
 |exact L2.gr
 |exact L2.v8
 |exact L3.DF
 |exact L2.g9
 |exact L10.ud
 |exact L3.zE
 |exact L2.Bc
 |exact adP
 |exact L2.lS
 |exact L2.p9
 |exact L2.AC
 |exact L2.LF
 |exact L2.xJ
 |exact L2.LV
 |exact L10.OE
 |exact L2.wk
 |change Ut
 |change UN
 |change UO
 |change PySem.F.slot_list_insert
 |change PySem.F.type_list_insert
 |change Zu
 |change Zv
 |change WX
 |change WI
 |change Zw
 |exact L2.C9 rfl
 |exact L3.yJ rfl
 |exact L10.su rfl
 |exact L10.rJ rfl
 |exact L10.Af rfl
 |rfl)
local macro_rules| `(tactic|fail "pe")=> `(tactic|first
 |(exists L2.pv);(·rfl);(·(first|exact Or.inl rfl|exact Or.inr (Or.inl rfl)|exact Or.inr (Or.inr rfl)));(·decide);(·decide)
 |change L2.bC
 |(exists L2.cX);(·fail "to");(·fail "pe");(·fail "pe");(·exact fun _ _=>rfl)
 |change L2.hW
 |(exists L2.tW);(·fail "to");(·fail "pe");(·fail "pe")
 |(exists L2.BF);(·assumption);(·fail "pe");(·fail "pe");(·exact fun _ _=>rfl)
 |(exists L2.iZ);(·assumption);(·assumption);(·fail "pa");(·decide);(·rfl);(·decide);(·rfl);(·rfl)
 |(exists L2.eK);(·fail "pa")
 |change L2.gJ
 |(exists L2.mj);(·fail "pa")
 |(exists L2.dR);(·fail "to");(·rfl);(·assumption);(·fail "to");(·fail "pa");(·decide);(·decide);(·rfl);(·rfl)
 |(exists L2.jb);(·fail "to");(·rfl);(·assumption);(·fail "to");(·fail "pa");(·decide);(·decide);(·rfl);(·rfl)
 |(exists L2.wR);(·rfl);(·assumption);(·(first|rfl|exact⟨_,rfl⟩));(·decide)
 |change L2.KS
 |(exists L2.iK);(·fail "to");(·fail "pe");(·fail "pe");(·(first|rfl|with_unfolding_all rfl))
 |(apply L2.cK);(·fail "pe");(·rfl)
 |(apply L2.mX);(·fail "to");(·fail "to");(·fail "to");(·fail "to");(·fail "pe");(·fail "pa");(·rfl);(·rfl);(·decide);(·rfl);(·rfl)
 |(exists L2.sH);(·fail "pt");(·fail "pe");(·fail "pe")
 |(apply L2.HG);(·fail "to");(·fail "to");(·fail "to");(·fail "to");(·fail "pe");(·rfl);(·decide)
 |(exists L2.zk);(·fail "pe")
 |(exists L2.zZ);(·fail "pe");(·fail "pe")
 |(apply L2.xP);(·fail "to");(·fail "pe");(·fail "po");(·fail "po")
 |(apply L2.EK);(·fail "pe");(·fail "pe");(·exact⟨rfl,rfl,rfl,rfl⟩)
 |(exists L2.Jj);(·rfl);(·assumption);(·fail "to");(·(first|rfl|exact⟨_,rfl⟩));(·decide);(·decide)
 |(apply L10.Be);(·assumption);(·fail "to");(·assumption);(·fail "pe");(·fail "pa");(·decide);(·rfl);(·rfl);(·rfl)
 |(apply L10.En);(·assumption);(·fail "to");(·assumption);(·fail "pe");(·decide);(·rfl)
 |(apply L10.Lz);(·assumption);(·fail "to");(·assumption);(·fail "pa");(·decide);(·rfl);(·decide);(·rfl);(·rfl)
 |(apply L10.CJ);(·rfl);(·rfl);(·assumption);(·fail "pa");(·rfl))
local macro_rules| `(tactic|fail "pa")=> `(tactic|first
 |(exists L2.ah);(·fail "pe");(·fail "pa");(·rfl)
 |change L2.aB)
local macro_rules| `(tactic|fail "pt")=> `(tactic|first
 |(exists L2.eW);(·fail "to");(·fail "pe");(·fail "pe");(·(first|rfl|with_unfolding_all rfl))
 |(exists L2.Mf);(·fail "pt")
 |(exists L2.Ar);(·fail "pc");(·(first|rfl|with_unfolding_all rfl))
 |(exists L2.Gc);(·fail "to");(·fail "to");(·fail "pe");(·fail "pe");(·fail "pe");(·rfl)
 |(exists L2.PW.pt);(·fail "pw")
 |(exists L2.Ee);(·fail "pe");(·(intro _;rfl)))
local macro_rules| `(tactic|fail "pw")=> `(tactic|first
 |(exists L2.Iq);(·fail "pt")
 |(exists L2.NT);(·fail "pt");(·fail "pw")
 |(exists L2.Mc);(·fail "pt")
 |(exists L2.Qh);(·fail "pt");(·fail "pw"))
local macro_rules| `(tactic|fail "pc")=> `(tactic|first
 |(exists L2.L6);(·assumption);(·fail "pe");(·fail "pe"))
local macro_rules| `(tactic|fail "pg")=> `(tactic|first
 |(exists L2.bL);(·(first|assumption|left));(·rfl);(·(first|exact Or.inl rfl|exact Or.inr rfl|assumption|rfl));(·(first|exact Or.inl rfl|exact Or.inr rfl|assumption|rfl))
 |(exists L2.eS);(·fail "pg");(·fail "pg");(·rfl)
 |change L2.mS
 |(apply L2.qY);(·rfl);(·fail "pg");(·rfl);(·rfl))
local macro_rules| `(tactic|fail "pi")=> `(tactic|first
 |(exists L2.fY);(·rfl);(·assumption);(·fail "pa");(·rfl)
 |(apply L3.Mv);(·rfl);(·assumption);(·fail "pa");(·rfl);(·rfl)
 |(apply L3.eY);(·fail "pe"))
local macro_rules| `(tactic|fail "po")=> `(tactic|first
 |change L2.C0
 |(exists L2.BX);(·fail "pe"))
local macro_rules| `(tactic|fail "te")=> `(tactic|first
 |(exists L2.aR);(·fail "te")
 |change L2.lu
 |(exists L2.am);(·fail "te");(·fail "te")
 |(exists L2.dh);(·(first|assumption|left));(·rfl);(·(first|exact Or.inl rfl|exact Or.inr rfl|assumption|rfl));(·fail "pe");(·rfl);(·(first|exact Or.inl rfl|exact Or.inr rfl|assumption|rfl))
 |(exists L2.gq);(·fail "pe");(·rfl)
 |(exists L2.dm);(·fail "pe")
 |(exists L2.uv);(·fail "pt");(·fail "te");(·fail "te")
 |(exists L2.sG);(·fail "to");(·rfl);(·fail "pi");(·fail "pg");(·fail "te");(·(intro _;rfl))
 |(apply L2.ot);(·fail "pe");(·fail "pe");(·rfl)
 |(exists L2.IH);(·assumption);(·fail "pe");(·fail "pe");(·fail "pe");(·rfl)
 |(exists L2.M3);(·fail "pe");(·fail "pg");(·rfl);(·rfl);(·rfl)
 |change L2.Kg
 |(exists L2.yP);(·fail "to");(·fail "pt");(·fail "te"))
local macro_rules| `(tactic|fail "ok")=> `(tactic|(intros;refine L3.Bp (by fail "so") ?_;first|(apply L2.am);(·fail "te");(·fail "te")|(apply L2.aR);(·fail "te")))| `(tactic|fail "os")=> `(tactic|(intros;refine L3.Fg (by fail "so") ?_;first|(apply L2.am);(·fail "te");(·fail "te")|(apply L2.aR);(·fail "te")))
namespace K72
open PySem L2 L3 STP
def top (i:Nat):UL:=PySem.Challenge.pw_chordbed_k72_typed.main.body.getD i (.Pass ⟨0,0,0,0⟩)
def fb:UL->List UL
 | .For _ _ b _ _=>b
 | .If _ b _ _=>b
 |_=>[]
def ss:TF->TF
 | .Subscript _ v _=>v
 |e=>e
def lp:TF->Pos
 | .List _ p=>p
 |_=>⟨0,0,0,0⟩
def fI:UL->TF
 | .For _ i _ _ _=>i
 |_=> .Name "" ⟨0,0,0,0⟩
def nP:UL->Pos
 | .Assign [.Name _ p] _ _=>p
 |_=>⟨0,0,0,0⟩
def sv:TF->TF
 | .Subscript v _ _=>v
 |e=>e
def le:TF->List TF
 | .List l _=>l
 |_=>[]
def bl:TF->TF
 | .BinOp a _ _ _=>a
 |e=>e
def dK:TF->List (Option TF)
 | .Dict k _ _=>k
 |_=>[]
def dV:TF->List TF
 | .Dict _ v _=>v
 |_=>[]
section
variable {P:S0} {w:Tn} {K:Ld} {mg:Str->Option Sh} {base:Heap} {f:So} {fd:TL}
theorem xB (F:VT K "layer_of" "layer_of" (top 4) f fd) (b:mg "max"=Sg):FnOk P w K mg base dG 1 f fd ["standing"] (pp K 1 dC):=pN (N:=["standing"]) (g:=mv) F (by fail "sc") rfl rfl rfl fun m A a s H E nd j e l h=>Fg (cj (by fail "so")
   (jR (kr L10.BW (aA (dZ rfl rfl (gD (bT cD ao bE)) (v5 (jT bw (jT bw u8))) (dL (bT jx (bT cD ao bE) ii)) (bT cD ao bE)) aX)))) (am (by fail "te")
   (aR (dm (L10.CJ rfl rfl b (ah (fL ["key","act"] [] rfl (eY (cX b6 (pv 0) bC (fun _ _=>rfl))) (fun _ _ _ _=>(qY rfl (eS (bL (i:=0) (show TX (["key","act"]:List Str) by left) rfl (Or.inl rfl)) (eS (bL (i:=1) (show TX (["key","act"]:List Str) by left) rfl (Or.inl rfl)) mS)))) (fun _ _ _ _=>(jd (eW (jC e) (cX b6 (pv 1) bC (fun _ _=>rfl)) hW (fu _)))) (fun _ _ _ _=>(cX b6 (pv 1) bC (fun _ _=>rfl))) trivial rfl) aB)))))
theorem vN (F:VT K "looked_up" "looked_up" (top 8) f fd):FnOk P w K mg base dG 1 f fd ["bed","layer","key"] (pp K 3 iM):=pN (N:=["bed","layer","key","meaning"]) (g:=kS) F (by fail "sc") rfl rfl rfl fun j A a s H E nd h e i b=>Fg (cj (by fail "so")
   (cj (by fail "so")
   (jR ao))) (am (by fail "te")
   (am (by fail "te")
   (aR (dm (pv 3)))))
theorem sD (F:VT K "chords_over" "chords_over" (top 9) f fd) (b:mg "all"=Sg):FnOk P w K mg base dG 1 f fd ["bed","keys"] (pp K 2 bF):=pN (N:=["bed","keys"]) (g:=iW) F (by fail "sc") rfl rfl rfl fun m A a s H E nd j h l e=>Fg (jR (dZ rfl rfl (gD (bT cD ao bE)) bw (Ln (kr Hs (aA (dZ rfl rfl (gD ao) bw fS (bT vO ao (bT cD ao bE))) aX))) ao)) (aR (dm (fL ["chord"] [("keys",1)] rfl (eY (cX b6 (pv 0) bC (fun _ _=>rfl))) (fun _ _ _ _=>(bL (i:=0) (show TX (["chord","keys"]:List Str) by left) rfl (Or.inr rfl))) (fun _ _ _ _=>(jd (Ee (dR (yJ rfl) rfl b LV (ah (fL ["key"] [("chord",0)] rfl (eY (pv 1)) (fun _ _ _ _=>(bL (i:=0) (show TX (["key","chord"]:List Str) by left) rfl (Or.inl rfl))) (fun _ _ _ _=>eR) (fun _ _ _ _=>(iK (vx e) (pv 0) (cX b6 (pv 1) bC (fun _ _=>rfl)) (by with_unfolding_all rfl))) ⟨⟨rfl,rfl,Or.inl rfl⟩,trivial⟩ rfl) aB))))) (fun _ _ _ _=>(pv 0)) ⟨⟨rfl,rfl,Or.inl rfl⟩,trivial⟩ rfl)))
theorem tQ (F:VT K "chord_acts" "chord_acts" (top 10) f fd) (p:mg "list"=Sg) (o:mg "sorted"=Sg) (r:mg "len"=Sg) {b:So} (n:mg "NONE"=lD (.ref b)) (m:∀O H,DV O K H (.ref b) (.tuple [(.str "none")])):FnOk P w K mg base dG 1 f fd ["bed","keys"] (pp K 2 fE):=pN (N:=["bed","keys","chord"]) (g:=jU) F (by fail "sc") rfl rfl rfl fun q A a s H E nd j h l e=>Fg (cj (by fail "so")
   (jR (dZ rfl rfl (gD ao) bw fS (bT cD (bT cD (bT cD ao bE) bE) ao)))) (am (by fail "te")
   (aR (dm (fL ["key"] [("bed",0)] rfl (eY (pv 1)) (fun _ _ _ _=>(bL (i:=0) (show TX (["key","bed"]:List Str) by left) rfl (Or.inl rfl))) (fun _ _ _ _=>eR) (fun _ _ _ _=>(cX b6 (cX b6 (cX b6 (pv 1) bC (fun _ _=>rfl)) bC (fun _ _=>rfl)) (pv 0) (fun _ _=>rfl))) ⟨⟨rfl,rfl,Or.inl rfl⟩,trivial⟩ rfl))))
theorem vW (F:VT K "_law_cell" "_law_cell" (top 23) f fd) (b:mg "len"=Sg):FnOk P w K mg base dG 1 f fd ["_law_script","_law_k"] (pp K 2 cF):=pN (N:=["_law_script","_law_k"]) (g:=pi) F (by fail "sc") rfl rfl rfl fun l A a s H E nd i h j e=>Fg (jR (Ll (dL (bT zF ao (kr ky (aA ao aX)))) (bT cD ao ao) bE)) (aR (dm (sH (eW Fw (pv 1) (dR eV rfl b lS (ah (pv 0) aB)) (fu _)) (cX b6 (pv 0) (pv 1) (fun _ _=>rfl)) bC)))
theorem vB (F:VT K "_law_draw" "_law_draw" (top 24) f fd):FnOk P w K mg base dG 1 f fd ["_law_cell_here","_law_salt","_law_many"] (pp K 3 bh):=pN (N:=["_law_cell_here","_law_salt","_law_many","_law_number"]) (g:=kN) F (by fail "sc") rfl rfl rfl (by delta kN;fail "os")
theorem pL (F:VT K "_law_meaning" "_law_meaning" (top 25) f fd) (b:je P w K mg base 1 "_law_draw" ["_law_cell_here","_law_salt","_law_many"] 3 bh) (a:mg "max"=Sg):FnOk P w K mg base dG 2 f fd ["_law_cell_here","_law_layer","_law_layers"] (pp K 3 ei):=pN (N:=["_law_cell_here","_law_layer","_law_layers","_law_letter","_law_other","_law_kind"]) (g:=eC) F (by fail "sc") rfl rfl rfl (by delta eC;fail "os")
theorem yu (F:VT K "_law_bed" "_law_bed" (top 26) f fd) (m:je P w K mg base 1 "_law_cell" ["_law_script","_law_k"] 2 cF) (r:je P w K mg base 1 "_law_draw" ["_law_cell_here","_law_salt","_law_many"] 3 bh) (l:je P w K mg base 2 "_law_meaning" ["_law_cell_here","_law_layer","_law_layers"] 3 ei) (b:mg "range"=Sg) (h:mg "tuple"=Sg) (q:mg "len"=Sg):FnOk P w K mg base dG 3 f fd ["_law_script","_law_most"] (pp K 2 jS):=pN (N:=["_law_script","_law_most","_law_cell_here","_law_keys","_law_layers","_law_rows","_law_layer","_law_cells","_law_some","_law_chords"]) (g:=jW) F (by fail "sc") rfl rfl rfl fun p A a s H E nd e j o n=>Fg (cj (by fail "so")
   (cj (by fail "so")
   (cj (by fail "so")
   (cj (i4 (lZ aX) bw)
   (cj (z8 (jK (aA ao aX)) bw (cj (i4 (dZ rfl rfl (jK (aA ao aX)) bw fS (kR (aA ao (aA (bT mF (bT mF bE (bT xH ao ao)) ao) aX)))) bw)
   (wq (Hr (kr mV (aA (dZ rfl rfl (gD ao) bw fS (kR (aA ao (aA ao (aA ao aX))))) aX))))))
   (cj (i4 (kr mV (aA (dZ rfl rfl (jK (aA ao aX)) bw (dL (bT jx (bT cD (bT cD (bT cD ao bE) ao) bE) ii)) ao) aX)) bw)
   (cj (i4 (fT aX) bw)
   (cj (by fail "so")
   (by fail "so"))))))))) (am (by fail "te")
   (am (by fail "te")
   (am (by fail "te")
   (am (dh (i:=5) nd rfl (Or.inr rfl) (mj aB))
   (am (sG XT.never rfl (fY rfl b (ah (pv 4) aB)) (bL (i:=6) nd rfl (Or.inr rfl)) (am (ny (i:=7) ["_law_key"] [("_law_script",0),("_law_keys",3),("_law_layer",6)] nd rfl rfl rfl (fY rfl b (ah (pv 3) aB)) (fun _ _ _ _=>(bL (i:=0) (show TX (["_law_key","_law_script","_law_keys","_law_layer"]:List Str) by left) rfl (Or.inl rfl))) (fun _ _ _ _=>eR) (fun _ _ _ _=>(iZ m e (ah (pv 1) (ah (tW mO (tW mO bC (tW Cy (pv 2) (pv 3))) (pv 0)) aB)))) ⟨⟨rfl,rfl,Or.inl rfl⟩,⟨⟨rfl,rfl,Or.inl rfl⟩,⟨⟨rfl,rfl,Or.inl rfl⟩,trivial⟩⟩⟩ rfl)
   (aR (gq (mX Ut UN UO g9 (pv 5) (ah (jb gr rfl h p9 (ah (fL ["_law_one"] [("_law_layer",6),("_law_layers",4)] rfl (eY (pv 7)) (fun _ _ _ _=>(bL (i:=0) (show TX (["_law_one","_law_layer","_law_layers"]:List Str) by left) rfl (Or.inl rfl))) (fun _ _ _ _=>eR) (fun _ _ _ _=>(iZ l e (ah (pv 0) (ah (pv 1) (ah (pv 2) aB))))) ⟨⟨rfl,rfl,Or.inl rfl⟩,⟨⟨rfl,rfl,Or.inl rfl⟩,trivial⟩⟩ rfl) aB)) aB))))))
   (am (dh (i:=8) nd rfl (Or.inl rfl) (jb gr rfl h p9 (ah (fL ["_law_key"] [("_law_rows",5)] rfl (fY rfl b (ah (pv 3) aB)) (fun _ _ _ _=>(bL (i:=0) (show TX (["_law_key","_law_rows"]:List Str) by left) rfl (Or.inl rfl))) (fun _ _ _ _=>(jd (eW (jC j) (cX b6 (cX b6 (cX b6 (pv 1) bC (fun _ _=>rfl)) (pv 0) (fun _ _=>rfl)) bC (fun _ _=>rfl)) hW (fu _)))) (fun _ _ _ _=>(pv 0)) ⟨⟨rfl,rfl,Or.inl rfl⟩,trivial⟩ rfl) aB)))
   (am (dh (i:=9) nd rfl (Or.inl rfl) (eK aB))
   (am (by fail "te")
   (aR (by fail "te"))))))))))
theorem vI (F:VT K "_law_text" "_law_text" (top 27) f fd) (j:je P w K mg base 1 "_law_cell" ["_law_script","_law_k"] 2 cF) (e:je P w K mg base 1 "_law_draw" ["_law_cell_here","_law_salt","_law_many"] 3 bh) (h:mg "range"=Sg):FnOk P w K mg base dG 2 f fd ["_law_script"] (pp K 1 iL):=pN (N:=["_law_script","_law_cell_here","_law_letters"]) (g:=iC) F (by fail "sc") rfl rfl rfl fun o A a s H E nd b m n l=>Fg (cj (by fail "so")
   (cj (i4 (dZ rfl rfl (jK (aA (kR (aA ao (aA bE (aA bE aX)))) aX)) bw fS (kR (aA (kR (aA ao (aA (bT mF bE ao) aX))) (aA bE (aA bE aX))))) bw)
   (jR (E6 qK ii (aA (dZ rfl rfl (gD ao) bw fS (bT ve ii ao)) aX))))) (am (by fail "te")
   (am (ny (i:=2) ["_law_k"] [("_law_script",0)] nd rfl rfl rfl (fY rfl h (ah (iZ e b (ah (pv 1) (ah bC (ah bC aB)))) aB)) (fun _ _ _ _=>(bL (i:=0) (show TX (["_law_k","_law_script"]:List Str) by left) rfl (Or.inl rfl))) (fun _ _ _ _=>eR) (fun _ _ _ _=>(iZ e b (ah (iZ j b (ah (pv 1) (ah (tW mO bC (pv 0)) aB))) (ah bC (ah bC aB))))) ⟨⟨rfl,rfl,Or.inl rfl⟩,trivial⟩ rfl)
   (aR (dm (mX W9 Xl Xm w9 hW (ah (fL ["_law_letter"] [] rfl (eY (pv 2)) (fun _ _ _ _=>(bL (i:=0) (show TX (["_law_letter"]:List Str) by left) rfl (Or.inl rfl))) (fun _ _ _ _=>eR) (fun _ _ _ _=>(cX b6 hW (pv 0) (fun _ _=>rfl))) trivial rfl) aB))))))
theorem tP (F:VT K "_law_types" "_law_types" (top 28) f fd) (e:je P w K mg base 9 "play" ["bed","events"] 2 rK) (m:mg "isinstance"=Sg) (n:mg "list"=Sg):FnOk P w K mg base dG 10 f fd ["_law_bed_here","_law_text_here","_law_events"] (pp K 3 dD):=pN (N:=["_law_bed_here","_law_text_here","_law_events","_law_event","_law_sent","_law_standing","_law_downs","_law_some"]) (g:=g6) F (by fail "sc") rfl rfl rfl fun o A a s H E nd j b l h=>Fg (cj (by fail "so")
   (cj (by fail "so")
   (cj (by fail "so")
   (cj (i4 (lZ aX) bw)
   (cj (z8 (gD ao) bw (wq (L10.G5 (dZ rfl rfl (gD ao) (v5 (jT bw (jT bw u8))) (dL (bT jx ao ii)) ao))))
   (jR (GS (bT jx (E6 qK ii (aA ao aX)) ao) (bT jx ao (fT (aA (fT aX) (aA gH (aA gH aX)))))))))))) (am (by fail "te")
   (am (by fail "te")
   (am (by fail "te")
   (am (dh (i:=6) nd rfl (Or.inl rfl) (mj aB))
   (am (sG XT.never rfl (eY (pv 4)) (bL (i:=7) nd rfl (Or.inl rfl)) (aR (gq (mX Ut Zu Zv uR (pv 6) (ah (fL ["_law_letter","_law_word"] [] rfl (eY (pv 7)) (fun _ _ _ _=>(qY rfl (eS (bL (i:=0) (show TX (["_law_letter","_law_word"]:List Str) by left) rfl (Or.inl rfl)) (eS (bL (i:=1) (show TX (["_law_letter","_law_word"]:List Str) by left) rfl (Or.inl rfl)) mS)))) (fun _ _ _ _=>(jd (eW (jC b) (pv 1) hW (fu _)))) (fun _ _ _ _=>(pv 0)) trivial rfl) aB)))))
   (aR (dm (zZ (iK (jC b) (mX W9 Xl Xm w9 hW (ah (pv 6) aB)) (pv 1) (fu _)) (zk (iK (jC b) (pv 5) (eK (ah (eK aB) (ah gJ (ah gJ aB)))) (fu _)))))))))))
theorem wJ (F:VT K "events_of" "events_of" (top 15) f fd) (b:mg "range"=Sg):FnOk P w K mg base dG 1 f fd ["bed"] (pp K 1 gA):=pN (N:=["bed","downs","ups"]) (g:=kq) F (by fail "sc") rfl rfl rfl fun m A a s H E nd j h l e=>Fg (cj (i4 (dZ rfl rfl (jK (aA (bT cD ao bE) aX)) bw fS (fT (aA ii (aA ao aX)))) bw)
   (cj (i4 (dZ rfl rfl (jK (aA (bT cD ao bE) aX)) bw fS (fT (aA ii (aA ao aX)))) bw)
   (by fail "so"))) (am (ny (i:=1) ["key"] [] nd rfl rfl rfl (fY rfl b (ah (cX b6 (pv 0) bC (fun _ _=>rfl)) aB)) (fun _ _ _ _=>(bL (i:=0) (show TX (["key"]:List Str) by left) rfl (Or.inl rfl))) (fun _ _ _ _=>eR) (fun _ _ _ _=>(eK (ah hW (ah (pv 0) aB)))) trivial rfl)
   (am (ny (i:=2) ["key"] [] nd rfl rfl rfl (fY rfl b (ah (cX b6 (pv 0) bC (fun _ _=>rfl)) aB)) (fun _ _ _ _=>(bL (i:=0) (show TX (["key"]:List Str) by left) rfl (Or.inl rfl))) (fun _ _ _ _=>eR) (fun _ _ _ _=>(eK (ah hW (ah (pv 0) aB)))) trivial rfl)
   (aR (by fail "te"))))
theorem rZ (F:VT K "done_behind" "done_behind" (top 21) f fd) (m:mg "len"=Sg):FnOk P w K mg base dG 1 f fd ["text","done","sent"] (pp K 3 gh):=pN (N:=["text","done","sent","downs","behind"]) (g:=iU) F (by fail "sc") rfl rfl rfl fun l A a s H E nd h b j e=>Fg (cj (i4 (E6 qK ii (aA (dZ rfl rfl (gD ao) (v5 (jT bw (jT bw u8))) (dL (bT jx ao ii)) ao) aX)) bw)
   (cj (by fail "so")
   (cj (by fail "so")
   (jR ao)))) (am (dh (i:=3) nd rfl (Or.inl rfl) (mX W9 Xl Xm w9 hW (ah (fL ["letter","word"] [] rfl (eY (pv 2)) (fun _ _ _ _=>(qY rfl (eS (bL (i:=0) (show TX (["letter","word"]:List Str) by left) rfl (Or.inl rfl)) (eS (bL (i:=1) (show TX (["letter","word"]:List Str) by left) rfl (Or.inl rfl)) mS)))) (fun _ _ _ _=>(jd (eW (jC b) (pv 1) hW (fu _)))) (fun _ _ _ _=>(pv 0)) trivial rfl) aB)))
   (am (by fail "te")
   (am (by fail "te")
   (aR (dm (pv 4))))))
end
end K72
namespace K72
open PySem L2 L3 L10 STP
section
variable {P:S0} {w:Tn} {K:Ld} {mg:Str->Option Sh} {base:Heap} {f:So} {fd:TL}
theorem ou (F:VT K "__init__" "Hand.__init__" (aW (top 7) 0) f fd) (e:fU K "Hand" ["bed","acts","waiting","once","sent"]) (b:mg "dict"=Sg):FnOk P w K mg base dG 3 f fd ["self","bed","standing"] (db K 3 dM):=ka (N:=["self","bed","standing"]) (g:=j6) F (by fail "sc") rfl rfl rfl fun m A a s H E nd j i l h=>Bp (aM (k7 e (.head _) a8 (au ao))
   (aM (by fail "so")
   (aM (by fail "so")
   (aM (by fail "so")
   (by fail "so"))))) (am (ot (pv 0) (pv 1) rfl)
   (am (by fail "te")
   (am (by fail "te")
   (am (by fail "te")
   (aR (by fail "te"))))))
theorem sU (F:VT K "stands" "Hand.stands" (aW (top 7) 1) f fd) (a:fU K "Hand" ["bed","acts","waiting","once","sent"]) (h:mg "tuple"=Sg) (j:mg "sorted"=Sg):FnOk P w K mg base dG 3 f fd ["self"] (db K 1 bG):=ka (N:=["self"]) (g:=lM) F (by fail "sc") rfl rfl rfl fun o A b s H E nd n m e l=>Bp (gx (u9 (aN (sB mV (aN (xE rfl rfl (qC (yS (b8 a (.tail _ (.head _)) a8))) bK ze (u9 (aN (au ao) (aN (yM (b8 a (.tail _ (.head _)) a8) (au ao)) cC)))) cC)) (aN (b8 a (.tail _ (.tail _ (.head _))) a8) (aN (b8 a (.tail _ (.tail _ (.tail _ (.head _)))) a8) cC))))) (aR (dm (eK (ah (jb gr rfl h p9 (ah (fL ["key"] [("self",0)] rfl (eY (dR (rJ rfl) rfl j xJ (ah (cK (pv 0) rfl) aB))) (fun _ _ _ _=>(bL (i:=0) (show TX (["key","self"]:List Str) by left) rfl (Or.inl rfl))) (fun _ _ _ _=>eR) (fun _ _ _ _=>(eK (ah (pv 0) (ah (BF e (cK (pv 1) rfl) (pv 0) (fun _ _=>rfl)) aB)))) ⟨⟨rfl,rfl,Or.inl rfl⟩,trivial⟩ rfl) aB)) (ah (cK (pv 0) rfl) (ah (cK (pv 0) rfl) aB))))))
theorem mf (F:VT K "is_waiting" "Hand.is_waiting" (aW (top 7) 2) f fd) (b:fU K "Hand" ["bed","acts","waiting","once","sent"]):FnOk P w K mg base dG 3 f fd ["self","key"] (db K 2 b3):=ka (N:=["self","key"]) (g:=iJ) F (by fail "sc") rfl rfl rfl fun l A a s H E nd i h j e=>Bp (gx (CQ (jH u6 (b8 b (.tail _ (.tail _ (.head _))) a8) (au gH)) (jH vO (au ao) (sY (b8 b (.tail _ (.tail _ (.head _))) a8) (au bE))))) (aR (dm (zZ (iK v9 (cK (pv 0) rfl) gJ (fu _)) (zk (iK (vx e) (pv 1) (cX b6 (cK (pv 0) rfl) bC (fun _ _=>rfl)) (by with_unfolding_all rfl))))))
theorem pz (F:VT K "has_act" "Hand.has_act" (aW (top 7) 13) f fd) (h:fU K "Hand" ["bed","acts","waiting","once","sent"]) (e:mg "list"=Sg):FnOk P w K mg base dG 3 f fd ["self","act"] (db K 2 bN):=ka (N:=["self","act"]) (g:=kP) F (by fail "sc") rfl rfl rfl fun m A a s H E nd j i l b=>Bp (gx (jH vO (au ao) (yk (b8 h (.tail _ (.head _)) a8)))) (aR (dm (iK (vx b) (pv 1) (jb (su rfl) rfl e AC (ah (HG WX WI Zw ud (cK (pv 0) rfl)) aB)) (by with_unfolding_all rfl))))
theorem vv (F:VT K "come" "Hand.come" (aW (top 7) 11) f fd) (b:fU K "Hand" ["bed","acts","waiting","once","sent"]) (a:bW P w K mg base dG 3 "Hand" "has_act" ["self","act"] (db K 2 bN)):FnOk P w K mg base dG 4 f fd ["self","key","act"] (db K 3 bu):=ka (N:=["self","key","act"]) (g:=kK) F (by fail "sc") rfl rfl rfl (by delta kK;fail "ok")
theorem Ah (F:VT K "go" "Hand.go" (aW (top 7) 12) f fd) (b:fU K "Hand" ["bed","acts","waiting","once","sent"]) (a:bW P w K mg base dG 3 "Hand" "has_act" ["self","act"] (db K 2 bN)):FnOk P w K mg base dG 4 f fd ["self","key"] (db K 2 jg):=ka (N:=["self","key","act"]) (g:=oa) F (by fail "sc") rfl rfl rfl (by delta oa;fail "ok")
theorem rb (F:VT K "decide" "Hand.decide" (aW (top 7) 10) f fd) (h:fU K "Hand" ["bed","acts","waiting","once","sent"]) (o:bW P w K mg base dG 4 "Hand" "come" ["self","key","act"] (db K 3 bu)) (n:je P w K mg base 1 "chord_acts" ["bed","keys"] 2 fE) (e:mg "zip"=Sg) {b:So} (p:mg "CHORD"=lD (.ref b)) (q:∀O H,L3.DV O K H (.ref b) (.tuple [(.str "chord")])):FnOk P w K mg base dG 5 f fd ["self"] (db K 1 bU):=ka (N:=["self","keys","what","acts","key","act"]) (g:=lR) F (by fail "sc") rfl rfl rfl fun r A a s H E nd l j m i=>Bp (aM (by fail "so")
   (aM (by fail "so")
   (aM (k7 h (.tail _ (.tail _ (.head _))) a8 (au gH))
   (aM (by fail "so")
   (by fail "so"))))) (am (by fail "te")
   (am (by fail "te")
   (am (ot (pv 0) gJ rfl)
   (am (by fail "te")
   (aR (by fail "te"))))))
theorem lG (F:VT K "makes_chord" "Hand.makes_chord" (aW (top 7) 4) f fd) (l:fU K "Hand" ["bed","acts","waiting","once","sent"]) (j:bW P w K mg base dG 3 "Hand" "stands" ["self"] (db K 1 bG)) (b:je P w K mg base 1 "layer_of" ["standing"] 1 dC) (i:je P w K mg base 1 "chords_over" ["bed","keys"] 2 bF) {a:So} (e:mg "CHORD"=lD (.ref a)) (h:∀O H,L3.DV O K H (.ref a) (.tuple [(.str "chord")])):FnOk P w K mg base dG 4 f fd ["self","key"] (db K 2 dB):=ka (N:=["self","key"]) (g:=fw) F (by fail "sc") rfl rfl rfl (by delta fw;fail "ok")
theorem kz (F:VT K "put_to_chord" "Hand.put_to_chord" (aW (top 7) 5) f fd) (j:fU K "Hand" ["bed","acts","waiting","once","sent"]) (m:bW P w K mg base dG 5 "Hand" "decide" ["self"] (db K 1 bU)) (n:je P w K mg base 1 "chords_over" ["bed","keys"] 2 bF) (e:mg "len"=Sg) {h:So} (q:mg "CHORD"=lD (.ref h)) (r:∀O H,L3.DV O K H (.ref h) (.tuple [(.str "chord")])):FnOk P w K mg base dG 6 f fd ["self","key"] (db K 2 dg):=ka (N:=["self","key","keys"]) (g:=gP) F (by fail "sc") rfl rfl rfl fun t A a s H E nd b l p o=>Bp (aM (by fail "so")
   (aM (by fail "so")
   (on (jr (jH jx (xE rfl rfl (qC (BO (aN (b8 j (.head _) a8) (aN (au ao) cC)))) bK ze (au (kr ky (aA (bT cD ao bE) aX)))) (au (lZ (aA (kr ky (aA ao aX)) aX))))) (iu (wE j a8 cC)) jj))) (am (by fail "te")
   (am (by fail "te")
   (aR (uv (eW (jC l) (fL ["chord"] [] rfl (eY (iZ n b (ah (cK (pv 0) rfl) (ah (pv 2) aB)))) (fun _ _ _ _=>(bL (i:=0) (show TX (["chord"]:List Str) by left) rfl (Or.inl rfl))) (fun _ _ _ _=>eR) (fun _ _ _ _=>(dR eV rfl e lS (ah (cX b6 (pv 0) bC (fun _ _=>rfl)) aB))) trivial rfl) (mj (ah (dR eV rfl e lS (ah (pv 2) aB)) aB)) (fu _)) (aR (gq (En m Bc b (pv 0)))) lu))))
theorem tH (F:VT K "begin" "Hand.begin" (aW (top 7) 6) f fd) (q:fU K "Hand" ["bed","acts","waiting","once","sent"]) (p:bW P w K mg base dG 3 "Hand" "stands" ["self"] (db K 1 bG)) (l:bW P w K mg base dG 4 "Hand" "come" ["self","key","act"] (db K 3 bu)) (j:je P w K mg base 1 "layer_of" ["standing"] 1 dC) (i:je P w K mg base 1 "looked_up" ["bed","layer","key"] 3 iM) (o:je P w K mg base 1 "chords_over" ["bed","keys"] 2 bF) {b:So} (m:mg "CHORD"=lD (.ref b)) (n:∀O H,L3.DV O K H (.ref b) (.tuple [(.str "chord")])) {a:So} (h:mg "NONE"=lD (.ref a)) (e:∀O H,L3.DV O K H (.ref a) (.tuple [(.str "none")])):FnOk P w K mg base dG 5 f fd ["self","key"] (db K 2 fP):=ka (N:=["self","key","layer","meaning","word"]) (g:=jF) F (by fail "sc") rfl rfl rfl (by delta jF;fail "ok")
theorem tL (F:VT K "press" "Hand.press" (aW (top 7) 3) f fd) (j:fU K "Hand" ["bed","acts","waiting","once","sent"]) (i:bW P w K mg base dG 3 "Hand" "is_waiting" ["self","key"] (db K 2 b3)) (b:bW P w K mg base dG 4 "Hand" "makes_chord" ["self","key"] (db K 2 dB)) (e:bW P w K mg base dG 6 "Hand" "put_to_chord" ["self","key"] (db K 2 dg)) (h:bW P w K mg base dG 5 "Hand" "decide" ["self"] (db K 1 bU)) (a:bW P w K mg base dG 5 "Hand" "begin" ["self","key"] (db K 2 fP)):FnOk P w K mg base dG 7 f fd ["self","key"] (db K 2 gS):=ka (N:=["self","key"]) (g:=jz) F (by fail "sc") rfl rfl rfl (by delta jz;fail "ok")
theorem rT (F:VT K "settle" "Hand.settle" (aW (top 7) 8) f fd) (j:fU K "Hand" ["bed","acts","waiting","once","sent"]) (i:bW P w K mg base dG 5 "Hand" "decide" ["self"] (db K 1 bU)) (b:bW P w K mg base dG 4 "Hand" "come" ["self","key","act"] (db K 3 bu)) {a:So} (e:mg "CHORD"=lD (.ref a)) (h:∀O H,L3.DV O K H (.ref a) (.tuple [(.str "chord")])):FnOk P w K mg base dG 6 f fd ["self","key"] (db K 2 gn):=ka (N:=["self","key","what"]) (g:=iO) F (by fail "sc") rfl rfl rfl (by delta iO;fail "ok")
theorem wG (F:VT K "lift" "Hand.lift" (aW (top 7) 7) f fd) (h:fU K "Hand" ["bed","acts","waiting","once","sent"]) (e:bW P w K mg base dG 3 "Hand" "is_waiting" ["self","key"] (db K 2 b3)) (b:bW P w K mg base dG 6 "Hand" "settle" ["self","key"] (db K 2 gn)) (a:bW P w K mg base dG 4 "Hand" "go" ["self","key"] (db K 2 jg)):FnOk P w K mg base dG 7 f fd ["self","key"] (db K 2 iE):=ka (N:=["self","key"]) (g:=kI) F (by fail "sc") rfl rfl rfl (by delta kI;fail "ok")
theorem pO (F:VT K "wait_on" "Hand.wait_on" (aW (top 7) 9) f fd) (b:fU K "Hand" ["bed","acts","waiting","once","sent"]) (a:bW P w K mg base dG 5 "Hand" "decide" ["self"] (db K 1 bU)):FnOk P w K mg base dG 6 f fd ["self"] (db K 1 fR):=ka (N:=["self","age"]) (g:=iq) F (by fail "sc") rfl rfl rfl (by delta iq;fail "ok")
theorem Ir (F:VT K "step" "step" (top 5) f fd) (j:fU K "Hand" ["bed","acts","waiting","once","sent"]) (a:yw P w K mg base dG 3 "Hand" ["self","bed","standing"] (db K 3 dM)) (e:bW P w K mg base dG 6 "Hand" "wait_on" ["self"] (db K 1 fR)) (h:bW P w K mg base dG 7 "Hand" "press" ["self","key"] (db K 2 gS)) (b:bW P w K mg base dG 7 "Hand" "lift" ["self","key"] (db K 2 iE)) (i:bW P w K mg base dG 3 "Hand" "stands" ["self"] (db K 1 bG)):FnOk P w K mg base dG 8 f fd ["bed","standing","event"] (db K 3 STP.kE):=ka (N:=["bed","standing","event","hand"]) (g:=z7) F (by fail "sc") rfl rfl rfl (by delta z7;fail "ok")
theorem JY (F:VT K "play" "play" (top 6) f fd) (b:NB P w K mg base 8 "step" ["bed","standing","event"] 3 STP.kE) {a:So} (e:mg "AT_REST"=lD (.ref a)) (h:∀O H,L3.DV O K H (.ref a) (.tuple [(.tuple []),.none,.none])):FnOk P w K mg base dG 9 f fd ["bed","events"] (db K 2 vg):=ka (N:=["bed","events","standing","all_sent","event","answer"]) (g:=pW) F (by fail "sc") rfl rfl rfl (by delta pW;fail "ok")
theorem pS (F:VT K "enter" "Places.enter" (aW (top 16) 1) f fd) (a:fU K "Places" ["most","found","numbers"]) {e j b:So} {p:TL} {t:Obj} (l:L9.XC K e j b) (y:K.lookup b=lD t) (u:Vk K (.ref b)=Si) (o:FnOk P w K mg base dG 1 b p ["self","most"] (L9.xa e "most")) (v:Binds K p ["self","most"] []) (m:SU K SK "TooMany"=lD (lD (.ref e))) (n:mg "TooMany"=lD (.ref e)) (q:mg "len"=Sg):FnOk P w K mg base (L4.jw P w) 3 f fd ["self","place","back","event"] (db K 4 bV):=EN (N:=["self","place","back","event"]) (g:=dj) F (by fail "sc") rfl rfl rfl fun G A h s H E nd r i C B=>Bp (aM (on (EA (xI (au ao) (b8 a (.tail _ (.tail _ (.head _))) a8))) (aM (on (jr (jH Gq (sB ky (aN (b8 a (.tail _ (.head _)) a8) cC)) (b8 a (.head _) a8))) (AB m (b8 a (.head _) a8)) jj)
   (aM (Dr (b8 a (.tail _ (.tail _ (.head _))) a8) (au ao) (sB ky (aN (b8 a (.tail _ (.head _)) a8) cC)))
   (iu (qE (b8 a (.tail _ (.head _)) a8) (au (fT (aA ao (aA ao (aA ao aX))))))))) jj)
   (gx (t6 (b8 a (.tail _ (.tail _ (.head _))) a8) (au ao)))) (am (uv (Ar (LD.aav i (pv 1) (cK (pv 0) rfl)) (by with_unfolding_all rfl)) (am (uv (eW LY (dR eV rfl q lS (ah (cK (pv 0) rfl) aB)) (cK (pv 0) rfl) (fu _)) (aR (L9.DB l y u o v (r.mono (by decide)) rfl n (ah (cK (pv 0) rfl) aB))) lu)
   (am (LD.ach i (cK (pv 0) rfl) (pv 1) (dR eV rfl q lS (ah (cK (pv 0) rfl) aB)) rfl)
   (aR (gq (mX Ut UN UO g9 (cK (pv 0) rfl) (ah (eK (ah (pv 1) (ah (pv 2) (ah (pv 3) aB)))) aB)))))) lu)
   (aR (dm (LD.aao i (cK (pv 0) rfl) (pv 1) (fun _ _=>rfl)))))
theorem lW (F:VT K "__init__" "Places.__init__" (aW (top 16) 0) f fd) (a:fU K "Places" ["most","found","numbers"]) (h:bW P w K mg base (L4.jw P w) 3 "Places" "enter" ["self","place","back","event"] (db K 4 bV)):FnOk P w K mg base (L4.jw P w) 4 f fd ["self","first","most"] (db K 3 cS):=EN (N:=["self","first","most"]) (g:=cR) F (by fail "sc") rfl rfl rfl fun m A b s H E nd e j l i=>Bp (aM (k7 a (.head _) a8 (au ao))
   (aM (k7 a (.tail _ (.head _)) a8 (au (lZ aX)))
   (aM (k7 a (.tail _ (.tail _ (.head _))) a8 DJ)
   (iu (EJ a a8 (aN (au ao) (aN (au gH) (aN (au gH) cC)))))))) (am (ot (pv 0) (pv 2) rfl)
   (am (ot (pv 0) (mj aB) rfl)
   (am (ot (pv 0) LD.acF rfl)
   (aR (gq (Be h L4.kG e (pv 0) (ah (pv 1) (ah gJ (ah gJ aB)))))))))
theorem n9 (F:VT K "way_to" "Places.way_to" (aW (top 16) 2) f fd) (n:fU K "Places" ["most","found","numbers"]) (e:mg "list"=Sg) (b:mg "reversed"=Sg):FnOk P w K mg base dG 3 f fd ["self","number"] (db K 2 cM):=ka (N:=["self","number","row","place"]) (g:=gK) F (by fail "sc") rfl rfl rfl fun m A a s H E nd j i l h=>Bp (aM (by fail "so")
   (aM (by fail "so")
   (aM (by fail "so")
   (gx (Fs a8))))) (am (by fail "te")
   (am (by fail "te")
   (am (by fail "te")
   (aR (dm (Am rfl rfl e rfl b (pv 2)))))))
theorem wH (F:VT K "places_on" "places_on" (top 20) f fd) (b:fU K "Places" ["most","found","numbers"]) (l:yw P w K mg base (L4.jw P w) 4 "Places" ["self","first","most"] (db K 3 cS)) (r:bW P w K mg base (L4.jw P w) 3 "Places" "enter" ["self","place","back","event"] (db K 4 bV)) (j:NB P w K mg base 8 "step" ["bed","standing","event"] 3 STP.kE) (m:je P w K mg base 1 "events_of" ["bed"] 1 gA) (n:je P w K mg base 1 "done_behind" ["text","done","sent"] 3 gh) (q:mg "len"=Sg) {h:So} (o:mg "AT_REST"=lD (.ref h)) (p:∀O H,L3.DV O K H (.ref h) (.tuple [(.tuple []),.none,.none])):FnOk P w K mg base (L4.jw P w) 9 f fd ["bed","text","most"] (db K 3 dA):=EN (N:=["bed","text","most","events","places","number","place","event","answer","done"]) (g:=kA) F (by fail "sc") rfl rfl rfl fun B A e s H E nd a u y t=>Bp (aM (dc (lx (au (kR (aA ao aX)))) bK)
   (aM (dc (NO b (aN (au (fT (aA (Ad p) (aA bE aX)))) (aN (au ao) cC))) bK)
   (aM (dc (au bE) bK)
   (aM (uP (jr (jH zF (au ao) (sB ky (aN (b8 b (.tail _ (.head _)) a8) cC)))) (aM (dc (sY (sY (b8 b (.tail _ (.head _)) a8) (au ao)) (au bE)) bK)
   (aM (wM (yd (gD ao)) bK (aM (dc (lx (t8 (aN (au ao) (aN (au (bT cD ao bE)) (aN (au ao) cC))))) bK)
   (aM (dc (au (kR (aA ao (aA (bT cD ao bE) (aA (bT cD ao bE) aX))))) bK)
   (on (rY (dL (bT u6 ao gH))) (iu (EJ b a8 (aN (au (fT (aA (bT cD ao bE) (aA ao aX)))) (aN (au ao) (aN (au ao) cC))))) jj))))
   (IL DY (au bE)))))
   (gx a8))))) (am (dh (i:=3) nd rfl (Or.inl rfl) (iZ m a (ah (pv 0) aB)))
   (am (dh (i:=4) nd rfl (Or.inl rfl) (Lz l L4.kG a (ah (eK (ah (wR (v:= .ref _) rfl o rfl) (ah bC aB))) (ah (pv 2) aB))))
   (am (dh (i:=5) nd rfl (Or.inl rfl) bC)
   (am (yP XT.leaving (eW Fw (pv 5) (dR eV rfl q lS (ah (cK (pv 4) rfl) aB)) (fu _)) (am (dh (i:=6) nd rfl (Or.inl rfl) (cX b6 (cX b6 (cK (pv 4) rfl) (pv 5) (fun _ _=>rfl)) bC (fun _ _=>rfl)))
   (am (sG XT.leaving rfl (eY (pv 3)) (bL (i:=7) nd rfl (Or.inl rfl)) (am (dh (i:=8) nd rfl (Or.inl rfl) (iZ j a (ah (pv 0) (ah (cX b6 (pv 6) bC (fun _ _=>rfl)) (ah (pv 7) aB)))))
   (am (dh (i:=9) nd rfl (Or.inl rfl) (iZ n a (ah (pv 1) (ah (cX b6 (pv 6) bC (fun _ _=>rfl)) (ah (cX b6 (pv 8) bC (fun _ _=>rfl)) aB)))))
   (aR (uv (eW v9 (pv 9) gJ (fu _)) (aR (gq (Be r L4.kG a (pv 4) (ah (eK (ah (cX b6 (pv 8) bC (fun _ _=>rfl)) (ah (pv 9) aB))) (ah (pv 5) (ah (pv 7) aB)))))) lu)))))
   (aR (MB (i:=5) nd rfl (Or.inl rfl) bC JW)))))
   (aR (dm (pv 4)))))))
theorem pH {l:So} {b:Array Sh} (F:ZC K "typing_rooms" "typing_rooms" (top 18) f fd l b) (j:fU K "Places" ["most","found","numbers"]) (h:mn P w K mg base (L4.jw P w) 9 "places_on" ["bed","text","most"] [] (db K 3 dA)):FnOk P w K mg base (L4.jw P w) 10 f fd ["bed","text","most"] (db K 3 ez):=Fb (N:=["bed","text","most","prices","found","place","back","event","price"]) (g:=hV) F (by fail "sc") rfl rfl rfl fun p A a s H E nd e n o m=>Bp (aM (dc (au (lZ aX)) bK)
   (aM (dc (au (lZ aX)) bK)
   (aM (wM (qC (b8 j (.tail _ (.head _)) (uA (fun _ _=> .nil) (aN (au ao) (aN (au ao) (aN (au ao) cC)))))) (BQ (mG bK (mG bK (mG bK A2)))) (aM (dc (Eo (rY (dL (bT CO ao gH))) (au bE) (jH mF (sY a8 (au ao)) (au bE))) bK)
   (aM (iu (qE a8 (au ao)))
   (iu (qE a8 (au (fT (aA (bT cD ao bE) (aA (bT cD ao bE) (aA ao aX))))))))))
   (gx a8)))) (am (dh (i:=3) nd rfl (Or.inl rfl) (mj aB))
   (am (dh (i:=4) nd rfl (Or.inl rfl) (mj aB))
   (am (sG XT.leaving rfl (eY (cK (mL h e L4.kG (ah (pv 0) (ah (pv 1) (ah (pv 2) aB)))) rfl)) (qY rfl (eS (bL (i:=5) nd rfl (Or.inl rfl)) (eS (bL (i:=6) nd rfl (Or.inl rfl)) (eS (bL (i:=7) nd rfl (Or.inl rfl)) mS)))) (am (dh (i:=8) nd rfl (Or.inl rfl) (sH (eW Hc (pv 6) gJ (fu _)) bC (tW mO (cX b6 (pv 3) (pv 6) (fun _ _=>rfl)) bC)))
   (am (gq (mX Ut UN UO g9 (pv 3) (ah (pv 8) aB)))
   (aR (gq (mX Ut UN UO g9 (pv 4) (ah (eK (ah (cX b6 (pv 5) bC (fun _ _=>rfl)) (ah (cX b6 (pv 5) bC (fun _ _=>rfl)) (ah (pv 8) aB)))) aB)))))))
   (aR (dm (pv 4))))))
theorem xp {r:So} {b:Array Sh} (F:ZC K "typed" "typed" (top 19) f fd r b) (e:fU K "Places" ["most","found","numbers"]) (q:mn P w K mg base (L4.jw P w) 9 "places_on" ["bed","text","most"] [] (db K 3 dA)) (n:bW P w K mg base dG 3 "Places" "way_to" ["self","number"] (db K 2 cM)) (p:mg "len"=Sg) {l:So} (m:mg "AT_REST"=lD (.ref l)) (o:∀O H,L3.DV O K H (.ref l) (.tuple [(.tuple []),.none,.none])):FnOk P w K mg base (L4.jw P w) 10 f fd ["bed","text","most"] (db K 3 df):=Fb (N:=["bed","text","most","places","end"]) (g:=wQ) F (by fail "sc") rfl rfl rfl fun y A a s H E nd j h u t=>Bp (aM (dc (uA (fun _ _=> .nil) (aN (au ao) (aN (au ao) (aN (au ao) cC)))) bK)
   (aM (dc (au (fT (aA (Ad o) (aA (kr wc (aA ao aX)) aX)))) bK)
   (aM (on (EA (xI (au ao) (b8 e (.tail _ (.tail _ (.head _))) a8))) (gx (au gH)) jj)
   (gx (wE e a8 (aN (t6 (b8 e (.tail _ (.tail _ (.head _))) a8) (au ao)) cC)))))) (am (dh (i:=3) nd rfl (Or.inl rfl) (mL q j L4.kG (ah (pv 0) (ah (pv 1) (ah (pv 2) aB)))))
   (am (dh (i:=4) nd rfl (Or.inl rfl) (eK (ah (wR (v:= .ref _) rfl m rfl) (ah (dR eV rfl p lS (ah (pv 1) aB)) aB))))
   (am (uv (Ar (LD.aav h (pv 4) (cK (pv 3) rfl)) (by with_unfolding_all rfl)) (aR (dm gJ)) lu)
   (aR (dm (Be n Bc j (pv 3) (ah (LD.aao h (cK (pv 3) rfl) (pv 4) (fun _ _=>rfl)) aB)))))))
theorem No (F:VT K "law" "law" (top 30) f fd) (m:mn P w K mg base (L4.jw P w) 10 "typing_rooms" ["bed","text","most"] [.int 400] (db K 3 ez)) (l:mn P w K mg base (L4.jw P w) 10 "typed" ["bed","text","most"] [] (db K 3 df)) (j:mn P w K mg base (L4.jw P w) 10 "typed" ["bed","text","most"] [.int 400] (db K 3 df)) (t:NB P w K mg base 12 "_law_refused" ["_law_bed_here","_law_text_here","_law_most"] 3 ci) (o:je P w K mg base 3 "_law_bed" ["_law_script","_law_most"] 2 jS) (r:je P w K mg base 2 "_law_text" ["_law_script"] 1 iL) (q:je P w K mg base 10 "_law_types" ["_law_bed_here","_law_text_here","_law_events"] 3 dD) (e:mg "len"=Sg):FnOk P w K mg base dG 13 f fd ["_law_script"] (db K 1 F_law):=ka (N:=["_law_script","_law_bed_here","_law_text_here","_law_spots","_law_found","_law_prices","_law_again"]) (g:=FJ) F (by fail "sc") rfl rfl rfl fun u A a s H E nd b h p n=>Bp (aM (by fail "so")
   (aM (by fail "so")
   (aM (dc (lx (md (fun _ _=>(.cons (.int _) .nil)) (aN (au ao) (aN (au ao) cC)))) bK)
   (aM (dc (md (fun _ _=> .nil) (aN (au ao) (aN (au ao) (aN (au (kr ky (aA ao aX))) cC)))) bK)
   (aM (by fail "so")
   (aM (dc (lx (au (dZ rfl rfl (gD ao) bw (dL (bT jx (LS qA ao yI (yo bE)) (fT (aA (fT (aA (fT aX) (aA gH (aA gH aX)))) (aA (kr wc (aA ao aX)) aX))))) (bT cD ao bE)))) bK)
   (aM (by fail "so")
   (aM (by fail "so")
   (aM (by fail "so")
   (aM (dc (lx (md (fun _ _=>(.cons (.int _) .nil)) (aN (au ao) (aN (au ao) cC)))) bK)
   (by fail "so"))))))))))) (am (by fail "te")
   (am (by fail "te")
   (am (dh (i:=3) nd rfl (Or.inl rfl) (mL m b zN (ah (pv 1) (ah (pv 2) aB))))
   (am (dh (i:=4) nd rfl (Or.inl rfl) (mL l b zN (ah (pv 1) (ah (pv 2) (ah (dR eV rfl e lS (ah (pv 3) aB)) aB)))))
   (am (by fail "te")
   (am (ny (i:=5) ["_law_room"] [("_law_text_here",2)] nd rfl rfl rfl (eY (pv 3)) (fun _ _ _ _=>(bL (i:=0) (show TX (["_law_room","_law_text_here"]:List Str) by left) rfl (Or.inl rfl))) (fun _ _ _ _=>(jd (eW (jC h) (xP zE (pv 0) C0 (BX bC)) (eK (ah (eK (ah (eK aB) (ah gJ (ah gJ aB)))) (ah (dR eV rfl e lS (ah (pv 1) aB)) aB))) (fu _)))) (fun _ _ _ _=>(cX b6 (pv 0) bC (fun _ _=>rfl))) ⟨⟨rfl,rfl,Or.inl rfl⟩,trivial⟩ rfl)
   (am (by fail "te")
   (am (by fail "te")
   (am (by fail "te")
   (am (dh (i:=6) nd rfl (Or.inl rfl) (mL j b zN (ah (pv 1) (ah (pv 2) aB))))
   (aR (by fail "te"))))))))))))
end
end K72
namespace L2
open PySem PySem.Spec PyProof.Rows
section
variable {Z:St} {H:Hp} {Q:VK} {D:Ends}
theorem JN {K:Ld} {ta b:TE} {f:Str} (h:b Z H fun y H1=>ta Z H1 fun x H2=>∃a C dx fs,x= .ref a/\H2 a=lD (.ins C dx fs)/\Cls K C/\WN K C f/\fs.length<1000/\D.nx Z (bx H2 a (.ins C dx (iX f y fs)))):Oq K ta b f D Z H:=h
theorem Mw {c:TT} {t u:TE} (h:c Z H fun b H1=>if b=Si then t Z H1 Q else u Z H1 Q):Qv c t u Z H Q:=h
theorem Ol {K:Ld} {ta:TE} {f:Str} (h:ta Z H fun x H1=>∃a C dx fs v,x= .ref a/\H1 a=lD (.ins C dx fs)/\Cls K C/\WN K C f/\fs.lookup f=lD v/\Q v H1):Nd K ta f Z H Q:=h
theorem KI {C:So} {m:Str} {sp:Sp} {E:XK} {ta:TE} {t:TA} (h:ta Z H fun x H1=>∃a dx fs,x= .ref a/\H1 a=lD (.ins C dx fs)/\fs.lookup m=Sg/\t Z H1 fun vs H2=>sp (x::(vs++[])) H2 Q E):uj C m sp [] E ta t Z H Q:=h
theorem JD {C:So} {sp:Sp} {E:XK} {t:TA} (h:t Z H fun vs H1=>∀x dx,H1 x=Sg->H1 dx=Sg->dx≠x->sp (.ref x::(vs++[])) (bx (bx H1 dx (.own x)) x (.ins C dx [])) (fun v H2=>v= .UT/\Q (.ref x) H2) E):zc C sp [] E t Z H Q:=h
end
end L2
local macro_rules| `(tactic|fail "gh")=> `(tactic|repeat (first
 |specialize L2.Ov ?_
 |specialize L2.aij ?_
 |specialize L2.JN ?_
 |specialize L2.Mw ?_
 |specialize L2.Ol ?_
 |specialize L2.KI ?_
 |specialize L2.JD ?_
 |specialize L2.agP ?_
 |((with_reducible show L2.yr _ _ _ _);refine⟨_,rfl,?_⟩)
 |specialize L2.anc ?_
 |specialize L2.Qf ?_
 |specialize L2.ajs ?_
 |specialize L2.ajN ?_
 |specialize L2.amL ?_
 |((specialize L2.alW ?_ ?_);first|exact⟨by decide,by decide⟩|exact⟨by decide,by decide,by decide⟩|exact(show(0:Int)<_ by decide)|exact⟨by decide,by left⟩)
 |((specialize L2.Qi ?_ ?_);exact rfl)
 |((specialize L2.akq ?_ ?_);exact rfl)
 |specialize L2.Mb ?_
 |specialize L2.Ic ?_
 |specialize L2.ai7 ?_
 |specialize L2.agD ?_
 |specialize L2.af5 ?_
 |specialize L2.agA ?_
 |specialize L2.agC ?_
 |specialize L2.ak8 ?_
 |specialize L2.ajA ?_
 |specialize L2.ah5 ?_
 |specialize L2.akt ?_
 |specialize L2.aiD ?_
 |specialize L2.ago ?_
 |specialize L2.aim ?_
 |specialize L2.ag1 ?_
 |specialize L2.Me ?_
 |specialize L2.Jt ?_
 |specialize L2.akl ?_
 |specialize L2.IM ?_
 |specialize L2.ahE ?_
 |specialize L2.aiq ?_
 |specialize L2.aj2 ?_
 |specialize L2.akf ?_
 |specialize L2.aey ?_
 |specialize L2.agZ ?_
 |specialize L2.aiW ?_
 |specialize L2.afj ?_
 |specialize L2.afv ?_
 |specialize L2.ag4 ?_
 |specialize L2.agT ?_
 |specialize L2.ah3 ?_
 |specialize L2.agJ ?_
 |specialize L2.agW ?_
 |specialize L2.afD ?_
 |specialize L2.agi ?_
 |specialize L2.afL ?_
 |specialize L2.ag8 ?_
 |specialize L2.agK ?_))
namespace K72
open PySem L2
section
open L3 L4
variable {P:S0} {w:Tn} {K:Ld} {mg:Str->Option Sh} {base:Heap} {f:So} {fd:TL}
theorem lK:Vc ["self","most"] ["self","most"] (az (aW (top 13) 0)):=⟨rfl,rfl,rfl,by left,rfl,by left,by left⟩
theorem DD {C B fI:So} (F:VT K "__init__" "TooMany.__init__" (aW (top 13) 0) f fd) (o:L9.XC K C B fI) (l:mg "BedError"=lD (.ref B)) (g:YZ K B (.type "type")=Si) (m:Y0 K (.ref B) (.type "type") "__init__"=lD (.val (.builtin "ValueError.__init__")))
  (b:VN K (.ref B) "__getattribute__"=lD (lD (.builtin "type.__getattribute__"))) (j:Ti K (.ref C) "most"=lD Sg):FnOk P w K mg base dG 1 f fd ["self","most"] (L9.xa C "most"):=by
 refine F.ok lK (fun vs H Q E h=> ?_) (fun u A a s H vs Q E t h=> ?_)
 .obtain⟨_,_,rfl,_⟩:=h;rfl
 obtain⟨e,v,rfl,r,n,q⟩:=h;refine⟨_,(am (gq (L9.G1 rfl l g m b o (ah (pv 0) (ah (L9.JP (L9.M6 (by decide) (L9.MM (pv 1) L9.L5)) (by decide)) aB)))) (aR (L9.JT o j (pv 0) (pv 1) rfl))),?_⟩;fail "gh";refine⟨V.ref e,rfl,v,rfl,r,fun y=>⟨e,y,rfl,n,?_⟩⟩;exact⟨v,rfl,V.ref e,rfl,e,rfl,n,fun p j i=>q p j i⟩
end
end K72
namespace K72
open PySem L2
section
variable {P:S0} {w:Tn} {K:Ld} {mg:Str->Option Sh} {base:Heap} {f:So} {fd:TL}
theorem jY:Vc ["_law_bed_here","_law_text_here","_law_most","e"] ["_law_bed_here","_law_text_here","_law_most"] (az (top 29)):=⟨rfl,rfl,rfl,by left,rfl,by left,by left⟩
theorem pQ {C:So} {m:List Sh} (F:VT K "_law_refused" "_law_refused" (top 29) f fd) (Wo:L3.mn P w K mg base (L4.jw P w) 10 "typed" ["bed","text","most"] [] (L10.db K 3 df))
  (XO:mg "TooMany"=lD (.ref C)) (L:L4.aa5 K C m) (bR:m.contains (.type "BaseException")=Si) (nR:SU K SK "TooMany"=lD (lD (.ref C))) (hh:Vb K C=Si) (hp:Ti K (.ref C) "most"=lD Sg):
  FnOk P w K mg base dG 12 f fd ["_law_bed_here","_law_text_here","_law_most"] (L10.db K 3 ci):=by
 refine F.ok jY (fun vs H Q E h=>h.1) (fun Ug A S s H vs Q E hr h=> ?_);have hu:=hr.units;obtain⟨hl,B,α,Z,xs,so,hv,y⟩:=h;obtain⟨b,t,a,Z',rfl,I,U⟩:∃b t a Z',xs=[.fz b,.fz t,.fz (.int a)]/\df [.fz b,.fz t,.fz (.int a)] []= .er ⟨"TooMany",[("most",.int a)]⟩ Z'/\ci xs Z= .ok (.fz (.bool Si)) Z:=by
  have g:ci xs Z≠ .bad:=fun z=>by rw[z] at y;exact y
  clear y;unfold ci at g⊢;split at g
  .rename_i b t a
   refine⟨b,t,a,?_⟩;cases I:df [.fz b,.fz t,.fz (.int a)] [] with
   |bad=>rw[I] at g;exact absurd rfl g
   |ok rv o=>rw[I] at g;exact absurd rfl g
   |er x o=>
    rw[I] at g;obtain⟨xc,xf⟩:=x;dsimp only at g⊢;by_cases M:xc= "TooMany"
    .subst M
     rw[if_pos rfl] at g⊢;split at g
     .rename_i f k
      by_cases hf:f=("most":Str)/\k=a
      .obtain⟨rfl,rfl⟩:=hf;exact⟨o,rfl,rfl,if_pos ⟨rfl,rfl⟩⟩
      .rw[if_neg hf] at g;exact absurd rfl g
     .exact absurd rfl g
    .rw[if_neg M] at g;exact absurd rfl g
  .exact absurd rfl g
 rw[U] at y;obtain⟨R,O,N,rfl,d0,d1,X⟩:∃R O N,vs=[R,O,N]/\L3.DV (L10.ow B α Z) K H R b/\L3.DV (L10.ow B α Z) K H O t/\L3.DV (L10.ow B α Z) K H N (.int a):=by
  cases hv with
  |cons d0 r0=>
   cases r0 with
   |cons d1 r1=>
    cases r1 with
    |cons X r2=>cases r2;exact⟨_,_,_,rfl,d0,d1,X⟩
 cases X;have Y:=L.cl;refine⟨_,(am (L4.Ku (i:=3) (E2:=fun c dx q=>∃j,L10.UD α Z H j Z q/\L10.Td B K q j Z/\c= .ref C/\∃p fs,dx=lD p/\q p=lD (.xd fs)/\fs.lookup ("most":Str)=lD (.int a)) rfl jY.nd rfl rfl rfl XO Y bR rfl rfl
   (fun l σ=>L4.zt rfl Wo rfl rfl rfl rfl rfl hr (ah (pv 0) (ah (pv 1) (ah (pv 2) aB))))
   (fun l e=>by refine aR (dm (iK (ta:=L9.K4 K (yr 3) "most") Qg ?_ (pv 2) (fu _)));refine L9.Iu (pv 3) ?_;rfl)
   (fun c dx q h=>let⟨_,_,_,h,_⟩:=h;⟨C,m,h,Y,by rw[WE,beq_self_eq_true,U9]⟩))
  (aR (dm KS))),?_⟩
 fail "gh";unfold L4.KU;refine⟨?_,fun c dx q U e G he M hd hn=> ?_⟩
 .fail "gh"
  refine L10.ye so hv (F:=df) (n:=3) ?_;show L10.WS K _ B H α Z _ (L10.nu df 3 [.fz b,.fz t,.fz (.int a)] Z);have ce:L10.nu df 3 [.fz b,.fz t,.fz (.int a)] Z= .er ⟨"TooMany",[("most",.int a)]⟩ Z:=by unfold L10.nu;rw[if_pos (show[L10.SV.fz b,.fz t,.fz (.int a)].length=3 from rfl),show L10.aC L10.wo [.fz b,.fz t,.fz (.int a)]=lD [b,t,.int a] from rfl];dsimp only;rw[show[b,t,Sk.int a].map L10.SV.fz=[.fz b,.fz t,.fz (.int a)] from rfl,I]
  rw[ce];rintro c dx j H' u r ⟨⟨a',e1,e2⟩,fs,g2,g3⟩;obtain⟨nn,v,k1,k2⟩:=g3 "most" (.int a) rfl;have e3:=nR.symm.trans e2;cases e3;cases k2;cases dx with
  |none=>exact absurd rfl nn
  |some p=>exact⟨j,u,r,e1,p,fs,rfl,g2 p rfl,k1⟩
 .obtain⟨j,u,r,rfl,p,fs,rfl,hx,T⟩:=U;have J:Uw q (bx q e (.frz G (.own e))):=b4 he _;have eE:(bx q e (.frz G (.own e))) e=lD (.frz G (.own e)):=aG;generalize bx q e (.frz G (.own e))=H2 at J eE;fail "gh";refine⟨.ref e,rfl,e,G,C,m,p,fs,.int a,rfl,eE,M,hd,hn,L,hh,hp,J _ _ hx,T,?_⟩;fail "gh";rw[decide_eq_true rfl];exact y j H2 (u.trans (L10.UD.same J)) (r.grow J) (.bl Si) (.bl Si)
end
end K72
theorem Rs {α:Type}:∀{l:List α},l.length=1->∃a,l=[a]
 |[a],_=>⟨a,rfl⟩
theorem Rz {α:Type}:∀{l:List α},l.length=2->∃a b,l=[a,b]
 |[a,b],_=>⟨a,b,rfl⟩
theorem RF {α:Type}:∀{l:List α},l.length=3->∃a b c,l=[a,b,c]
 |[a,b,c],_=>⟨a,b,c,rfl⟩
theorem R8 {α:Type}:∀{l:List α},l.length=4->∃a b c d,l=[a,b,c,d]
 |[a,b,c,d],_=>⟨a,b,c,d,rfl⟩
local macro_rules| `(tactic|fail "ba")=> `(tactic|(intro _ _ _ _ _ _ us hl;first|(obtain⟨_,h⟩:=Rs hl;subst h;rfl)|(obtain⟨_,_,h⟩:=Rz hl;subst h;rfl)|(obtain⟨_,_,_,h⟩:=RF hl;subst h;rfl)|(obtain⟨_,_,_,_,h⟩:=R8 hl;subst h;rfl)|(match us,hl with|[_,_,_,_,_],_=>rfl)|(match us,hl with|[],_=>rfl)))| `(tactic|fail "bd")=> `(tactic|(intro _ _ _ _ _ _ us hl;first|((have h1:us.length=1:=by simpa using hl);obtain⟨_,h⟩:=Rs h1;subst h;exact⟨_,rfl,rfl⟩)|((have h1:us.length=2:=by simpa using hl);obtain⟨_,_,h⟩:=Rz h1;subst h;exact⟨_,rfl,rfl⟩)|((have h1:us.length=3:=by simpa using hl);obtain⟨_,_,_,h⟩:=RF h1;subst h;exact⟨_,rfl,rfl⟩)|((have h1:us.length=4:=by simpa using hl);(match us,h1 with|[_,_,_,_],_=>exact⟨_,rfl,rfl⟩))))| `(tactic|fail "fl")=> `(tactic|first|exact List.forall_mem_nil _|(refine List.forall_mem_cons.mpr ⟨?_,?_⟩;(·(show Ti _ _ _=_;k_is));fail "fl"))| `(tactic|fail "ki")=> `(tactic|first|(refine' L3.NI.mk ?a' ⟨_,L2.FW ?b' ?c' ?d'⟩;(case a'=>k_is);(case b'=>k_is);(case c'=>k_is);(case d'=>k_is))|(refine' L3.MI.mk ?a' ?e' ⟨_,L2.FW ?b' ?c' ?d'⟩;(case a'=>k_is);(case e'=>k_is);(case b'=>k_is);(case c'=>k_is);(case d'=>k_is))|(refine' L3.CI.mk ?a' ?b' ?c' ?d' ?e' ?f' ?g' ?i';(case a'=>k_is);(case b'=>k_is);(case c'=>k_is);(case d'=>k_is);(case e'=>k_is);(case f'=>k_is);(case g'=>k_is);(case i'=>fail "fl"))|(refine' L3.DI.mk ?a' ⟨_,L3.JA ?b' ?c' ?d' ?e'⟩;(case a'=>k_is);(case b'=>k_is);(case c'=>k_is);(case d'=>k_is);(case e'=>k_is))|k_is|k_exc|rfl|left|(rw[<-ab5];rfl))
namespace K72
open PySem L2 L3
def F_lawH:FN:=L10.Pz F_law
theorem all_mk {l:abM} {w:Tn} {K:Ld} {h:Heap} {mg:Str->Option Sh} {fa:So}
  {acn:Tok}
  {XD:So} {adg:Nat} {ac1:Array (Option Sh)}
  {abH:Tok}
  {UJ:So} {acp:Nat} {acE:Array (Option Sh)}
  {XF:So} {ZQ:Nat} {ZT:Array (Option Sh)}
  {UY:So} {abd:Nat} {aa4:Array (Option Sh)}
  {Zi:So} {WH:Tok}
  {ac5:So} {Zf:Tok}
  {f0 f1 f2 f3 f4 f5 f6 f7 f8 f9 f10 f11 f12 f13 f14 f15 f16 f17 f18 b f20 f21 f22 f23 f24 f25 f26 f27 f28 f29 f30 f31 f32 f33 n f35 f36 f37 q:So}
  {g o:So}
  {nmR qR:Str} {N:So} {bsR:List Sh} {T:List Str} {aiM:List Sh} {abR:Bool} {ahC:Option Bool} {ddR:Option So} {k0R k1R k2R k3R k5R:Option Sh}
  {ocN:Sh} {odN:Option So} {A:Array V5} {nN:Nat} {U:Array (Option Sh)} (X:K.In h) (G:h.Ns SK mg) (hfa:mg "law"=lD (.ref fa))
  (h0:NI K f0 "layer_of" (top 4))
  (h1:NI K f1 "looked_up" (top 8))
  (h2:NI K f2 "chords_over" (top 9))
  (h3:NI K f3 "chord_acts" (top 10))
  (h4:NI K f4 "_law_cell" (top 23))
  (h5:NI K f5 "_law_draw" (top 24))
  (h6:NI K f6 "_law_meaning" (top 25))
  (h7:NI K f7 "_law_bed" (top 26))
  (h8:NI K f8 "_law_text" (top 27))
  (h9:NI K f9 "_law_types" (top 28))
  (h10:NI K f10 "events_of" (top 15))
  (h11:NI K f11 "done_behind" (top 21))
  (h12:NI K f12 "step" (top 5))
  (h13:NI K f13 "play" (top 6))
  (h14:NI K f14 "places_on" (top 20))
  (h15:DI K f15 Zi "typing_rooms" (top 18) #[.int 400 WH])
  (y:DI K f16 ac5 "typed" (top 19) #[.int 400 Zf])
  (h17:NI K f17 "_law_refused" (top 29))
  (h18:NI K f18 "law" (top 30))
  (a:CI K b "Hand" ["bed","acts","waiting","once","sent"])
  (h20:MI K b f20 "__init__" "Hand.__init__" (aW (top 7) 0))
  (h21:MI K b f21 "stands" "Hand.stands" (aW (top 7) 1))
  (h22:MI K b f22 "is_waiting" "Hand.is_waiting" (aW (top 7) 2))
  (h23:MI K b f23 "has_act" "Hand.has_act" (aW (top 7) 13))
  (h24:MI K b f24 "come" "Hand.come" (aW (top 7) 11))
  (h25:MI K b f25 "go" "Hand.go" (aW (top 7) 12))
  (h26:MI K b f26 "decide" "Hand.decide" (aW (top 7) 10))
  (h27:MI K b f27 "makes_chord" "Hand.makes_chord" (aW (top 7) 4))
  (h28:MI K b f28 "put_to_chord" "Hand.put_to_chord" (aW (top 7) 5))
  (h29:MI K b f29 "begin" "Hand.begin" (aW (top 7) 6))
  (h30:MI K b f30 "press" "Hand.press" (aW (top 7) 3))
  (h31:MI K b f31 "settle" "Hand.settle" (aW (top 7) 8))
  (h32:MI K b f32 "lift" "Hand.lift" (aW (top 7) 7))
  (h33:MI K b f33 "wait_on" "Hand.wait_on" (aW (top 7) 9))
  (m:CI K n "Places" ["most","found","numbers"])
  (h35:MI K n f35 "enter" "Places.enter" (aW (top 16) 1))
  (h36:MI K n f36 "__init__" "Places.__init__" (aW (top 16) 0))
  (h37:MI K n f37 "way_to" "Places.way_to" (aW (top 16) 2))
  (Ye:SU K SK "TooMany"=lD (lD (.ref g)))
  (aaz:SU K SK "BedError"=lD (lD (.ref o)))
  (xR:K.lookup g=lD (excClassObj nmR qR g N bsR (.ref o::[.type "ValueError",.type "Exception",.type "BaseException",.type "object"]) Si T aiM abR ahC ddR k0R k1R k2R k3R k5R "ValueError.__new__"))
  (eI:X0 K o [.type "ValueError",.type "Exception",.type "BaseException",.type "object"] "ValueError.__new__"=Si)
  (lN:K.lookup N=lD ⟨ocN,odN,.dict A nN,U⟩)
  (p:(A.all fun e=>match e.key with| .str _ _=>Si|_=>Sq)=Si)
  (inN:SU K N "__init__"=lD (lD (.ref q)))
  (Y:Ti K (.ref g) "__setattr__"=lD (lD (.builtin "object.__setattr__")))
  (t:Ti K (.ref g) "most"=lD Sg)
  (Z:YZ K o (.type "type")=Si)
  (fcB:Y0 K (.ref o) (.type "type") "__init__"=lD (.val (.builtin "ValueError.__init__")))
  (S:VN K (.ref o) "__getattribute__"=lD (lD (.builtin "type.__getattribute__")))
  (gaR:Ti K (.ref g) "__getattribute__"=lD (lD (.builtin "BaseException.__getattribute__")))
  (gtR:Ti K (.ref g) "__getattr__"=lD Sg)
  (csR:Ti K (.ref g) "__class__"=lD (lD (.builtin "object.__class__")))
  (obR:acH K g (.type "object")=lD Si)
  (hdR:Vb K g=Si)
  (u:MI K g q "__init__" "TooMany.__init__" (aW (top 13) 0))
  (ac8:SU K SK "NONE"=lD (lD (.ref XD)))
  (aci:SU K SK "CHORD"=lD (lD (.ref UJ)))
  (aa8:SU K SK "AT_REST"=lD (lD (.ref UY)))
  (aaV:K.lookup UY=lD ⟨.type "tuple",Sg,.seq #[.ref XF,.none,.none] abd,aa4⟩)
  (ZW:K.lookup XF=lD ⟨.type "tuple",Sg,.seq #[] ZQ,ZT⟩)
  (ab9:K.lookup UJ=lD ⟨.type "tuple",Sg,.seq #[.str "chord" abH] acp,acE⟩)
  (ac4:K.lookup XD=lD ⟨.type "tuple",Sg,.seq #[.str "none" acn] adg,ac1⟩)
  (y0:SU K SK "max"=lD Sg)
  (y1:SU K SK "all"=lD Sg)
  (y2:SU K SK "list"=lD Sg)
  (y3:SU K SK "sorted"=lD Sg)
  (y4:SU K SK "len"=lD Sg)
  (y5:SU K SK "range"=lD Sg)
  (y6:SU K SK "tuple"=lD Sg)
  (y7:SU K SK "isinstance"=lD Sg)
  (y8:SU K SK "dict"=lD Sg)
  (y9:SU K SK "zip"=lD Sg)
  (R:SU K SK "reversed"=lD Sg):
  ∃fd:TL,(∀(s:Sr) (v:Sh),X5 s fd ⟨[v],[]⟩ [("_law_script",v)])/\∀base:Heap,K.In base->base.Ns SK mg->FnOk l.prog w K mg base dG 13 fa fd ["_law_script"] (L3.pp K 1 F_lawH):=by
 have B:=TU X G y0;have acu:=TU X G y1;have I:=TU X G y2;have XG:=TU X G y3;have j:=TU X G y4;have Vz:=TU X G y5;have Xf:=TU X G y6;have Yy:=TU X G y7;have acf:=TU X G y8;have adz:=TU X G y9;have X9:=TU X G R;have ZR:=Iw (xs:=[.str "none"]) (ds:=[(.str "none")]) ac4 (by show 1<=SD;decide) (.cons ⟨_,rfl⟩ .nil) fun O H=>(.cons (.str _) .nil);have E:=Iw (xs:=[.str "chord"]) (ds:=[(.str "chord")]) ab9 (by show 1<=SD;decide) (.cons ⟨_,rfl⟩ .nil) fun O H=>(.cons (.str _) .nil);have aar:=Iw (xs:=[]) (ds:=[]) ZW (by show 0<=SD;decide) .nil fun O H=> .nil;have L:=Iw (xs:=[.ref XF,.UT,.UT]) (ds:=[(.tuple []),.none,.none]) aaV (by show 3<=SD;decide) (.cons rfl (.cons rfl (.cons rfl .nil))) fun O H=>(.cons (aar O H) (.cons .UT (.cons .UT .nil)));have Z8:=Uy X G ac8;have C:=Uy X G aci;have J:=Uy X G aa8;refine h18.law X G hfa (by fail "ba") fun base fd aek=> ?_;have W:Tp l.prog w K mg base h:=⟨X,G⟩;have Xe:=h0.c W fun _ z=>xB z B;have YV:=h1.c W fun _ z=>vN z;have US:=h2.c W fun _ z=>sD z acu;have Yv:=h3.c W fun _ z=>tQ z I XG j Z8 ZR;have VG:=h4.c W fun _ z=>vW z j;have U3:=h5.c W fun _ z=>vB z;have Wy:=h6.c W fun _ z=>pL z U3 B;have Zk:=h7.c W fun _ z=>yu z VG U3 Wy Vz Xf j;have YU:=h8.c W fun _ z=>vI z VG U3 Vz;have XB:=h10.c W fun _ z=>wJ z Vz;have WM:=h11.c W fun _ z=>rZ z j;have f:=a.cf;have r:=m.cf;have p:Zc K N=Si:=by unfold Zc;rw[lN];exact p
 have XR:L4.CT K g (.ref o::[.type "ValueError",.type "Exception",.type "BaseException",.type "object"]):=⟨_,_,_,_,_,_,_,_,_,_,_,_,_,_,_,_,xR⟩;have LR:L4.aa5 K g (.ref o::[.type "ValueError",.type "Exception",.type "BaseException",.type "object"]):=⟨XR,rfl,gaR,gtR,csR,obR⟩;have Zh:L9.XC K g o q:=⟨⟨_,_,_,_,_,_,_,_,_,_,_,_,_,_,xR,p,inN⟩,eI,Y⟩;have XO:=Uy X G Ye;have abc:=Uy X G aaz;obtain⟨fdI,Q⟩:=u.F;obtain⟨_,_,_,_,_,_,_,_,_,rfl,X8,_⟩:=Q.ex;have Yc:=u.i;have Yd:=DD (P:=l.prog) (w:=w) (mg:=mg) (base:=base) Q Zh abc Z fcB S t;have Yb:=Q.binds (ps:=["self","most"]) (by fail "ba");have abp:=h20.k a W fun _ z=>ou z f acf;have U0:=h21.mt a W fun _ z=>sU z f Xf XG;have U5:=h22.mt a W fun _ z=>mf z f;have Vy:=h23.mt a W fun _ z=>pz z f I;have Vn:=h24.mt a W fun _ z=>vv z f Vy;have Zm:=h25.mt a W fun _ z=>Ah z f Vy;have M:=h26.mt a W fun _ z=>rb z f Vn Yv adz C E;have Wl:=h27.mt a W fun _ z=>lG z f U0 Xe US C E;have Wd:=h28.mt a W fun _ z=>kz z f M US j C E;have X4:=h29.mt a W fun _ z=>tH z f U0 Vn Xe YV US C E Z8 ZR;have X3:=h30.mt a W fun _ z=>tL z f U5 Wl Wd M X4;have Xy:=h31.mt a W fun _ z=>rT z f M Vn C E;have Yt:=h32.mt a W fun _ z=>wG z f U5 Xy Zm;have Xi:=h33.mt a W fun _ z=>pO z f M;have Zl:=h12.c W fun _ z=>Ir z f abp Xi X3 Yt U0;have acq:L3.je l.prog w K mg base 9 "play" ["bed","events"] 2 rK:=h13.cal X G (by fail "ba") fun _ z=>(JY z Zl J L).imp (fun _ _ _ _ h=>L10.Oj h);have UG:=h35.mt m W fun _ z=>pS z r Zh X8 Yc Yd Yb Ye XO j;have YK:=h36.k m W fun _ z=>lW z r UG;have Vm:=h37.mt m W fun _ z=>n9 z r I X9;have UR:=h14.d W fun _ z=>wH z r YK UG Zl XB WM j J L;have V4:L3.mn l.prog w K mg base (L4.jw l.prog w) 10 "typing_rooms" ["bed","text","most"] [.int 400] (L10.db K 3 ez):=h15.c (ds:=[.int 400 WH]) (dvs:=[.int 400]) W (.cons ⟨_,rfl⟩ .nil) fun _ z=>pH z r UR;have YI:L3.mn l.prog w K mg base (L4.jw l.prog w) 10 "typed" ["bed","text","most"] [.int 400] (L10.db K 3 df):=y.c (ds:=[.int 400 Zf]) (dvs:=[.int 400]) W (.cons ⟨_,rfl⟩ .nil) fun _ z=>xp z r UR Vm j J L;have Wo:L3.mn l.prog w K mg base (L4.jw l.prog w) 10 "typed" ["bed","text","most"] [] (L10.db K 3 df):=y.c (ds:=[]) (dvs:=[]) W .nil fun _ z=>xp z r UR Vm j J L;have XI:=h17.c W fun _ z=>pQ z Wo XO LR rfl Ye hdR t;have Ys:=h9.c W fun _ z=>tP z acq Yy I;exact(No aek V4 Wo YI XI Zk YU Ys j).imp (fun _ _ _ _ h=>L10.N3 h)
end K72
inductive PySem.W.Fast|tw9417705508637737477|tw17125695213939102765|tw12135502777113930113|tw11104762649444641664|tw1590305310013149474|tw5639041968185786197|tw16084482092148621427|tw9563359154933336545|tw5938181230318839903|tw3282277172048572461|tw8711682399369692790|tw15266883029330021606|tw2085972163116906023|tw8458937146950707937|tw15237008322809361480|tw777927950342635460|tw6828964415559158610|tw14755316236662437360|tw15865253174505523708|tw1547813527283772290|tw1090560217166633008|tw1589407443282837822|tw3057693885587725144|tw13584922001658792323|tw11344050470409154286|tw9066188342271515083|tw5334075743828397373|tw4396974237164196244|tw15373708218080860872|tw10128934740134845866|tw840155406130350311|tw13178577188053977755|tw6370959228543630816|tw14559083476322749695|tw14034552277837164035|tw11214331375559519007|tw5214414775305585601|tw16001312921702592501|tw18006640701585889736|tw986602851370194641|tw9007546463507966975|tw5362812658360846040|tw18187722828979071099|tw15063763472483188746|tw12607300653348794093|tw18406095632480078146|tw16248273800096958303|tw13464538164079792585|tw11065129010976946920|tw11537833059102033213|tw13874820811245069641|tw17425169787221305894|tw17598799192044999812|tw13495851752631119648|tw732274518126902661|tw15681206099587614889|tw6075185698544745265|tw7341486503346056825|tw16364846853397733269|tw9873053494278910046|tw11945260695406842903|tw772901487127699058|tw17591777108340969808|tw17437700049313471638|tw17811140169477619072|tw5661422282079511582|tw8066690834864687976|tw11678995750490371662|tw11473716551821965368|tw10966303656774773337|tw9841160114993210386|tw6044227182935890840|tw16409336880142798650|tw8052365037871363800|tw4642864149831720329|tw15082200646748981563|tw14161481451349639498|tw866970704620218165|tw14173803443202638087|tw16433880938122527088|tw8780914474488000214|tw13875230550579517762|tw12949964448062696333|tw8697325520585435080|tw16761150131338997411|tw15836302533670556213|tw5050646834797031048|tw17610549732577784350|tw13731099448892064070|tw11579443003472086820|tw10001783304776864177|tw11961341209635694340|tw5908589978487620208|tw5803065383709168759|tw2649836557581216112|tw17756827980417693861|tw9916171686763807294|tw6874477811831386536|tw14775216134774600014|tw597043742229109712|tw1204392603309615117|tw11110664543422201111|tw16901259372097281944|tw12352507084091679426|tw7626670028909089762|tw6941245610256674834
open PySem PySem.W PyProof.Rows
set_option maxRecDepth 100000 in
set_option maxHeartbeats 0 in
theorem PySem.Challenge.cw_chordbed_k72_typed_holds : PySem.Challenge.rw_chordbed_k72_typed.Holds := by
 w_on;o_law;k_head;(case hw=>w_witness2)
 k_fill
 refine L3.Px (l:=PySem.Challenge.rw_chordbed_k72_typed) (n:=63) (k:=13) (x:= "_law_script") (F:=K72.F_lawH) rfl (by decide) rfl ⟨rfl,by decide,by decide⟩ (fun w h Y=>PySem.W.kIn_of Y) ?F K72.main
 case F=>
  intro w e f h b G a
  apply K72.all_mk b G a
  all_goals fail "ki"
