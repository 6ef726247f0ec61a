import PyProof.Rows.All
import Wide.All
import OpenK.AllK
import Wide.FinOn
import Lean
import PyProof.EqAt
import PyProof.EqKinds
import PyProof.TupleCall
import KE.KIntText
import KE.KRevSl
import PyProof.Rows.SeqMore
import PyProof.WalkInts
import PyProof.Rows.MinMaxN
import PyProof.ExcInit
import OpenK.KMake
import PyProof.InstStoreFacts
import PyProof.FString2
import PyProof.Rows.FStr
import PyProof.Rows.SetFrom
import PyProof.SeqRoads2
import PyProof.RangeFor
import PyProof.WalksMore
import PyProof.StrBlock2
import PyProof.Rows.SortShell
import PyProof.TupleOfSeq
import KE.KDictList
import KE.KDictOf
import PyProof.IsiH_tuple
import PyProof.Rows.RuleN_abs
import PyProof.Rows.Range3
import KE.KRevIter
import PyProof.StrLawsRepr
import PyProof.ReprStr
import PyProof.IsiH_list
import PyProof.Rows.TupDisplay
import PySem.Challenge.RW_chordbed_k42_states_as_they_come
set_option compiler.extract_closed false
set_option genSizeOf false
set_option genInjectivity false
set_option Elab.async false
set_option linter.all false
set_option maxRecDepth 100000
local macro_rules|`(tactic|left)=>`(tactic|decide+kernel)|`(tactic|change $e)=>`(tactic|with_reducible exact $e)|`(tactic|specialize $e)=>`(tactic|with_reducible refine $e)
local macro_rules|`(tactic|exists $e)=>`(tactic|with_reducible apply $e)|`(def $i:declId $s:optDeclSig $v:declVal)=>`(noncomputable def $i:declId $s:optDeclSig $v:declVal)|`(abbrev $i:declId $s:optDeclSig $v:declVal)=>`(noncomputable abbrev $i:declId $s:optDeclSig $v:declVal)
local macro_rules|`(tactic|omega)=>`(tactic|lia)
open Option renaming some->lD,none->Sw,isSome_map->Yy,getD_some->YL,isSome_iff_exists->Zv,map_eq_some_iff->ZZ,isSome_some->abc,toList_none->abf
open PySem.W renaming Frag->Ld,nsIn->Ta,findIn->TR,mg_none_of->T3,emptyDict->Ut,fnOf->Uu,keepIn->UH,mg_of->UN,instObj->UY,isFn->Vv,kia_one->VH,specialIn->VW,cellsFrom_some->VX,plainGet->V5,codeIn->Wv,hasDictIn->WH,methodCall_KW->Xl,lookIn->Xq,tailIn->Xv,plainGet_of->XT,excIn->XW,callWith_K->X7,methodObj->Yk,plainOver->Yl,takerIn->YS,makesIn->YT,readsIn->YW,findCls->YX,nsOkIn->Y7,pyHash_slot->aaA,tail_of_in->aaL,handedIn->abl,OpenLaw->abD,typeIn->abM,kitOne->abN,clsIn->acq
open PySem renaming wpAny_bind->Sv,Value->Sx,PyData->SG,Addr->SI,Shared->SK,wpAny_pure->SQ,sizeLine->SY,mainGlobals->S4,Program->Te,starEach->To,Around->Tw,NameKind->Tx,World->TF,wpAny_field->TH,Expr->T4,Builtin->Ua,FuncData->Uc,bootBuiltins->Ue,wpAny_setField->Uo,sysModules->Us,wpAny_seqItems->UA,swapsWith->UB,compareOp->UJ,wpAny_holding->UK,mem_of_lookup->UM,wpAny_truthy_bool->UQ,wpAny_newObj_type->UR,binaryOp->UX,cellsFrom->U0,Stmt->U6,sizeLine_eq->U9,wpAny_loadPart_at->Va,wpAny_standAt->Vd,wpAny_callSpecial?_slot->Vi,wpAny_setField_rec->Vo,wpAny_passesOwn->Vu,Scope->VJ,wpAny_letGo->VN,wpAny_call_entry->VT,plainId_quiet->VZ,codeAny_builtin->V3,wpAny_Call_Name_kw->V7,DictEntry->Wc,ExcBaseFacts->Wl,codeAny_call_builtin->WA,wpAny_execs_nil->WJ,wpAny_pyIter_list->WM,wpAny_isSubtype_exc->WN,call_meets->W6,wpAny_rule->W7,wpAny_comprehension_free->Xu,GenState->XQ,PassesOwn->XS,BindsTo->X4,wpAny_call->X5,codeAny_mono->X6,wpAny_pyIter_tuple->Yn,wpAny_updateSeq_pair->YD,wpAny_tryCatch->YE,wpAny_onRaise->Y2,typeIs_int->Y5,tupleKind_room_in1->Y6,Keyword->Zm,ZipApart->Zo,call_meetsIn->Zp,wpAny_Call_ofName->Zq,eqIsQuiet_byValue->Zr,plainObj_wpAny_Assign_Attribute->Zu,Result->ZG,wpAny_isInstance->ZI,wpAny_of_eq->ZY,Within->aae,pushCells_keeps->aaf,wpAny_updateSeq->aah,OsState->aaz,Code->aaI,ReadsAll->aaJ,IsZip->aaK,wpAny_binaryOp_repeat_ref->abd,Drawn->abB,Model->abC,wpAny_Assign_Subscript->abO,wpAny_typeOf->abP,wpAny_isTrue_Compare1->aco,builtinLookup_eq_fast->acs,wpAny_notOrdered_dict->acu,Reads->acB,wpAny_mkInt->acF,wpAny_raiseNew_none->ac6,wpAny_Name->adw,wpAny_Constant_int->adx,wpAny_load->adz,wpAny_getItem_heap->adB,wpAny_setItem_heap->adC,wpAny_entryPlaceOf->adD,passOn->adE,wpAny_assign_Name->aef,wpAny_Call_method->aeg,wpAny_frameOf_fun->aeh,OwnTail->aei,wpAny_dictEntries->aej,wpAny_pyHash_int->aeI,wpAny_pyHash_str->aeJ,wpAny_execs_cons->aeK,wpAny_lookBehind->aeM,pastItsLine_dict->aeN,noFill_tuple_add->aeO,call->aeQ,wpAny_pyIter_zip->aeS,beq_builtin_none->aeT,wpAny_specialOf->afP,typeLookup_type->afQ,size_of_entries->afT,wpAny_loadPart->agW,refuseLoop_ref->ag3,HeapKind->ag4,intBits_le_64->ai1,seq_tuple_add->ai2,call_list_seq->ai3,eval_ListComp->ai4,wpAny_attempt->ai5,strLen_append->ai6,wpAny_newList->ai7,ItemsOf->ai8
open List renaming length_map->Sy,getElem?_eq_some_iff->SD,length_append->SH,range->SJ,getElem?_eq_getElem->SM,replicate->SS,getElem?_map->SX,length_range->S0,getElem?_append_left->S1,mem_cons_of_mem->S2,length_cons->S3,mem_cons_self->S5,map_cons->S6,size_toArray->S8,lookup_cons->Tb,map_append->Tc,mem_singleton->Td,append_assoc->Tg,map_map->Tj,mem_cons->Tq,append_nil->Tr,mem_of_getElem?->Tt,mem_map->Tv,length_replicate->TB,getElem?_append_right->TC,mem_range->TL,Nodup->TN,find?_cons->TQ,getElem?_set_ne->TY,mem_append->TZ,getElem?_set_self->T6,mem_append_right->T8,replicate_succ->Ub,length_set->Ug,getElem?_set->Uk,map_congr_left->Uz,not_mem_nil->UE,nodup_cons->UL,length_take->UT,all_eq_true->UU,length_nil->U2,flatten_cons->U4,take_add_one->U5,getElem?_replicate->Vb,getElem_mem->Vc,lookup->Vg,mem_filter->Vj,lookup_cons_self->Vn,prefix_refl->Vz,drop_eq_getElem_cons->VD,nil_append->VS,map_nil->V0,drop_eq_nil_of_le->V1,nodup_append->V4,mem_iff_getElem?->Wf,any_cons->Wk,mem_append_left->Wn,of_mem_zip->Ws,range_succ->Wu,mem_filterMap->WG,pairwise_cons->WI,pairwise_map->WT,foldl_append->WU,filter_cons->Xg,take_length->Xh,foldl->Xn,take_of_length_le->Xo,foldl_cons->Xr,forIn_cons->Xt,length_singleton->XI,length_filter_le->XJ,length->XU,nodup_nil->XX,take_zero->XY,filterMap_cons->Yi,contains_cons->Yz,any_eq_true->Y3,forIn_nil->ZA,mem_of_find?_eq_some->ZJ,filterMap_cons_none->aaa,filterMap_cons_some->aab,getElem?_cons_succ->aag,getElem?_cons_zero->aai,pairwise_lt_range->aaD,mem_iff_getElem->abe,getElem_toArray->abg,getElem?_range->abm,set_cons_zero->abE,set_cons_succ->abF,prefix_append->abG,map_singleton->abH,zipIdx_cons->acp,cons_append->acr,zipIdx_nil->acE,length_zip->acH,all_map->aek,set->aja
open Bool renaming true->Sz,false->SN,false_ne_true->S9,and_eq_true->Ts,and_self->Vl,false_eq_true->VV,true_or->V2,or_eq_true->Wt,false_and->WE,false_or->W4,true_and->Yo,and_true->Yp,or_true->YM,not_true->Z8,or_eq_false_iff->abh,eq_iff_iff->acD,or_false->adA
open Nat renaming le_of_ble_eq_true->SR,le_refl->SU,lt_of_lt_of_le->Tf,ne_of_lt->Th,le_trans->TJ,zero_le->T5,zero_add->Ud,lt_irrefl->Ui,ne_of_gt->Ul,add_assoc->UI,le_of_eq->V6,lt_trans->V8,lt_succ_self->Wj,le_of_lt->Wz,le_of_succ_le->W2,lt_succ_of_lt->W3,add_sub_cancel_left->Xm,mul_le_mul->X8,lt_of_le_of_lt->YC,lt_of_le_of_ne->YF,add_comm->YU,lt_trichotomy->YZ,le_succ->Zj,min_le_right->acC,le_add_right->acG,not_lt_zero->ac8,succ_mul->aeP,sub_self->aeU,lt_or_ge->aeX,max_le->ag5
open Option.some renaming inj->S7
open PyProof.Rows renaming envOfC->Tn,callWith_type1->Wb,callWith_builtin1->afO,kws_cons->afR,kws_nil->afS
open Array renaming getElem?_eq_some_iff->Tu,length_toList->Uh,getElem?_setIfInBounds_self_of_lt->UG,getElem?_setIfInBounds_ne->V9,getElem?_toList->aaB,find?_toList->abk,forIn_toList->abn,toList->ady
open Int renaming toNat_natCast->Um,le_refl->W5,toNat_of_nonneg->Ym,ofNat->Y8,fdiv_eq_ediv_of_nonneg->ZF,toNat->aaC,emod_lt_of_pos->abQ,le_antisymm->ac5,emod_nonneg->ac7,zero_add->aeR
open PySem.F renaming plainAttrs_list->Ur,slot_list_append->UC,type_list_append->UD,excBase_ValueError->Vp,plainAttrs_dict->VQ,slot_dict_values->WK,slot_dict_setdefault->YY,slot_dict_getitem->Zk,args_tuple_add_2->Zn,type_dict_values->Zs,entry_tuple_add->Zw,slot_list_index->ZC,slot_tuple_add->ZH,slot_dict_pop->Z7,slot_dict_len->Z9
open Nat.le renaming dest->Vs
open PySem.SeqAt renaming eqv_refl->W8,compareEq_reads->agX,compareNe_reads->agY,in_list_reads->agZ,in_tuple_reads->ag0,notIn_list_reads->ag1,notIn_tuple_reads->ag2
open List.Pairwise renaming nil->Xs,filterMap->aeV,filter->aeW
open List.Perm renaming refl->YV,swap->akt
open PySem.PassesOwn renaming never->adF
open PySem.W.Looks renaming here->aeL
open PySem.Within renaming cons->afN
open List.Nodup renaming sublist->ai9
open PySem.IsL renaming update->aks
open List.cons renaming injEq->aku
namespace L2
open PySem PySem.Spec PyProof.Rows
abbrev cT:=Sum Int Str
def vh:cT->Sx->Bool
 | .inl k,v=>Sx.isInt k v
 | .inr x,v=>Sx.isStrOf x v
def Rr (w:TF):cT->Int
 | .inl k=>hashInt k
 | .inr x=>hashStr w x
theorem dh:∀{k:cT} {v:Sx},vh k v=Sz->(∃i t,k=Sum.inl i/\v=Sx.int i t)\/(∃x t,k=Sum.inr x/\v=Sx.str x t)
 | .inl i,v,h=>by obtain⟨t,e⟩:=Sx.isInt_shape h;exact .inl ⟨i,t,rfl,e⟩
 | .inr x,v,h=>by obtain⟨t,e⟩:=Sx.isStrOf_shape h;exact .inr ⟨x,t,rfl,e⟩
theorem DR (i:Int) (t:Tok):vh (.inl i) (.int i t)=Sz:=by simp[vh,Sx.isInt]
theorem D4 (x:Str) (t:Tok):vh (.inr x) (.str x t)=Sz:=by simp[vh,Sx.isStrOf]
theorem Oo (a b:Int):decide ((Sum.inl a:cT)=Sum.inl b)=(a==b):=by
 by_cases e:a=b
 .subst e;simp
 .have h:¬(Sum.inl a:cT)=Sum.inl b:=fun q=>e (Sum.inl.inj q);rw[decide_eq_false h];exact(beq_eq_false_iff_ne.mpr e).symm
theorem Oh (a b:Str):decide ((Sum.inr a:cT)=Sum.inr b)=decide (a=b):=by
 by_cases e:a=b
 .subst e;simp
 .have h:¬(Sum.inr a:cT)=Sum.inr b:=fun q=>e (Sum.inr.inj q);rw[decide_eq_false h,decide_eq_false e]
theorem Oq (a:Int) (b:Str):decide ((Sum.inl a:cT)=Sum.inr b)=SN:=decide_eq_false (fun q=>nomatch q)
theorem Pt (a:Str) (b:Int):decide ((Sum.inr a:cT)=Sum.inl b)=SN:=decide_eq_false (fun q=>nomatch q)
def dj (prog:Te) (w:TF):PySem.KeyKind prog w cT where
 is:=vh
 hash:=Rr w
 inj:=fun v a b ha g=>by
  rcases dh ha with⟨i,t,rfl,rfl⟩|⟨x,t,rfl,rfl⟩
  .rcases dh g with⟨j,u,rfl,e⟩|⟨y,u,rfl,e⟩
   .injection e with e1 _;rw[e1]
   .exact nomatch e
  .rcases dh g with⟨j,u,rfl,e⟩|⟨y,u,rfl,e⟩
   .exact nomatch e
   .injection e with e1 _;rw[e1]
 byValue:=fun k v h=>by rcases dh h with⟨i,t,rfl,rfl⟩|⟨x,t,rfl,rfl⟩<;>rfl
 pyHash:=fun f h=>by
  rcases dh f with⟨i,t,rfl,rfl⟩|⟨x,t,rfl,rfl⟩
  .exact aeI h
  .exact aeJ h
 eqBool:=fun l f h=>by
  rcases dh l with⟨i,t,rfl,rfl⟩|⟨x,t,rfl,rfl⟩
  .rcases dh f with⟨j,u,rfl,rfl⟩|⟨y,u,rfl,rfl⟩
   .rw[Oo] at h;exact wpAny_eqBool_int h
   .rw[Oq] at h;exact SeqAt.EqAt.int_str i t y u _ _ _ _ h
  .rcases dh f with⟨j,u,rfl,rfl⟩|⟨y,u,rfl,rfl⟩
   .rw[Pt] at h;exact SeqAt.EqAt.str_int x t j u _ _ _ _ h
   .rw[Oh] at h;exact wpAny_eqBool_str h
 «strs»:=fun k x t v h=>by
  rcases dh h with⟨i,u,rfl,e⟩|⟨y,u,rfl,e⟩
  .exact nomatch e
  .injection e with e1 _
   subst e1;cases v<;>rfl
theorem yi (prog:Te) (w:TF) (i:Int) (t:Tok):(dj prog w).is (.inl i) (.int i t)=Sz:=DR i t
theorem yg (prog:Te) (w:TF) (x:Str) (t:Tok):(dj prog w).is (.inr x) (.str x t)=Sz:=D4 x t
inductive V where
 |Vh|bl (b:Bool)|int (i:Int)|str (x:Str)|byt (b:Array UInt8)|flt (b:UInt64)|ref (a:SI)|ty (n:String)
 deriving DecidableEq
def RelV:V->Sx->Prop
 | .Vh,u=>u=Sx.none
 | .bl b,u=>u=Sx.bool b
 | .int i,u=>∃t,u=Sx.int i t
 | .str x,u=>∃t,u=Sx.str x t
 | .byt b,u=>∃t,u=Sx.bytes b t
 | .flt b,u=>∃t,u=Sx.float b t
 | .ref a,u=>u=Sx.ref a
 | .ty n,u=>u=Sx.type n
abbrev Vals:List V->List Sx->Prop:=Paired RelV
theorem Vals.length (r:Vals xs us):xs.length=us.length:=Paired.length r
theorem Vals.get:∀{xs:List V} {us:List Sx} {i:Nat} {x:V},Vals xs us->xs[i]? =lD x->∃u,us[i]? =lD u/\RelV x u
 |_,_,_,_,.nil,e=>by simp at e
 |_,_,0,_,.cons r _,e=>by simp at e;subst e;exact⟨_,rfl,r⟩
 |_,_,i+1,x,.cons _ t,e=>by obtain⟨u,b,a⟩:=Vals.get t (by simpa using e);exact⟨u,by simpa using b,a⟩
theorem Vals.append:∀{xs a:List V} {us ws:List Sx},Vals xs us->Vals a ws->Vals (xs++a) (us++ws)
 |_,_,_,_,.nil,s=>s
 |_,_,_,_,.cons r t,s=> .cons r (Vals.append t s)
def WZ:Option V->Option Sx->Prop
 |some v,lD u=>RelV v u
 |none,Sw=>True
 |_,_=>False
def KV:List (κ×V)->List (κ×Sx)->Prop:=Paired fun(p:κ×V) (q:κ×Sx)=>p.1=q.1/\RelV p.2 q.2
def kV:cT->V
 | .inl i=> .int i
 | .inr x=> .str x
inductive HO where
 |lst (xs:List V)
 |tup (xs:List V)
 |dK (Ti:List (cT×V))|dT (Ti:List (List cT×V))
 |set (S:Int->Bool) (n:Nat)
 |ins (C dx:SI) (fs:List (Str×V))
 |own (x:SI)
 |xd (fs:List (Str×V))
 |met (f x:SI)
 |rng (lo hi:Int)
 |frz (o:Obj) (u:HO)
 |tbl (ps:Array Sx)
 |ext (φ:Heap->Prop)
 |exw (φ:TF->Heap->Prop)
abbrev Hp:=SI->Option HO
def bJ (H:Hp) (a:SI) (o:HO):Hp:=fun b=>if b=a then lD o else H b
theorem aR:bJ H a o a=lD o:=by unfold bJ;rw[if_pos rfl]
theorem aD (h:b≠a):bJ H a o b=H b:=by unfold bJ;rw[if_neg h]
theorem Qg {H:Hp} {a b:SI} {o u:HO} (h:H a=lD o) (h':H b=lD u) (d:o≠u):a≠b:=by intro e;subst e;rw[h] at h';exact d (S7 h')
theorem b7 {H:Hp} (h:H a=lD o) (h':H b=Sw):a≠b:=by intro e;subst e;rw[h] at h';cases h'
def Zi (h:Heap) (a:SI) (b:Array Sx):Prop:=∃o,h.get? a=lD o/\(o.cls= .type "tuple"/\∃n,o.data= .seq b n)/\o.dict=Sw
theorem Zi.tup (x:Zi h a items):IsTup h a items:=let⟨o,e,c,_⟩:=x;⟨o,e,c⟩
theorem Zi.lt (x:Zi h a items):a<h.objs.size:=let⟨_,e,_⟩:=x;Heap.lt_size e
theorem Zi.new (h:Heap) (xs:Array Sx):Zi (h.push {cls:= .type "tuple",data:= .seq xs}) h.objs.size xs:=⟨_,Heap.get?_push_size _ rfl,⟨rfl,_,rfl⟩,rfl⟩
section
variable (P:Te) (w:TF)
def ObjOk (H:Hp) (h:Heap) (a:SI):HO->Prop
 | .lst xs=>xs.length<=SY/\∃(b:List Sx) (n:Nat),Vals xs b/\h.get? a=lD {cls:= .type "list",data:= .seq b.toArray n}
 | .tup xs=>xs.length<=SY/\∃b:List Sx,Vals xs b/\Zi h a b.toArray
 | .dK Ti=>Ti.length<=SY/\(a==Us)=SN/\∃vs,KV Ti vs/\h.DictOf (dj P w) a vs
 | .dT Ti=>Ti.length<=SY/\(a==Us)=SN/\∃xs:List (List cT×SI×Sx),
   Paired (fun(p:List cT×V) (q:List cT×SI×Sx)=>p.1=q.1/\H q.2.1=lD (.tup (p.1.map kV))/\RelV p.2 q.2.2) Ti xs/\
   ∃o es ep,h.get? a=lD o/\o.ExactDict/\o.data= .dict es ep/\es.toList=xs.map (entryOfKey (tupleKind (dj P w)))/\(xs.map (·.1)).Nodup
 | .set S n=>h.SetOf (intKind P w) a S n
 | .ins C dx fs=>H dx=lD (.own a)/\fs.length<=1000/\dx≠a/\h.get? a=lD (UY C dx)/\
   ∃mA,h.Ns1 dx mA/\(∀f,WZ (fs.lookup f) (mA f))/\aae mA (fs.map (·.1))
 | .own _=>∃o,h.get? a=lD o
 | .xd fs=>∃mA,h.Ns1 a mA/\∀f,WZ (fs.lookup f) (mA f)
 | .rng lo hi=>∃t u v,h.get? a=lD {cls:= .type "range",data:= .fields #[.int lo t,.int hi u,.int 1 v]}
 | .frz o u=>h.get? a=lD o/\ObjOk H h a u
 | .tbl ps=>h.get? a=lD {cls:= .none,data:= .fields ps}
 | .met f x=>h.get? a=lD (Yk (.ref f) (.ref x))
 | .ext φ=>φ h/\(∃o,h.get? a=lD o)/\∀h1 h2:Heap,φ h1->(∀o,h1.get? a=lD o->h2.get? a=lD o)->φ h2
 | .exw φ=>φ w h/\(∃o,h.get? a=lD o)/\∀h1 h2:Heap,φ w h1->(∀o,h1.get? a=lD o->h2.get? a=lD o)->φ w h2
def XM (H:Hp) (h:Heap):Prop:=∀a o,H a=lD o->ObjOk P w H h a o
end
section
variable {P:Te} {w:TF} {H H':Hp} {h h':Heap} {a:SI} {o:HO}
theorem ObjOk.lt (x:ObjOk P w H h a o):a<h.objs.size:=by
 cases o with
 |lst xs=>obtain⟨_,_,_,_,e⟩:=x;exact Heap.lt_size e
 |tup xs=>obtain⟨_,_,_,p⟩:=x;exact p.lt
 |dK Ti=>obtain⟨_,_,_,_,o,_,_,e,_⟩:=x;exact Heap.lt_size e
 |dT Ti=>obtain⟨_,_,_,_,o,_,_,e,_⟩:=x;exact Heap.lt_size e
 |set S n=>obtain⟨o,_,_,_,e,_⟩:=x;exact Heap.lt_size e
 |ins C dx fs=>obtain⟨_,_,_,e,_⟩:=x;exact Heap.lt_size e
 |own y=>obtain⟨_,e⟩:=x;exact Heap.lt_size e
 |xd fs=>obtain⟨_,⟨_,_,_,e,_⟩,_⟩:=x;exact Heap.lt_size e
 |rng lo hi=>obtain⟨_,_,_,e⟩:=x;exact Heap.lt_size e
 |frz b u=>obtain⟨e,_⟩:=x;exact Heap.lt_size e
 |tbl ps=>exact Heap.lt_size (show h.get? a=lD _ from x)
 |met f y=>exact Heap.lt_size (show h.get? a=lD _ from x)
 |ext φ=>obtain⟨_,⟨_,e⟩,_⟩:=x;exact Heap.lt_size e
 |exw φ=>obtain⟨_,⟨_,e⟩,_⟩:=x;exact Heap.lt_size e
theorem Paired.W0:∀{l₁:List α} {l₂:List β},Paired F l₁ l₂->(∀a b,F a b->G a b)->Paired G l₁ l₂
 |_,_,.nil,_=> .nil
 |_,_,.cons r t,f=> .cons (f _ _ r) (Paired.W0 t f)
theorem ObjOk.WY (x:ObjOk P w H h a o) (k:∀b u,(b=a\/H b=lD (.own a))->h.get? b=lD u->h'.get? b=lD u)
  (G:∀b,H b=lD (.own a)->H' b=lD (.own a)) (F:∀b xs,H b=lD (.tup xs)->H' b=lD (.tup xs)):ObjOk P w H' h' a o:=by
 induction o with
 |lst xs=>obtain⟨z,B,n,r,e⟩:=x;exact⟨z,B,n,r,k _ _ (.inl rfl) e⟩
 |tup xs=>obtain⟨z,B,r,g,e,c⟩:=x;exact⟨z,B,r,g,k _ _ (.inl rfl) e,c⟩
 |dK Ti=>obtain⟨z,y,vs,r,g,i,j,e,c⟩:=x;exact⟨z,y,vs,r,g,i,j,k _ _ (.inl rfl) e,c⟩
 |dT Ti=>obtain⟨z,y,xs,r,g,i,j,e,c⟩:=x;exact⟨z,y,xs,Paired.W0 r fun p q z=>⟨z.1,F _ _ z.2.1,z.2.2⟩,g,i,j,k _ _ (.inl rfl) e,c⟩
 |set S n=>obtain⟨g,i,j,t,e,c⟩:=x;exact⟨g,i,j,t,k _ _ (.inl rfl) e,c⟩
 |ins C dx fs=>obtain⟨d,z,ne,e,A,⟨m,i,j,I,c⟩,r⟩:=x;exact⟨G _ d,z,ne,k _ _ (.inl rfl) e,A,⟨m,i,j,k _ _ (.inr d) I,c⟩,r⟩
 |own y=>obtain⟨g,e⟩:=x;exact⟨g,k _ _ (.inl rfl) e⟩
 |xd fs=>obtain⟨A,⟨m,i,j,e,c⟩,r⟩:=x;exact⟨A,⟨m,i,j,k _ _ (.inl rfl) e,c⟩,r⟩
 |rng lo hi=>obtain⟨t,u,v,e⟩:=x;exact⟨t,u,v,k _ _ (.inl rfl) e⟩
 |frz g u E=>obtain⟨e,q⟩:=x;exact⟨k _ _ (.inl rfl) e,E q⟩
 |tbl ps=>have e:h.get? a=lD {cls:= .none,data:= .fields ps}:=x;show h'.get? a=lD {cls:= .none,data:= .fields ps};exact k a _ (.inl rfl) e
 |met f y=>have e:h.get? a=lD (Yk (.ref f) (.ref y)):=x;show h'.get? a=lD (Yk (.ref f) (.ref y));exact k a _ (.inl rfl) e
 |ext φ=>obtain⟨p,⟨o,e⟩,l⟩:=x;exact⟨l _ _ p fun o q=>k _ _ (.inl rfl) q,⟨o,k _ _ (.inl rfl) e⟩,l⟩
 |exw φ=>obtain⟨p,⟨o,e⟩,l⟩:=x;exact⟨l _ _ p fun o q=>k _ _ (.inl rfl) q,⟨o,k _ _ (.inl rfl) e⟩,l⟩
theorem XM.lt (x:XM P w H h) (e:H a=lD o):a<h.objs.size:=(x a o e).lt
theorem XM.fresh (x:XM P w H h) (e:h.objs.size<=a):H a=Sw:=by
 cases q:H a with
 |none=>rfl
 |some u=>exact absurd (Tf (x.lt q) e) (Ui _)
theorem XM.kept (x:XM P w H h) (k:∀b u,h.get? b=lD u->h'.get? b=lD u):XM P w H h':=fun a o e=>
 (x a o e).WY (fun b u _ q=>k b u q) (fun _ q=>q) fun _ _ q=>q
theorem XM.laid (x:XM P w H h) (k:∀b u,h.get? b=lD u->h'.get? b=lD u) (g:h.objs.size<=a) (new:ObjOk P w (bJ H a o) h' a o):XM P w (bJ H a o) h':=fun b u e=>by
 have hn:=x.fresh g;by_cases f:b=a
 .subst f;rw[aR] at e;cases e;exact new
 .rw[aD f] at e;exact(x b u e).WY (fun c v _ q=>k c v q) (fun c q=>by rw[aD (b7 q hn)];exact q) fun c xs q=>by rw[aD (b7 q hn)];exact q
end
def Rd (H:Hp) (a:SI) (u:HO):Prop:=H a=lD u\/∃o,H a=lD (.frz o u)
theorem Rd.ok (r:Rd H a u) (x:XM P w H h):ObjOk P w H h a u:=by
 rcases r with r|⟨o,r⟩
 .exact x a u r
 .obtain⟨_,q⟩:=x a _ r;exact q
def Qd:Option HO->Prop
 |some (.lst _)=>True
 |some (.dK _)=>True
 |some (.dT _)=>True
 |some (.set _ _)=>True
 |some (.ins _ _ _)=>True
 |some (.ext _)=>True
 |some (.exw _)=>True
 |_=>False
section
variable {P:Te} {w:TF} {H:Hp} {h h':Heap} {x e:SI} {Z:HO}
theorem XM.write (ok:XM P w H h) (g:Qd (H x)) (o:e=x\/H e=lD (.own x)) (k:∀b u,b≠e->h.get? b=lD u->h'.get? b=lD u) (l:∃u,h'.get? e=lD u)
  (new:ObjOk P w (bJ H x Z) h' x Z):XM P w (bJ H x Z) h':=fun b u q=>by
 have f:∀c y,H c=lD (.own y)->c≠x:=fun c y r z=>by subst z;rw[r] at g;exact g
 have m:∀c xs,H c=lD (.tup xs)->c≠x:=fun c xs r z=>by subst z;rw[r] at g;exact g
 by_cases j:b=x
 .subst j;rw[aR] at q;cases q;exact new
 .rw[aD j] at q
  by_cases a:b=e
  .have n:H b=lD (.own x):=by
    rcases o with z|z
    .exact absurd (a.trans z) j
    .rw[a];exact z
   rw[q] at n;cases n;obtain⟨v,p⟩:=l;exact⟨v,by rw[a];exact p⟩
  .refine(ok b u q).WY (fun c v i r=>k c v ?_ r) (fun c r=>by rw[aD (f c b r)];exact r) fun c xs r=>by rw[aD (m c xs r)];exact r
   rcases i with rfl|i
   .exact a
   .rintro rfl
    rcases o with z|z
    .exact f c b i z
    .rw[i] at z;cases z;exact j rfl
end
structure Un (fs ex:List SI) (H H':Hp) (h h':Heap):Prop where
 keep:∀b o,h.get? b=lD o->H b=Sw->b∉fs->b∉ex->h'.get? b=lD o
 slot:∀b o,h.get? b=lD o->H b=Sw->b∈fs->b∉ex->∃sl,h'.get? b=lD {o with slots:=sl}
 free:∀b o,h.get? b=lD o->H b=Sw->b∉ex->H' b=Sw
 there:∀b o,h.get? b=lD o->b∉ex->∃o',h'.get? b=lD o'
 Zg:∀b xs,H b=lD (.tup xs)->H' b=lD (.tup xs)
 Y0:∀b o u,H b=lD (.frz o u)->H' b=lD (.frz o u)
 Ze:∀b ps,H b=lD (.tbl ps)->∃more,H' b=lD (.tbl (ps++more))
section
variable {fs fs' ex ex':List SI} {H H1 H2:Hp} {h h1 h2 h':Heap} {a x e:SI} {o:HO}
theorem Un.any (u:Un fs ex H H1 h h1) (q:h.get? b=lD ob) (n:H b=Sw) (f:b∉ex):∃sl,h1.get? b=lD {ob with slots:=sl}:=by
 by_cases g:b∈fs
 .exact u.slot b ob q n g f
 .exact⟨ob.slots,u.keep b ob q n g f⟩
theorem Un.kept (k:∀b u,h.get? b=lD u->h'.get? b=lD u):Un fs ex H H h h':=
 ⟨fun b f q _ _ _=>k b f q,fun b f q _ _ _=>⟨f.slots,k b f q⟩,fun _ _ _ n _=>n,fun b f q _=>⟨f,k b f q⟩,fun _ _ q=>q,fun _ _ _ q=>q,fun _ ps q=>⟨#[],by rw[q];simp⟩⟩
theorem Un.refl:Un fs ex H H h h:=Un.kept fun _ _ q=>q
theorem Un.laid (k:∀b u,h.get? b=lD u->h'.get? b=lD u) (f:h.objs.size<=a) (hn:H a=Sw):Un fs ex H (bJ H a o) h h' where
 keep:=fun b u q _ _ _=>k b u q
 slot:=fun b u q _ _ _=>⟨u.slots,k b u q⟩
 free:=fun b u q n _=>by rw[aD (Th (Tf (Heap.lt_size q) f))];exact n
 there:=fun b u q _=>⟨u,k b u q⟩
 Zg:=fun b xs q=>by rw[aD (b7 q hn)];exact q
 Y0:=fun b u xs q=>by rw[aD (b7 q hn)];exact q
 Ze:=fun b ps q=>⟨#[],by rw[aD (b7 q hn),q];simp⟩
theorem Un.write (g:Qd (H x)) (p:e=x\/H e=lD (.own x)) (k:∀b u,b≠e->h.get? b=lD u->h'.get? b=lD u) (i:∃u,h'.get? e=lD u):Un fs ex H (bJ H x o) h h':=by
 have j:∀b,H b=Sw->b≠x:=fun b n z=>by subst z;rw[n] at g;exact g
 have l:∀b,H b=Sw->b≠e:=fun b n z=>by
  subst z;rcases p with r|r
  .exact j b n r
  .rw[n] at r;cases r
 have hm:∀b u,H b=lD u->¬Qd (lD u)->b≠x:=fun b u q m z=>by subst z;rw[q] at g;exact m g
 refine⟨fun b u q n _ _=>k b u (l b n) q,fun b u q n _ _=>⟨u.slots,k b u (l b n) q⟩,fun b u q n _=>by rw[aD (j b n)];exact n,fun b u q _=> ?_,
  fun b xs q=>by rw[aD (hm b _ q fun z=>z)];exact q,fun b u xs q=>by rw[aD (hm b _ q fun z=>z)];exact q,fun b ps q=>⟨#[],by rw[aD (hm b _ q fun z=>z),q];simp⟩⟩
 by_cases f:b=e
 .subst f;exact i
 .exact⟨u,k b u f q⟩
end
def Rc (h:Heap) (H:Hp):List SI:=(SJ h.objs.size).filter fun a=>(H a).isSome
def wa (h:Heap) (H:Hp):Heap:=PySem.W.hideAll h (Rc h H)
theorem ED (h:Heap) (H:Hp):(wa h H).objs.size=h.objs.size:=PySem.W.hideAll_size _ _
theorem Fi (e:h.get? b=lD o) (n:H b=Sw):(wa h H).get? b=lD o:=
 PySem.W.hideAll_get _ e fun hm=>by have q:=(Vj.mp hm).2;rw[n] at q;simp at q
theorem Mo (e:(wa h H).get? b=lD o):h.get? b=lD o/\H b=Sw:=by
 have a:=PySem.W.of_hideAll (Rc h H) e;refine⟨a,?_⟩;cases q:H b with
 |none=>rfl
 |some x=>have hm:b∈Rc h H:=Vj.mpr ⟨TL.mpr (Heap.lt_size a),by simp[q]⟩;have z:(wa h H).get? b=Sw:=PySem.W.hideAll_none (Rc h H) hm;rw[z] at e;cases e
structure Mod (K:Ld) (mg:Str->Option Sx) (base:Heap):Prop where
 kin:K.In base
 glob:base.Ns S4 mg
 blt:∃mb,base.Ns builtinsNs mb/\∀x:Str,x≠ "__name__"->mb x=Ue x
 nolimit:base.NoLimit
structure Cx where
 prog:Te
 w:TF
 K:Ld
 mg:Str->Option Sx
 base:Heap
 A:Tw
 N:List Str
 s₀:SK
 H₀:Hp
 env:Env
 outer:List Env
 stack:List Env
 ex:List SI
 fn:Str->Bool
 calm:Bool
 pn:List (SI×Obj)
 xe:Sx->SK->Prop
def yd (l:List Env):List SI:=l.filterMap (·.frame)
abbrev Cx.fs (X:Cx):List SI:=yd X.outer
def RA (sc:VJ) (x:Str):Prop:=sc.names.lookup x=lD .local\/sc.names.lookup x=lD .cell\/sc.names.lookup x=lD .free
def Ra (sc:VJ) (x:Str):Prop:=sc.names.lookup x=lD .local\/sc.names.lookup x=lD .cell
def Ry (env:Env) (h:Heap) (m:Str->Option Sx) (x:Str) (u:Sx):Prop:=
 (env.kindOf x=lD .local/\m x=lD u)\/((env.kindOf x=lD .cell\/env.kindOf x=lD .free)/\∃c,env.cells.lookup x=lD c/\h.IsCell c (lD u))
structure Cx.Ok (X:Cx):Prop where
 mod:Mod X.K X.mg X.base
 kind:X.env.scope.kind= .function
 glob:X.env.globals=S4
 blt:X.env.builtins=builtinsNs
 above:X.s₀.heap.objs.size<=X.env.locals
 inj:∀x y c,X.env.cells.lookup x=lD c->X.env.cells.lookup y=lD c->x=y
 has:∀x,(X.env.kindOf x=lD .cell\/X.env.kindOf x=lD .free)->∃c,X.env.cells.lookup x=lD c
 cab:∀x c,X.fn x=Sz->X.env.cells.lookup x=lD c->X.s₀.heap.objs.size<=c
 hd:X.calm=Sz->X.A.handled=Sw
 frames:X.A.frames=lD X.stack
 stk:X.stack=X.outer\/(X.stack=X.env::X.outer/\X.env.frame=lD X.env.locals)
 exf:∀b∈X.ex,b≠X.env.locals/\∀x c,X.env.cells.lookup x=lD c->c≠b
 bs:∀b o,X.base.get? b=lD o->X.s₀.heap.get? b=lD o/\X.H₀ b=Sw
 bsz:X.base.objs.size<=X.s₀.heap.objs.size
 aas:∀b o,X.base.get? b=lD o->b∉X.ex
 aax:∀b∈X.ex,b∉X.fs
 Yg:X.s₀.heap.FunFrames X.base X.outer
 frf:∀b∈X.fs,X.H₀ b=Sw
structure Inv (X:Cx) (pins:List (SI×Obj)) (σ:List (Option V)) (H:Hp) (s:SK):Prop where
 ok:X.Ok
 os:s.os=X.s₀.os
 bare:AllBare s.gens
 base:Un X.fs X.ex X.H₀ H X.s₀.heap s.heap
 loc:∃m,s.heap.Ns X.env.locals m/\∀(i:Nat) (x:Str) (v:V),X.N[i]? =lD x->σ[i]? =lD (lD v)->RA X.env.scope x->∃u,RelV v u/\Ry X.env s.heap m x u
 cell:∀x c,X.env.cells.lookup x=lD c->∃v,s.heap.IsCell c v
 free:H X.env.locals=Sw
 Wo:∀x c,X.env.cells.lookup x=lD c->H c=Sw
 pin:∀p∈X.pn++pins,s.heap.get? p.1=lD p.2/\H p.1=Sw/\p.1≠X.env.locals/\p.1∉X.fs/\∀v,p.2.data≠ .cell v
 Up:XM X.prog X.w H s.heap
 len:σ.length=X.N.length
section
variable {X:Cx} {Z:List (SI×Obj)} {Y:List (Option V)} {H H':Hp} {s:SK} {h':Heap}
theorem Cx.Ok.aiE (ok:X.Ok) (e:X.base.get? b=lD o):b∉X.fs:=fun a=>by have:=(ok.Yg.mem a).1;rw[e] at this;cases this
theorem Inv.bs (I:Inv X Z Y H s):∀b o,X.base.get? b=lD o->s.heap.get? b=lD o/\H b=Sw:=fun b o e=>
 ⟨I.base.keep b o (I.ok.bs b o e).1 (I.ok.bs b o e).2 (I.ok.aiE e) (I.ok.aas b o e),I.base.free b o (I.ok.bs b o e).1 (I.ok.bs b o e).2 (I.ok.aas b o e)⟩
theorem Inv.bk (I:Inv X Z Y H s):∀b o,X.base.get? b=lD o->s.heap.get? b=lD o:=fun b o e=>(I.bs b o e).1
theorem Inv.mod (I:Inv X Z Y H s):Mod X.K X.mg X.base:=I.ok.mod
theorem Inv.Ye (I:Inv X Z Y H s):X.K.In s.heap:=I.ok.mod.kin.keeps I.bk
theorem Inv.lt (I:Inv X Z Y H s):X.env.locals<s.heap.objs.size:=let⟨_,hn,_⟩:=I.loc;hn.lt
theorem Inv.sz (I:Inv X Z Y H s):X.s₀.heap.objs.size<=s.heap.objs.size:=TJ I.ok.above (Wz I.lt)
theorem Inv.ahr (I:Inv X Z Y H s) (h:s.heap.objs.size<=a):a∉X.fs:=fun e=>by obtain⟨_,o,b,_⟩:=I.ok.Yg.mem e;exact absurd (Tf (Heap.lt_size b) (TJ I.sz h)) (Ui _)
theorem Inv.cne (I:Inv X Z Y H s):∀x c,X.env.cells.lookup x=lD c->c≠X.env.locals:=fun x c e z=>by obtain⟨v,o,f,g⟩:=I.cell x c e;obtain⟨m,⟨h,i,j,a,b,_⟩,_⟩:=I.loc;rw[z,a] at f;cases f;rw[b] at g;cases g
theorem Inv.Yg (I:Inv X Z Y H s):s.heap.FunFrames X.base X.outer:=by
 have all:∀(l:List Env),(∀b∈yd l,b∈X.fs)->X.s₀.heap.FunFrames X.base l->s.heap.FunFrames X.base l:=by
  intro l
  induction l with
  |nil=>intro _ _;trivial
  |cons t r i=>intro h n;obtain⟨p,⟨L,o,a,hn,m,q⟩,j⟩:=n;have g:=h L (by unfold yd;rw[Yi,a];exact S5);obtain⟨u,e⟩:=I.base.slot L o m (I.ok.frf L g) g fun z=>I.ok.aax L z g;exact⟨p,⟨L,_,a,hn,e,q⟩,i (fun b f=>h b (by unfold yd;rw[Yi,a];exact S2 _ f)) j⟩
 exact all X.outer (fun _ f=>f) I.ok.Yg
theorem Inv.stack (I:Inv X Z Y H s):s.heap.FunFrames X.base X.stack:=by
 rcases I.ok.stk with e|⟨e,hf⟩
 .rw[e];exact I.Yg
 .rw[e];obtain⟨m,hn,_⟩:=I.loc;refine .cons (by rw[I.ok.kind];decide) hf hn ?_ I.Yg;exact Heap.get?_none_of_le (TJ I.ok.bsz I.ok.above)
theorem Inv.Yb (I:Inv X Z Y H s):∀b∈yd X.stack,b∈X.env.locals::X.fs:=fun b a=>by
 rcases I.ok.stk with e|⟨e,hf⟩
 .rw[e] at a;exact S2 _ a
 .rw[e] at a;unfold yd at a;rw[Yi,hf] at a;exact a
theorem Inv.Yv (I:Inv X Z Y H s):∀b∈yd X.stack,H b=Sw:=fun b a=>by
 rcases Tq.mp (I.Yb b a) with e|a
 .rw[e];exact I.free
 .obtain⟨_,o,f,_⟩:=I.ok.Yg.mem a;exact I.base.free b o f (I.ok.frf b a) fun z=>I.ok.aax b z a
theorem Inv.step {g':Array XQ} {t':Nat} {d':abB} {ch:List SI} (I:Inv X Z Y H s)
  (g:∀b∈ch,(b∈X.ex\/X.s₀.heap.objs.size<=b)/\b≠X.env.locals/\(∀x c,X.env.cells.lookup x=lD c->c≠b)/\∀p∈X.pn++Z,p.1≠b)
  (keep:∀b o,b≠X.env.locals->b∉X.fs->b∉ch->s.heap.get? b=lD o->H b=Sw->h'.get? b=lD o)
  (y:∀b o,b≠X.env.locals->b∈X.fs->b∉ch->s.heap.get? b=lD o->H b=Sw->∃sl,h'.get? b=lD {o with slots:=sl}) (free:∀b o,b∉ch->s.heap.get? b=lD o->H b=Sw->H' b=Sw)
  (A:∀b o,b∉ch->s.heap.get? b=lD o->∃o',h'.get? b=lD o')
  (S:∀b xs,H b=lD (.tup xs)->H' b=lD (.tup xs)) (U:∀b o u,H b=lD (.frz o u)->H' b=lD (.frz o u)) (T:∀b ps,H b=lD (.tbl ps)->∃more,H' b=lD (.tbl (ps++more)))
  (ns:∀m,s.heap.Ns X.env.locals m->h'.Ns X.env.locals m) (Up:XM X.prog X.w H' h') (Q:AllBare g'):
  Inv X Z Y H' {s with heap:=h',gens:=g',drawn:=d',toks:=t'}:=by
 have E:∀b o,X.s₀.heap.get? b=lD o->b≠X.env.locals:=fun b o e=>Th (Tf (Heap.lt_size e) I.ok.above);have j:∀b o,X.s₀.heap.get? b=lD o->b∉X.ex->b∉ch:=fun b o e a B=>by
  rcases(g b B).1 with z|z
  .exact a z
  .exact absurd (Tf (Heap.lt_size e) z) (Ui _)
 have h:∀x c,X.env.cells.lookup x=lD c->∀v,s.heap.IsCell c v->h'.IsCell c v:=fun x c e v ⟨o,C,J⟩=>by
  have f:c∉ch:=fun z=>(g c z).2.2.1 x c e rfl;by_cases M:c∈X.fs
  .obtain⟨sl,q⟩:=y c o (I.cne x c e) M f C (I.Wo x c e);exact⟨_,q,J⟩
  .exact⟨o,keep c o (I.cne x c e) M f C (I.Wo x c e),J⟩
 refine⟨I.ok,I.os,Q,⟨fun b o e n B a=> ?_,fun b o e n B a=> ?_,fun b o e n a=> ?_,fun b o e a=> ?_,fun b xs e=>S b xs (I.base.Zg b xs e),fun b o xs e=>U b o xs (I.base.Y0 b o xs e),fun b ps e=> ?_⟩,?_,fun x c e=> ?_,?_,fun x c e=> ?_,fun p L=> ?_,Up,I.len⟩
 .exact keep b o (E b o e) B (j b o e a) (I.base.keep b o e n B a) (I.base.free b o e n a)
 .obtain⟨sl,t⟩:=I.base.slot b o e n B a;obtain⟨G,F⟩:=y b _ (E b o e) B (j b o e a) t (I.base.free b o e n a);exact⟨G,F⟩
 .obtain⟨o',t⟩:=I.base.there b o e a;exact free b o' (j b o e a) t (I.base.free b o e n a)
 .obtain⟨o',t⟩:=I.base.there b o e a;exact A b o' (j b o e a) t
 .obtain⟨O,t⟩:=I.base.Ze b ps e;obtain⟨N,F⟩:=T b _ t;exact⟨O++N,by rw[F,Array.append_assoc]⟩
 .obtain⟨m,hn,P⟩:=I.loc
  refine⟨m,ns m hn,fun i x v t F R=> ?_⟩;obtain⟨u,r,l⟩:=P i x v t F R;refine⟨u,r,?_⟩;rcases l with l|⟨k,c,e,z⟩
  .exact .inl l
  .exact .inr ⟨k,c,e,h x c e _ z⟩
 .obtain⟨v,z⟩:=I.cell x c e;exact⟨v,h x c e v z⟩
 .obtain⟨m,⟨o,_,_,C,_⟩,_⟩:=I.loc;exact free _ o (fun z=>(g _ z).2.1 rfl) C I.free
 .obtain⟨v,o,C,J⟩:=I.cell x c e;exact free c o (fun z=>(g c z).2.2.1 x c e rfl) C (I.Wo x c e)
 .obtain⟨e,n,ne,K,d⟩:=I.pin p L;have f:p.1∉ch:=fun z=>(g p.1 z).2.2.2 p L rfl;exact⟨keep p.1 p.2 ne K f e n,free p.1 p.2 f e n,ne,K,d⟩
theorem Inv.un {t':Nat} (I:Inv X Z Y H s) (u:Un X.fs [] H H' s.heap h') (Up:XM X.prog X.w H' h'):Inv X Z Y H' {s with heap:=h',toks:=t'}:=by obtain⟨m,⟨o,v,y,i,r⟩,_⟩:=id I.loc;obtain⟨p,l⟩:=u.any i I.free (by simp);exact I.step (g':=s.gens) (d':=s.drawn) (ch:=[]) (fun _ z=>nomatch z) (fun b o _ f _ e n=>u.keep b o e n f (by simp)) (fun b o _ f _ e n=>u.slot b o e n f (by simp)) (fun b o _ e n=>u.free b o e n (by simp)) (fun b o _ e=>u.there b o e (by simp)) u.Zg u.Y0 u.Ze (fun t hm=>by obtain⟨q,g,h,a,j⟩:=hm;rw[i] at a;cases a;exact⟨_,g,h,l,j⟩) Up I.bare
theorem Inv.call {g':Array XQ} {t':Nat} {d':abB} {ch:List SI} (I:Inv X Z Y H s) (u:Un (yd X.stack) ch H H' s.heap h') (Up:XM X.prog X.w H' h') (t:AllBare g')
  (g:∀b∈ch,(b∈X.ex\/X.s₀.heap.objs.size<=b)/\b≠X.env.locals/\(∀x c,X.env.cells.lookup x=lD c->c≠b)/\∀p∈X.pn++Z,p.1≠b):
  Inv X Z Y H' {s with heap:=h',gens:=g',drawn:=d',toks:=t'}:=by
 obtain⟨m,⟨o,C,E,l,r⟩,_⟩:=id I.loc;obtain⟨y,h⟩:=u.any l I.free fun z=>(g _ z).2.1 rfl;exact I.step (ch:=ch) g (fun b o h v a e n=>u.keep b o e n (fun z=>(Tq.mp (I.Yb b z)).elim h v) a) (fun b o _ _ a e n=>u.any e n a) (fun b o a e n=>u.free b o e n a) (fun b o a e=>u.there b o e a) u.Zg u.Y0 u.Ze (fun B hm=>by obtain⟨A,i,j,f,q⟩:=hm;rw[l] at f;cases f;exact⟨_,i,j,h,q⟩) Up t
theorem Inv.turned {t':Nat} {a:SI} (I:Inv X Z Y H s) (k:∀b o,b≠a->s.heap.get? b=lD o->h'.get? b=lD o) (hn:H a=Sw) (h:a≠X.env.locals)
  (w:a∈X.ex\/X.s₀.heap.objs.size<=a) (t:∀x c,X.env.cells.lookup x=lD c->c≠a) (l:∀p∈X.pn++Z,p.1≠a):Inv X Z Y H {s with heap:=h',toks:=t'}:=by
 have g:∀b u,H b=lD u->b≠a:=fun b u e z=>by rw[z,hn] at e;cases e
 refine I.step (g':=s.gens) (d':=s.drawn) (ch:=[a]) (fun b j=> ?_) (fun b o _ _ f e _=>k b o (fun z=>f (by simp[z])) e) (fun b o _ _ f e _=>⟨o.slots,k b o (fun z=>f (by simp[z])) e⟩) (fun _ _ _ _ n=>n)
  (fun b o f e=>⟨o,k b o (fun z=>f (by simp[z])) e⟩) (fun _ _ e=>e) (fun _ _ _ e=>e) (fun b ps e=>⟨#[],by rw[e];simp⟩) (fun m hm=> ?_) (fun b u e=> ?_) I.bare
 .have e:b=a:=by simpa using j
  subst e;exact⟨w,h,t,l⟩
 .obtain⟨o,y,A,i,r⟩:=hm;exact⟨o,y,A,k _ o (Ne.symm h) i,r⟩
 .refine(I.Up b u e).WY (fun c v f q=>k c v ?_ q) (fun _ q=>q) fun _ _ q=>q
  rcases f with z|z
  .rw[z];exact g b u e
  .exact g c _ z
theorem Inv.tok (I:Inv X Z Y H s) (t:Nat):Inv X Z Y H {s with toks:=t}:=I.un Un.refl I.Up
theorem Inv.kept {t':Nat} (I:Inv X Z Y H s) (k:∀b u,s.heap.get? b=lD u->h'.get? b=lD u):Inv X Z Y H {s with heap:=h',toks:=t'}:=I.un (Un.kept k) (I.Up.kept k)
theorem Inv.laid {a:SI} {o:HO} {t':Nat} (I:Inv X Z Y H s) (k:∀b u,s.heap.get? b=lD u->h'.get? b=lD u) (e:s.heap.objs.size<=a) (new:ObjOk X.prog X.w (bJ H a o) h' a o):
  Inv X Z Y (bJ H a o) {s with heap:=h',toks:=t'}:=I.un (Un.laid k e (I.Up.fresh e)) (I.Up.laid k e new)
theorem Inv.write {x e:SI} {o:HO} {t':Nat} (I:Inv X Z Y H s) (f:Qd (H x)) (g:e=x\/H e=lD (.own x)) (k:∀b u,b≠e->s.heap.get? b=lD u->h'.get? b=lD u) (a:∃u,h'.get? e=lD u)
  (new:ObjOk X.prog X.w (bJ H x o) h' x o):Inv X Z Y (bJ H x o) {s with heap:=h',toks:=t'}:=I.un (Un.write f g k a) (I.Up.write f g k a new)
theorem Inv.ZS (I:Inv X Z Y H s) (h:∀p∈afl,s.heap.get? p.1=lD p.2/\H p.1=Sw/\p.1≠X.env.locals/\p.1∉X.fs/\∀v,p.2.data≠ .cell v):Inv X afl Y H s:=
 ⟨I.ok,I.os,I.bare,I.base,I.loc,I.cell,I.free,I.Wo,fun p a=>(TZ.mp a).elim (fun z=>I.pin p (Wn _ z)) (h p),I.Up,I.len⟩
theorem yl {N:List Str} (e:N.Nodup) {i j:Nat} (a:N[i]? =lD x) (b:N[j]? =lD x):i=j:=by obtain⟨l,g⟩:=SD.mp a;obtain⟨h,f⟩:=SD.mp b;exact(List.getElem_inj e).mp (g.trans f.symm)
theorem vg {M:abC} {A:Tw} {E:Sx->SK->Prop} {i:Nat} {x:Str} {v:V} {u:Sx} {Q:Unit->SK->Prop} (I:Inv X Z Y H s) (hN:X.N.Nodup) (hi:X.N[i]? =lD x) (hx:Ra X.env.scope x) (r:RelV v u)
  (h:∀s',Inv X Z (Y.set i (lD v)) H s'->(∃a,Heap.SameBut a s.heap s'.heap/\(a=X.env.locals\/X.env.cells.lookup x=lD a))->Q () s') (hf:X.fn x=Sz\/X.env.scope.names.lookup x=lD .local:=by first|exact .inl rfl|exact .inr rfl|assumption):wpAny M A (storeName X.env x u) Q E s:=by
 obtain⟨m,hn,hl⟩:=id I.loc;have aiN:(X.env.scope.kind== .class||(X.env.scope.kind== .module&&X.env.locals !=X.env.globals))=SN:=by rw[I.ok.kind];rfl
 have hiσ:i<Y.length:=by rw[I.len];exact(SD.mp hi).1
 have cne:=I.cne;have tracked:∀{a:SI} {h':Heap},(∃o,s.heap.get? a=lD o/\H a=Sw)->Heap.SameBut a s.heap h'->XM X.prog X.w H h':=fun{a h'} ha hs b ob e=>by
  obtain⟨_,_,adj⟩:=ha;refine(I.Up b ob e).WY (fun c w' hc q=>(hs.2 c ?_).trans q) (fun _ q=>q) fun _ _ q=>q;rintro rfl;rcases hc with rfl|hc
  .rw[adj] at e;cases e
  .rw[adj] at hc;cases hc
 rcases hx with hk|hk
 .refine wpAny_storeName_local hk hn (fun h' hn' hs=> ?_) aiN
  obtain⟨oL,_,_,hoL,_⟩:=id hn;refine h _ ⟨I.ok,I.os,I.bare,⟨fun b o e n hb hx=> ?_,fun b o e n hb hx=> ?_,I.base.free,fun b o e hx=> ?_,I.base.Zg,I.base.Y0,I.base.Ze⟩,⟨_,hn',fun j y v' e1 e2 e3=> ?_⟩,fun y c e=> ?_,I.free,I.Wo,fun p hp=> ?_,tracked ⟨oL,hoL,I.free⟩ hs,by simpa using I.len⟩ ⟨_,hs,.inl rfl⟩
  .exact(hs.2 b (Th (Tf (Heap.lt_size e) I.ok.above))).trans (I.base.keep b o e n hb hx)
  .obtain⟨sl,e1⟩:=I.base.slot b o e n hb hx;exact⟨sl,(hs.2 b (Th (Tf (Heap.lt_size e) I.ok.above))).trans e1⟩
  .obtain⟨o',e1⟩:=I.base.there b o e hx;exact⟨o',(hs.2 b (Th (Tf (Heap.lt_size e) I.ok.above))).trans e1⟩
  .by_cases hj:j=i
   .subst hj;rw[hi] at e1;cases e1;rw[T6 hiσ] at e2;cases e2;exact⟨u,r,.inl ⟨hk,by simp⟩⟩
   .rw[TY (Ne.symm hj)] at e2
    obtain⟨u',r',q⟩:=hl j y v' e1 e2 e3;refine⟨u',r',?_⟩;rcases q with⟨k,e⟩|⟨k,c,e,z⟩
    .refine .inl ⟨k,?_⟩;have:y≠x:=fun e=>hj (yl hN e1 (e▸hi));simp[this,e]
    .exact .inr ⟨k,c,e,z.sameBut hs (cne y c e)⟩
  .obtain⟨w',z⟩:=I.cell y c e;exact⟨w',z.sameBut hs (cne y c e)⟩
  .obtain⟨e,n,ne,nf,d⟩:=I.pin p hp;exact⟨(hs.2 p.1 ne).trans e,n,ne,nf,d⟩
 .have hfn:X.fn x=Sz:=by
   rcases hf with z|z
   .exact z
   .rw[z] at hk;cases hk
  obtain⟨c,hc⟩:=I.ok.has x (.inl hk);obtain⟨w',z⟩:=I.cell x c hc;refine wpAny_storeName_cell I.ok.kind hk hc z (fun h' hc' hs=> ?_);obtain⟨oc,hoc,aht⟩:=id z;refine h {s with heap:=h'} ⟨I.ok,I.os,I.bare,⟨fun b o e n hb hx=> ?_,fun b o e n hb hx=> ?_,I.base.free,fun b o e hx=> ?_,I.base.Zg,I.base.Y0,I.base.Ze⟩,⟨m,hn.sameBut hs (Ne.symm (cne x c hc)),fun j y v' e1 e2 e3=> ?_⟩,fun y c' e=> ?_,I.free,I.Wo,fun p hp=> ?_,tracked ⟨oc,hoc,I.Wo x c hc⟩ hs,by simpa using I.len⟩ ⟨c,hs,.inr hc⟩
  .exact(hs.2 b (Th (Tf (Heap.lt_size e) (I.ok.cab x c hfn hc)))).trans (I.base.keep b o e n hb hx)
  .obtain⟨sl,e1⟩:=I.base.slot b o e n hb hx;exact⟨sl,(hs.2 b (Th (Tf (Heap.lt_size e) (I.ok.cab x c hfn hc)))).trans e1⟩
  .obtain⟨o',e1⟩:=I.base.there b o e hx;exact⟨o',(hs.2 b (Th (Tf (Heap.lt_size e) (I.ok.cab x c hfn hc)))).trans e1⟩
  .by_cases hj:j=i
   .subst hj;rw[hi] at e1;cases e1;rw[T6 hiσ] at e2;cases e2;exact⟨u,r,.inr ⟨.inl hk,c,hc,hc'⟩⟩
   .rw[TY (Ne.symm hj)] at e2
    obtain⟨u',r',q⟩:=hl j y v' e1 e2 e3;refine⟨u',r',?_⟩;rcases q with q|⟨k,c',e,z'⟩
    .exact .inl q
    .refine .inr ⟨k,c',e,z'.sameBut hs ?_⟩;rintro rfl;exact hj (yl hN e1 (I.ok.inj _ _ _ e hc▸hi))
  .by_cases hcc:c'=c
   .subst hcc;exact⟨_,hc'⟩
   .obtain⟨w2,z2⟩:=I.cell y c' e;exact⟨w2,z2.sameBut hs hcc⟩
  .obtain⟨e,n,ne,nf,d⟩:=I.pin p hp;refine⟨(hs.2 p.1 ?_).trans e,n,ne,nf,d⟩;intro q;rw[q,hoc] at e;have q':oc=p.2:=S7 e;exact d w' (by rw[<-q'];exact aht)
theorem zV {i:Nat} {v:V} {u:Sx} {Q:Unit->SK->Prop} (I:Inv X Z Y H s) (hN:X.N.Nodup) (hi:X.N[i]? =lD x) (hx:Ra X.env.scope x) (r:RelV v u)
  (h:∀s',Inv X Z (Y.set i (lD v)) H s'->Q () s') (hf:X.fn x=Sz\/X.env.scope.names.lookup x=lD .local:=by first|exact .inl rfl|exact .inr rfl|assumption):wpAny M A (storeName X.env x u) Q E s:=
 vg I hN hi hx r (fun s' I' _=>h s' I') hf
theorem Inv.aap {a:SK} {ch:List SI} (I:Inv X Z Y H s) (h:a.os=s.os) (u:Un (yd X.stack) ch H H' s.heap a.heap) (Up:XM X.prog X.w H' a.heap) (i:AllBare a.gens)
  (f:∀b∈ch,(b∈X.ex\/X.s₀.heap.objs.size<=b)/\b≠X.env.locals/\(∀x c,X.env.cells.lookup x=lD c->c≠b)/\∀p∈X.pn++Z,p.1≠b):Inv X Z Y H' a:=by
 obtain⟨h',g',d',t',g⟩:=a;have e:g=s.os:=h;subst e;exact I.call (g':=g') (t':=t') (d':=d') u Up i f
end
abbrev XK:=Sx->Option SI->Hp->Prop
abbrev St:=List (Option V)
abbrev VK:=V->Hp->Prop
abbrev TE:=St->Hp->VK->Prop
abbrev TT:=St->Hp->(Bool->Hp->Prop)->Prop
abbrev TA:=St->Hp->(List V->Hp->Prop)->Prop
structure Ends where
 nx:St->Hp->Prop
 rt:VK
 bk:St->Hp->Prop:=fun _ _=>False
 ct:St->Hp->Prop:=fun _ _=>False
abbrev TS:=Ends->St->Hp->Prop
def EP (X:Cx) (a:List (SI×Obj)) (b:St) (Q:VK) (u:Sx) (e:SK):Prop:=∃v H',Inv X a b H' e/\RelV v u/\Q v H'
def TP (X:Cx) (a:List (SI×Obj)) (e:St) (Q:Bool->Hp->Prop) (b:Bool) (f:SK):Prop:=∃H',Inv X a e H' f/\Q b H'
def AP (X:Cx) (a:List (SI×Obj)) (b:St) (Q:List V->Hp->Prop) (us:List Sx) (e:SK):Prop:=∃vs H',Inv X a b H' e/\Vals vs us/\Q vs H'
def SP (X:Cx) (a:List (SI×Obj)) (D:Ends) (f:Flow) (b:SK):Prop:=
 match f with
 | .next=>∃σ' H',Inv X a σ' H' b/\D.nx σ' H'
 | .brk=>∃σ' H',Inv X a σ' H' b/\D.bk σ' H'
 | .cont=>∃σ' H',Inv X a σ' H' b/\D.ct σ' H'
 | .ret u=>∃v σ' H',Inv X a σ' H' b/\RelV v u/\D.rt v H'
def PE (X:Cx) (e:T4) (t:TE):Prop:=
 ∀(a:List (SI×Obj)) (s:SK) (b:St) (H:Hp) (Q:VK),Inv X a b H s->t b H Q->wpAny (model X.prog X.w) X.A (eval e X.env) (EP X a b Q) X.xe s
def PT (X:Cx) (e:T4) (t:TT):Prop:=
 ∀(a:List (SI×Obj)) (s:SK) (b:St) (H:Hp) (Q:Bool->Hp->Prop),Inv X a b H s->t b H Q->wpAny (model X.prog X.w) X.A (isTrue e X.env (eval e X.env)) (TP X a b Q) X.xe s
def PW (X:Cx) (e:T4) (t:TT):Prop:=
 ∀(b:Sem Sx) (a:List (SI×Obj)) (s:SK) (f:St) (H:Hp) (Q:Bool->Hp->Prop),Inv X a f H s->t f H Q->wpAny (model X.prog X.w) X.A (isTrue e X.env b) (TP X a f Q) X.xe s
theorem PW.pt (h:PW X e t):PT X e t:=h _
def PA (X:Cx) (es:List T4) (t:TA):Prop:=
 ∀(e:Pos) (a:List (SI×Obj)) (s:SK) (b:St) (H:Hp) (Q:List V->Hp->Prop),Inv X a b H s->t b H Q->wpAny (model X.prog X.w) X.A (spliced (backTo e (To es X.env))) (AP X a b Q) X.xe s
def PS (X:Cx) (e:U6) (t:TS):Prop:=
 ∀(a:List (SI×Obj)) (s:SK) (b:St) (H:Hp) (D:Ends),Inv X a b H s->t D b H->wpAny (model X.prog X.w) X.A (exec e X.env) (SP X a D) X.xe s
def YA (X:Cx) (e:List U6) (t:TS):Prop:=
 ∀(a:List (SI×Obj)) (s:SK) (b:St) (H:Hp) (D:Ends),Inv X a b H s->t D b H->wpAny (model X.prog X.w) X.A (execs e X.env) (SP X a D) X.xe s
theorem cO {α:Type} {t:Sem α} {Q b:α->SK->Prop} {M:abC} {A:Tw} {E:Sx->SK->Prop} {s:SK} (h:wpAny M A t Q E s) (e:∀a s,Q a s->b a s):wpAny M A t b E s:=wpAny_mono h e fun _ _ x=>x
section
variable {X:Cx}
def zM (i:Nat):TE:=fun a H Q=>∃v,a[i]? =lD (lD v)/\Q v H
def tC (v:V):TE:=fun _ H Q=>Q v H
theorem OB (t:X.N[i]? =lD x) (p:RA X.env.scope x) (hd:(x==("__debug__":Str))=SN:=by decide) (j:(x==("__classdict__":Str))=SN:=by decide):PE X (.Name x pos) (zM i):=by
 intro f s o H Q I h;obtain⟨v,e,h⟩:=h;obtain⟨m,hn,q⟩:=I.loc;obtain⟨u,r,l⟩:=q i x v t e p;have b:EP X f o Q u s:=⟨v,H,I,r,h⟩;rcases l with⟨a,hm⟩|⟨a,c,n,g⟩
 .exact adw (wpAny_loadName_local I.ok.kind a hn hm b) hd
 .rcases a with a|a
  .exact adw (wpAny_loadName_cell I.ok.kind a n g b) hd
  .exact adw (wpAny_loadName_free I.ok.kind a n g b j) hd
theorem bv {i j pos}:PE X (.Constant (.int i) j pos) (tC (.int i)):=fun _ _ _ H _ I h=>adx ⟨.int i,H,I.tok _,⟨_,rfl⟩,h⟩
theorem Gx {b j pos}:PE X (.Constant (.bool b) j pos) (tC (.bl b)):=fun _ _ _ H _ I h=>Constant_bool ⟨.bl b,H,I,rfl,h⟩
theorem nK {j pos}:PE X (.Constant .none j pos) (tC .Vh):=fun _ _ _ H _ I h=>Constant_none ⟨.Vh,H,I,rfl,h⟩
theorem qB {x j pos}:PE X (.Constant (.str x) j pos) (tC (.str x)):=fun _ _ _ H _ I h=>Calls.Constant_str ⟨.str x,H,I.tok _,⟨_,rfl⟩,h⟩
def Gl (X:Cx) (x:Str):Prop:=X.env.kindOf x=lD .globalImplicit
theorem mv (I:Inv X pins σ H s) (a:Gl X x) (hm:X.mg x=lD u) (h:Q u s)
  (hd:(x==("__debug__":Str))=SN:=by decide):wpAny (model X.prog X.w) X.A (eval (.Name x pos) X.env) Q E s:=
 Calls.Name_function_global I.ok.kind a (Calls.loadGlobal_global (by rw[I.ok.glob];exact I.mod.glob.keeps I.bk) hm h) hd
theorem pR (I:Inv X pins σ H s) (b:Gl X x) (hm:X.mg x=Sw) (a:Ue x=lD u) (h:Q u s)
  (hn:x≠ "__name__":=by decide) (hd:(x==("__debug__":Str))=SN:=by decide):wpAny (model X.prog X.w) X.A (eval (.Name x pos) X.env) Q E s:=by
 obtain⟨g,f,e⟩:=I.mod.blt;exact Calls.Name_function_global I.ok.kind b (Calls.loadGlobal_builtin (by rw[I.ok.glob];exact I.mod.glob.keeps I.bk) hm (by rw[I.ok.blt];exact f.keeps I.bk) ((e x hn).trans a) h) hd
theorem BL {x:Str} {v:V} {u:Sx} {a:Pos} (b:Gl X x) (hm:X.mg x=lD u) (r:RelV v u) (hd:(x==("__debug__":Str))=SN:=by decide):PE X (.Name x a) (tC v):=
 fun _ _ _ H _ I h=>mv I b hm ⟨v,H,I,r,h⟩ hd
theorem rX (b:Gl X x) (hm:X.mg x=Sw) (a:Ue x=lD u) (r:RelV v u) (hn:x≠ "__name__":=by decide) (hd:(x==("__debug__":Str))=SN:=by decide):PE X (.Name x pos) (tC v):=
 fun _ _ _ H _ I h=>pR I b hm a ⟨v,H,I,r,h⟩ hn hd
variable {a b:T4} {Y Z:TE} {pos:Pos}
def PC (X:Cx) (i:CmpOp) (a b:T4) (t:TE):Prop:=
 ∀(e:List (SI×Obj)) (s:SK) (h:St) (H:Hp) (Q:VK),Inv X e h H s->t h H Q->
  wpAny (model X.prog X.w) X.A (eval a X.env) (fun v g=>wpAny (model X.prog X.w) X.A (eval b X.env) (fun u f=>wpAny (model X.prog X.w) X.A (UJ i v u) (EP X e h Q) X.xe f) X.xe g) X.xe s
def tB (t:TE):TT:=fun e H Q=>t e H fun x f=>∃c,x= .bl c/\Q c f
theorem GD (h:PC X op a b t) (f:behindInMarks op b=SN:=by first|exact aeY _ (by decide) (by decide)|rfl):PT X (.Compare a [op] [b] pos) (tB t):=by intro e s g H Q I l;refine aco (cO (h e s g H _ I l) fun v w f=>cO f fun u r m=>cO m fun c p ⟨x,o,n,i,j⟩=> ?_) f;obtain⟨d,rfl,q⟩:=j;cases i;exact UQ ⟨o,n,q⟩
theorem wg {e:T4} {t:TE} (h:PE X e t) (m:∀whole,isTrue e X.env whole=(do let v<-whole;standAt e.pos;holding [v] (truthy v)):=by intro _;rfl):PT X e (tB t):=by intro f s g H Q I l;refine isTrue_plain (cO (h f s g H _ I l) fun v p ⟨x,o,n,i,j⟩=> ?_) (m _);obtain⟨d,rfl,q⟩:=j;cases i;exact UQ ⟨o,n,q⟩
variable {T S:TT} {U:List T4}
def OY (t u:TT):TT:=fun e H Q=>t e H fun c f=>if c=Sz then u e f Q else Q SN f
def RD (t u:TT):TT:=fun e H Q=>t e H fun c f=>if c=Sz then Q Sz f else u e f Q
def Nq (t:TT):TT:=fun e H Q=>t e H fun c f=>Q (!c) f
theorem Lh (ha:PT X a T):PW X (.BoolOp .And [a] pos) T:=by
 intro i f s g H Q I h;refine isTrue_and (cO (ha f s g H Q I h) fun c j e=> ?_);cases c with
 |true=>exact isTrue_and_nil e
 |false=>exact e
theorem Bs (ha:PT X a T):PW X (.BoolOp .Or [a] pos) T:=by
 intro i f s g H Q I h;refine isTrue_or (cO (ha f s g H Q I h) fun c j e=> ?_);cases c with
 |false=>exact isTrue_or_nil e
 |true=>exact e
theorem OX (ha:PT X a T) (n:PW X (.BoolOp .And (b::U) pos) S):PW X (.BoolOp .And (a::b::U) pos) (OY T S):=by
 intro l e s f H Q I h;refine isTrue_and (cO (ha e s f H _ I h) fun c m ⟨j,i,g⟩=> ?_);cases c with
 |true=>exact n l e m f j Q i g
 |false=>exact⟨j,i,g⟩
theorem Cv (ha:PT X a T) (n:PW X (.BoolOp .Or (b::U) pos) S):PW X (.BoolOp .Or (a::b::U) pos) (RD T S):=by
 intro l e s f H Q I h;refine isTrue_or (cO (ha e s f H _ I h) fun c m ⟨j,i,g⟩=> ?_);cases c with
 |true=>exact⟨j,i,g⟩
 |false=>exact n l e m f j Q i g
theorem Bb (ha:PT X a T):PT X (.UnaryOp .Not a pos) (Nq T):=by intro e s f H Q I h;exact isTrue_not (ha e s f H (fun c g=>Q (!c) g) I h)
def Gp (Y Z:TE):TE:=fun e H Q=>Y e H fun x f=>∃c,x= .bl c/\if c=Sz then Z e f Q else Q (.bl SN) f
theorem sX {op} (h:PE X a t):PE X (.BoolOp op [a] pos) t:=fun e s f H Q I g=>BoolOp_one (h e s f H Q I g)
theorem pA (ha:PE X a Y) (n:PE X (.BoolOp .And (b::U) pos) Z):PE X (.BoolOp .And (a::b::U) pos) (Gp Y Z):=by
 intro e s g H Q I h;refine BoolOp_and (cO (ha e s g H _ I h) fun v l ⟨x,j,i,m,f⟩=> ?_);obtain⟨c,rfl,f⟩:=f;cases m;refine UQ ?_;cases c with
 |true=>exact n e l g j Q i f
 |false=>exact⟨.bl SN,j,i,rfl,f⟩
def Rh (t:TT) (Y Z:TE):TE:=fun e H Q=>t e H fun c f=>if c=Sz then Y e f Q else Z e f Q
theorem Gw (m:PT X c T) (ha:PE X a Y) (n:PE X b Z):PE X (.IfExp c a b pos) (Rh T Y Z):=by
 intro e s f H Q I h;refine wpAny_IfExp (cO (m e s f H _ I h) fun d g ⟨l,j,i⟩=> ?_);cases d with
 |true=>exact ha e g f l Q j i
 |false=>exact n e g f l Q j i
end
def Xp (K:Ld) (H:Hp) (a:SI) (xs:List V):Prop:=
 Rd H a (.lst xs)\/
  ∃(o:Obj) (b:Array Sx) (n:Nat),K.lookup a=lD o/\o.cls= .type "list"/\o.dict=Sw/\o.data= .seq b n/\b.size<=SY/\Vals xs b.toList
def Xa (K:Ld) (H:Hp) (a:SI) (xs:List V):Prop:=
 Rd H a (.tup xs)\/
  ∃(o:Obj) (b:Array Sx) (n:Nat),K.lookup a=lD o/\(o.cls= .type "tuple"/\o.dict=Sw)/\o.data= .seq b n/\b.size<=SY/\Vals xs b.toList
def Rp:Sx->Option V
 | .none=>lD .Vh
 | .bool b=>lD (.bl b)
 | .int i _=>lD (.int i)
 | .str x _=>lD (.str x)
 | .bytes b _=>lD (.byt b)
 | .float b _=>lD (.flt b)
 | .ref a=>lD (.ref a)
 | .type n=>lD (.ty n)
 |_=>Sw
theorem RelV.abs (r:RelV x u):Rp u=lD x:=by
 cases x with
 |Vh=>cases r;rfl
 |bl _=>cases r;rfl
 |int _=>obtain⟨t,rfl⟩:=r;rfl
 |str _=>obtain⟨t,rfl⟩:=r;rfl
 |byt _=>obtain⟨t,rfl⟩:=r;rfl
 |flt _=>obtain⟨t,rfl⟩:=r;rfl
 |ref _=>cases r;rfl
 |ty _=>cases r;rfl
theorem RelV.inj (r:RelV x u) (q:RelV y u):x=y:=S7 (r.abs.symm.trans q.abs)
theorem Vals.inj:∀{xs a:List V} {us:List Sx},Vals xs us->Vals a us->xs=a
 |_,_,_,.nil,.nil=>rfl
 |_,_,_,.cons r t,.cons r' t'=>by rw[r.inj r',Vals.inj t t']
section
variable {X:Cx} {Z:List (SI×Obj)} {Y:St} {H:Hp} {s:SK} {a:SI} {xs U:List V}
theorem Xp.of {K:Ld} (h:H a=lD (.lst xs)):Xp K H a xs:= .inl (.inl h)
theorem Xa.of {K:Ld} (h:H a=lD (.tup xs)):Xa K H a xs:= .inl (.inl h)
theorem Inv.list (I:Inv X Z Y H s) (h:Xp X.K H a xs):∃TV:List Sx,Vals xs TV/\PlainL s.heap a TV.toArray/\xs.length<=SY:=by
 rcases h with h|⟨o,TV,n,hk,hc,hd,hs,hz,r⟩
 .obtain⟨z,TV,n,r,e⟩:=h.ok I.Up;exact⟨TV,r,⟨_,n,e,rfl,rfl,rfl⟩,z⟩
 .refine⟨TV.toList,r,⟨o,n,I.Ye a o hk,hc,hd,by simpa using hs⟩,?_⟩;have e:=r.length;simp only[Uh] at e;omega
theorem Inv.tuple (I:Inv X Z Y H s) (h:Xa X.K H a xs):∃TV:List Sx,Vals xs TV/\IsTup s.heap a TV.toArray/\xs.length<=SY:=by
 rcases h with h|⟨o,TV,n,hk,hc,hs,hz,r⟩
 .obtain⟨z,TV,r,p⟩:=h.ok I.Up;exact⟨TV,r,p.tup,z⟩
 .refine⟨TV.toList,r,⟨o,I.Ye a o hk,hc.1,n,by simpa using hs⟩,?_⟩;have e:=r.length;simp only[Uh] at e;omega
theorem Inv.aec (I:Inv X Z Y H s) (h:Xa X.K H a xs):∃TV:List Sx,Vals xs TV/\Zi s.heap a TV.toArray/\xs.length<=SY:=by
 rcases h with h|⟨o,TV,n,hk,hc,hs,hz,r⟩
 .obtain⟨z,TV,r,p⟩:=h.ok I.Up;exact⟨TV,r,p,z⟩
 .refine⟨TV.toList,r,⟨o,I.Ye a o hk,⟨hc.1,n,by simpa using hs⟩,hc.2⟩,?_⟩;have e:=r.length;simp only[Uh] at e;omega
theorem Inv.ack (I:Inv X Z Y H s) (h:Xp X.K H a xs) (h':Xp X.K H a U):xs=U:=by
 obtain⟨j,r,⟨o,n,e,_,_,d⟩,_⟩:=I.list h;obtain⟨b,i,⟨l,m,f,_,_,g⟩,_⟩:=I.list h';rw[e] at f;cases f;rw[d] at g;injection g with d1 _;have:j=b:=by simpa using congrArg ady d1
 subst this;exact r.inj i
theorem Inv.abw (I:Inv X Z Y H s) (h:Xa X.K H a xs) (h':Xa X.K H a U):xs=U:=by
 obtain⟨j,r,⟨o,e,_,n,d⟩,_⟩:=I.tuple h;obtain⟨b,i,⟨l,f,_,m,g⟩,_⟩:=I.tuple h';rw[e] at f;cases f;rw[d] at g;injection g with d1 _;have:j=b:=by simpa using congrArg ady d1
 subst this;exact r.inj i
end
abbrev Cx.XH (X:Cx) (E:Sx->SK->Prop):Cx:={X with xe:=E}
abbrev Cx.nox (X:Cx):Cx:=X.XH fun _ _=>False
theorem Cx.Ok.XH {X:Cx} (ok:X.Ok) (E:Sx->SK->Prop):(X.XH E).Ok:=
 ⟨ok.mod,ok.kind,ok.glob,ok.blt,ok.above,ok.inj,ok.has,ok.cab,ok.hd,ok.frames,ok.stk,ok.exf,ok.bs,ok.bsz,ok.aas,ok.aax,ok.Yg,ok.frf⟩
theorem Cx.Ok.Wm {X:Cx} (ok:(X.XH E).Ok):X.Ok:=
 ⟨ok.mod,ok.kind,ok.glob,ok.blt,ok.above,ok.inj,ok.has,ok.cab,ok.hd,ok.frames,ok.stk,ok.exf,ok.bs,ok.bsz,ok.aas,ok.aax,ok.Yg,ok.frf⟩
section
variable {X:Cx} {Z:List (SI×Obj)} {Y:St} {H:Hp} {s:SK} {E:Sx->SK->Prop}
theorem Inv.XH (I:Inv X Z Y H s) (E:Sx->SK->Prop):Inv (X.XH E) Z Y H s:=⟨I.ok.XH E,I.os,I.bare,I.base,I.loc,I.cell,I.free,I.Wo,I.pin,I.Up,I.len⟩
theorem Inv.Wm (I:Inv (X.XH E) Z Y H s):Inv X Z Y H s:=⟨I.ok.Wm,I.os,I.bare,I.base,I.loc,I.cell,I.free,I.Wo,I.pin,I.Up,I.len⟩
theorem SP.Wm (h:SP (X.XH E) Z D f s'):SP X Z D f s':=by
 cases f with
 |next=>obtain⟨a,b,I,q⟩:=h;exact⟨a,b,I.Wm,q⟩
 |brk=>obtain⟨a,b,I,q⟩:=h;exact⟨a,b,I.Wm,q⟩
 |cont=>obtain⟨a,b,I,q⟩:=h;exact⟨a,b,I.Wm,q⟩
 |ret u=>obtain⟨v,a,b,I,r,q⟩:=h;exact⟨v,a,b,I.Wm,r,q⟩
theorem YA.nox {a:List U6} (h:YA X.nox a t):YA X a t:=fun Z s Y H D I b=>
 wpAny_mono (h Z s Y H D (I.XH _) b) (fun _ _ q=>q.Wm) fun _ _ z=>False.elim z
end
section
variable {X:Cx} {U:U6} {Y:List U6} {t u:TS} {e:T4} {Z:TE} {pos:Pos}
def Ie:TS:=fun D a H=>D.nx a H
def Kt (t u:TS):TS:=fun D a H=>t {D with nx:=u D} a H
theorem oK:YA X [] Ie:=fun _ _ a H _ I h=>WJ ⟨a,H,I,h⟩
theorem ar (l:PS X U t) (j:YA X Y u):YA X (U::Y) (Kt t u):=by
 intro a s g H D I h;refine aeK (cO (l a s g H {D with nx:=u D} I h) fun f i q=> ?_);cases f with
 |next=>obtain⟨b,n,m,q⟩:=q;exact j a i b n D m q
 |ret v=>exact q
 |brk=>exact q
 |cont=>exact q
theorem aX (g:PS X U t):YA X [U] t:=by
 intro a s b H D I h;refine aeK (cO (g a s b H D I h) fun f i q=> ?_);cases f with
 |next=>exact WJ q
 |ret v=>exact q
 |brk=>exact q
 |cont=>exact q
theorem Inv.quiet {a:List (SI×Obj)} {b:St} {H:Hp} {s:SK} (I:Inv X a b H s):interactive X.env=SN:=by simp[interactive,I.ok.kind]
def B7 (Z:TE):TS:=fun D a H=>Z a H fun _ b=>D.nx a b
theorem ic (i:PE X e Z) (g:UB e Sw pos.line X.env=pure SN:=by rfl):PS X (.Expr e pos) (B7 Z):=by intro a s b H D I h;exact wpAny_Expr_any (cO (i a s b H _ I h) fun v m ⟨x,l,j,n,f⟩=>⟨b,l,j,f⟩) I.quiet g
def Ou (Z:TE):TS:=fun D a H=>Z a H D.rt
theorem c7 (i:PE X e Z):PS X (.Return (lD e) pos) (Ou Z):=by intro a s b H D I h;exact wpAny_Return_some (cO (i a s b H _ I h) fun v m ⟨x,l,j,f,g⟩=>⟨x,b,l,j,f,g⟩)
def MZ:TS:=fun D _ H=>D.rt .Vh H
theorem JM:PS X (.Return Sw pos) MZ:=fun _ _ a H _ I h=>wpAny_Return_none ⟨.Vh,a,H,I,rfl,h⟩
def OL (c:TT) (t u:TS):TS:=fun D a H=>c a H fun b f=>if b=Sz then t D a f else u D a f
theorem yn (n:PT X c tc) (ha:YA X a t) (o:YA X b u):PS X (.If c a b pos) (OL tc t u):=by
 intro f s g H D I h;refine wpAny_If (cO (n f s g H _ I h) fun d i ⟨m,l,j⟩=> ?_);cases d with
 |true=>exact ha f i g m D l j
 |false=>exact o f i g m D l j
end
abbrev TG:=V->St->Hp->(St->Hp->Prop)->Prop
abbrev Oc:=List V->St->Hp->(St->Hp->Prop)->Prop
def PG (X:Cx) (a:T4) (t:TG):Prop:=
 ∀(b:List (SI×Obj)) (s:SK) (e:St) (H:Hp) (v:V) (u:Sx) (Q:St->Hp->Prop),Inv X b e H s->RelV v u->t v e H Q->
  wpAny (model X.prog X.w) X.A (assign a X.env u) (fun _ f=>∃σ' H',Inv X b σ' H' f/\Q σ' H') X.xe s
def Q3 (X:Cx) (f:List T4) (t:Oc):Prop:=
 ∀(a:List (SI×Obj)) (s:SK) (b:St) (H:Hp) (vs:List V) (e:List Sx) (Q:St->Hp->Prop),Inv X a b H s->Vals vs e->t vs b H Q->
  wpAny (model X.prog X.w) X.A (assignInOrder ((assignEach f X.env).map (·.2)) e) (fun _ g=>∃σ' H',Inv X a σ' H' g/\Q σ' H') X.xe s
section
variable {X:Cx} {pos:Pos}
def vM (i:Nat):TG:=fun v a H Q=>Q (a.set i (lD v)) H
theorem bB (hN:X.N.Nodup) (hi:X.N[i]? =lD x) (hx:Ra X.env.scope x) (hf:X.fn x=Sz\/X.env.scope.names.lookup x=lD .local:=by first|exact .inl rfl|exact .inr rfl|assumption):PG X (.Name x pos) (vM i):=by intro pins s σ H v u Q I r h;exact aef (zV I hN hi hx r (fun s' I'=>⟨_,H,I',h⟩) hf)
def NK:Oc:=fun vs a H Q=>vs=[]/\Q a H
def Fd (t:TG) (u:Oc):Oc:=fun vs b H Q=>∃v r,vs=v::r/\t v b H fun a e=>u r a e Q
theorem wE:Q3 X [] NK:=by intro a s b H vs f Q I r h;obtain⟨e,h⟩:=h;subst e;cases r;exact assignInOrder_nil ⟨b,H,I,h⟩
theorem lO (n:PG X e t) (m:Q3 X es u)
  (l:(assignEach (e::es) X.env).map (·.2)=assign e X.env::(assignEach es X.env).map (·.2):=by rfl):Q3 X (e::es) (Fd t u):=by
 intro a s f H vs y Q I r h;obtain⟨v,w,o,h⟩:=h;subst o;cases r with
 |cons r i=>rw[l];refine assignInOrder_cons (cO (n a s f H _ _ _ I r h) fun _ g ⟨b,q,p,j⟩=> ?_);exact m a g b q _ _ Q p i j
def OZ (K:Ld) (n:Nat) (t:Oc):TG:=fun v b H Q=>∃a xs,v= .ref a/\Xa K H a xs/\xs.length=n/\t xs b H Q
theorem AL (q:X.calm=Sz) (h:Q3 X es t)
  (hn:(assignEach es X.env).length=n:=by rfl) (dR:(assignEach es X.env).findIdx? (·.1)=Sw:=by rfl):PG X (.Tuple es k pos) (OZ X.K n t):=by
 intro f s i H v u Q I r g;obtain⟨a,xs,w,m,p,g⟩:=g;subst w;cases r;obtain⟨B,rv,l,z⟩:=I.tuple m;refine assign_Tuple_tuple (I.ok.hd q) l (by simp[hn,<-p,rv.length]) dR fun A j=> ?_;have y:=I.kept (t':=s.toks) fun b o e=>j b o (Th (Heap.lt_size e)) e;exact h f _ i H xs _ Q y (by simpa using rv) g
def IE (b:TE) (g:TG):TS:=fun D a H=>b a H fun x e=>g x a e D.nx
theorem cX {i:Nat} {x:Str} {e:T4} {te:TE} {pos':Pos} (hN:X.N.Nodup) (hi:X.N[i]? =lD x) (hx:Ra X.env.scope x) (he:PE X e te) (hs:UB e (lD (.Name x pos')) pos.line X.env=pure SN:=by rfl) (hf:X.fn x=Sz\/X.env.scope.names.lookup x=lD .local:=by first|exact .inl rfl|exact .inr rfl|assumption):
  PS X (.Assign [.Name x pos'] e pos) (IE te (vM i)):=by
 intro pins s σ H D I h;refine wpAny_Assign_Name (cO (he pins s σ H _ I h) fun v s1 ⟨y,H1,I1,r1,q1⟩=> ?_) hs;exact zV I1 hN hi hx r1 (fun s2 I2=>⟨_,H1,I2,q1⟩) hf
end
section
variable {X:Cx} {pos:Pos}
def Gq (c:TT) (f:TS):TS:=fun D a H=>∃W:Nat->St->Hp->Prop,(∃m,W m a H)/\∀m a H,W m a H->
 c a H fun b e=>if b=Sz then∃N:St->Hp->Prop,(∀σ' H',N σ' H'->∃m',m'<m/\W m' σ' H')/\f {D with nx:=N,ct:=N,bk:=D.nx} a e else D.nx a e
theorem sW (r:XS (model X.prog X.w) X.A X.env X.xe) (L:PT X c tc) (M:YA X body tb):PS X (.While c body [] pos) (Gq tc tb):=by
 intro e s B H D I h;obtain⟨W,⟨K,E⟩,turn⟩:=h;refine wpAny_While (codeAny_whileLoop (fun n J=>∃σ' H',Inv X e σ' H' J/\W n σ' H') ?_ K ⟨B,H,I,E⟩);rintro n G ⟨g,z,O,C⟩;refine Vu r (cO (L e G g z _ O (turn n g z C)) fun b F ⟨y,u,l⟩=> ?_);cases b with
 |true=>
  obtain⟨N,t,l⟩:=l;rw[if_pos rfl];refine Vu r (cO (M e F g y _ u l) fun f P j=> ?_);cases f with
  |next=>obtain⟨a,i,q,o⟩:=j;obtain⟨p,hm,m⟩:=t a i o;exact⟨p,hm,a,i,q,m⟩
  |cont=>obtain⟨a,i,q,o⟩:=j;obtain⟨p,hm,m⟩:=t a i o;exact⟨p,hm,a,i,q,m⟩
  |brk=>exact j
  |ret v=>exact j
 |false=>rw[if_neg S9];exact WJ ⟨g,y,u,l⟩
end
structure It where
 go:Nat->Hp->Prop
 yld:Nat->Hp->V->Hp->Prop
 stop:Nat->Hp->Prop
def pT (X:Cx) (a:List (SI×Obj)) (H:Hp) (b:SI):Prop:=
 H b=Sw/\b≠X.env.locals/\b∉X.fs/\(b∈X.ex\/X.s₀.heap.objs.size<=b)/\(∀x c,X.env.cells.lookup x=lD c->c≠b)/\∀p∈X.pn++a,p.1≠b
theorem Inv.ZO (I:Inv X pins σ H s) (a:s.heap.objs.size<=b) (hn:H' b=Sw):pT X pins H' b:=by
 refine⟨hn,Ul (Tf I.lt a),I.ahr a,.inr (TJ I.sz a),fun x c e z=> ?_,fun p f z=> ?_⟩
 .obtain⟨v,q⟩:=I.cell x c e;exact absurd (Tf q.lt (by rw[z];exact a)) (Ui _)
 .exact absurd (Tf (Heap.lt_size (I.pin p f).1) (by rw[z];exact a)) (Ui _)
structure Turn (P:Te) (w:TF) (K:Ld) (tg:T4) (J:It) (fp:List SI) (it:SI) (tn:Nat->Heap->Prop):Prop where
 mem:it∈fp
 obj:∀i h,tn i h->∀b∈fp,∃o,h.get? b=lD o/\∀v,o.data≠ .cell v
 keep:∀i h h',tn i h->(∀b∈fp,∀o,h.get? b=lD o->h'.get? b=lD o)->tn i h'
 item:∀(X:Cx),X.prog=P->X.w=w->X.K=K->X.calm=Sz->∀(i:Nat) (pins:List (SI×Obj)) (s:SK) (σ:St) (H:Hp) (E:Sx->SK->Prop),Inv X pins σ H s->(∀b∈fp,pT X pins H b)->tn i s.heap->J.go i H->
  wpAny (model P w) X.A (pyNext (.ref it)) (fun r s1=>∃u,r=lD u/\
   wpAny (model P w) X.A (letOwnedTupleGo tg (.ref it) u) (fun _ s2=>∃x H',Inv X pins σ H' s2/\RelV x u/\J.yld i H x H'/\tn (i+1) s2.heap/\∀b∈fp,H' b=Sw) E s1) E s
 done:∀(X:Cx),X.prog=P->X.w=w->X.K=K->X.calm=Sz->∀(i:Nat) (pins:List (SI×Obj)) (s:SK) (σ:St) (H:Hp) (E:Sx->SK->Prop),Inv X pins σ H s->(∀b∈fp,pT X pins H b)->tn i s.heap->J.stop i H->
  wpAny (model P w) X.A (pyNext (.ref it)) (fun r s1=>r=Sw/\Inv X pins σ H s1) E s
 self:∀(A:Tw) (i:Nat) (s:SK) (Q:Sx->SK->Prop) (E:Sx->SK->Prop),tn i s.heap->Q (.ref it) s->wpAny (model P w) A (pyIter (.ref it)) Q E s
abbrev TI:=St->Hp->(It->Hp->Prop)->Prop
def RU (X:Cx) (a:List (SI×Obj)) (l:St) (m:T4) (R:It->Hp->Prop) (e:Sx) (h:SK):Prop:=
 ∃(i:SI) (j:List SI) (g:Nat->Heap->Prop) (J:It) (f:Hp),e= .ref i/\Inv X a l f h/\Turn X.prog X.w X.K m J j i g/\g 0 h.heap/\(∀b∈j,pT X a f b)/\R J f
def PI (X:Cx) (g b:T4) (f:TI):Prop:=
 ∀(a:List (SI×Obj)) (s:SK) (e:St) (H:Hp) (R:It->Hp->Prop),Inv X a e H s->f e H R->
  wpAny (model X.prog X.w) X.A (eval b X.env) (fun v h=>wpAny (model X.prog X.w) X.A (pyIter v) (RU X a e g R) X.xe h) X.xe s
theorem GZ {M:abC} {A:Tw} {E:Sx->SK->Prop} {s:SK} {b:T4} {e:SI} {u:Sx} {o:Obj} {n:String} {vs:Array Sx} {Q:Unit->SK->Prop} (f:s.heap.get? e=lD o) (g:o.cls= .type n) (hd:o.data= .fields vs)
  (hn:["enumerate","zip","dict_itemiterator","dict_reverseitemiterator","odict_iterator","itertools.zip_longest","itertools.pairwise"].contains n=SN) (a:Q () s):wpAny M A (letOwnedTupleGo b (.ref e) u) Q E s:=by
 unfold letOwnedTupleGo;cases b<;>first
  |exact SQ a
  |(cases u<;>first
    |exact SQ a
    |(refine Sv (adz f ?_)
      rw[g,hd];show wpAny M A (if(["enumerate","zip","dict_itemiterator","dict_reverseitemiterator","odict_iterator","itertools.zip_longest","itertools.pairwise"].contains n&&vs[0]? ==lD (rawInt _))=Sz then _ else _) Q E s;rw[if_neg (by intro h;rw[hn,WE] at h;cases h)];exact SQ a))
def Ru (K:Ld) (a:SI):It:=
 ⟨fun i H=>∃xs x,Xp K H a xs/\xs[i]? =lD x,fun i H x b=>b=H/\∀xs,Xp K H a xs->xs[i]? =lD x,fun i H=>∃xs,Xp K H a xs/\xs.length<=i⟩
def RK (K:Ld) (a:SI):It:=
 ⟨fun i H=>∃xs x,Xa K H a xs/\xs[i]? =lD x,fun i H x b=>b=H/\∀xs,Xa K H a xs->xs[i]? =lD x,fun i H=>∃xs,Xa K H a xs/\xs.length<=i⟩
def QW (lo:Int) (n:Nat):It:=⟨fun i _=>i<n,fun i H x a=>a=H/\x= .int (lo+i),fun i _=>n<=i⟩
theorem EA {K:Ld} (a g:SI):Turn P w K tg (Ru K a) [g] g (fun i h=>h.IsListIter g a i) where
 mem:=by simp
 obj:=fun i h f b j=>by
  have e:b=g:=by simpa using j
  subst e;obtain⟨o,e,c,d⟩:=f;exact⟨o,e,fun v z=>by rw[d] at z;cases z⟩
 keep:=fun i h N f k=>f.at fun o e=>k g (by simp) o e
 item:=by intro X A t B M i m s O H E I q f y;subst A t B;obtain⟨xs,x,n,r⟩:=y;obtain⟨TV,rv,p,S⟩:=I.list n;obtain⟨u,U,R⟩:=rv.get r;obtain⟨L,J,Y,G,F,C⟩:=q g (by simp);refine wpAny_pyNext_list_item f p.isList (by simpa using U) fun N l Q=> ?_;have I1:=I.turned (t':=s.toks) (fun b o j e=>(Q.2 b j).trans e) L J G F C;obtain⟨o,e,c,d⟩:=id l;exact⟨u,rfl,GZ e c d (by decide) ⟨x,H,I1,R,⟨rfl,fun ys T=>by rw[I.ack T n];exact r⟩,l,fun b j=>(q b j).1⟩⟩
 done:=by intro X A t B M i m s O H E I q f y;subst A t B;obtain⟨xs,n,r⟩:=y;obtain⟨TV,rv,p,S⟩:=I.list n;obtain⟨L,J,Y,G,F,C⟩:=q g (by simp);have hl:=rv.length;exact wpAny_pyNext_list_end (I.ok.hd M) f p.isList (by simp;omega) fun N Z=>⟨rfl,I.turned (fun b o j e=>Z b o j e) L J G F C⟩
 self:=fun _ _ _ _ _ f h=>wpAny_pyIter_listiter f h
theorem Aj {K:Ld} (a g:SI):Turn P w K tg (RK K a) [g] g (fun i h=>h.IsTupleIter g a i) where
 mem:=by simp
 obj:=fun i h f b j=>by
  have e:b=g:=by simpa using j
  subst e;obtain⟨o,e,c,d⟩:=f;exact⟨o,e,fun v z=>by rw[d] at z;cases z⟩
 keep:=fun i h O f k=>f.at fun o e=>k g (by simp) o e
 item:=by intro X A t B N i m s Q H E I q f y;subst A t B;obtain⟨xs,x,n,r⟩:=y;obtain⟨M,rv,p,T⟩:=I.tuple n;obtain⟨u,Y,S⟩:=rv.get r;obtain⟨L,J,Z,G,F,C⟩:=q g (by simp);refine wpAny_pyNext_tuple_item f (show s.heap.IsTuple a M.toArray from p) (by simpa using Y) fun O l R=> ?_;have I1:=I.turned (t':=s.toks) (fun b o j e=>(R.2 b j).trans e) L J G F C;obtain⟨o,e,c,d⟩:=id l;exact⟨u,rfl,GZ e c d (by decide) ⟨x,H,I1,S,⟨rfl,fun ys U=>by rw[I.abw U n];exact r⟩,l,fun b j=>(q b j).1⟩⟩
 done:=by intro X A t B N i m s Q H E I q f y;subst A t B;obtain⟨xs,n,r⟩:=y;obtain⟨M,rv,p,T⟩:=I.tuple n;obtain⟨L,J,Z,G,F,C⟩:=q g (by simp);have hl:=rv.length;exact wpAny_pyNext_tuple_end (I.ok.hd N) f (show s.heap.IsTuple a M.toArray from p) (by simp;omega) fun O eb=>⟨rfl,I.turned (fun b o j e=>eb b o j e) L J G F C⟩
 self:=fun _ _ _ _ _ f h=>wpAny_pyIter_tupleiter f h
theorem Br {K:Ld} (g:SI) (lo:Int) (n:Nat):Turn P w K tg (QW lo n) [g] g (fun i h=>IsRangeIter h g (lo+(i:Nat)*1) ((n:Int) - (i:Nat)) 1) where
 mem:=by simp
 obj:=fun i h a b j=>by
  have e:b=g:=by simpa using j
  subst e;exact⟨_,a,fun v z=>by have M:=z;cases M⟩
 keep:=fun i h A a k=>k g (by simp) _ a
 item:=by intro X u p y r i f s L H E I m a q;subst u p y;obtain⟨J,G,R,F,C,B⟩:=m g (by simp);have W:=Walks.range (prog:=X.prog) (w:=X.w) (I.ok.hd r) g lo 1 n;refine W.item i s _ _ q a fun v A N Q l O=> ?_;obtain⟨t,rfl⟩:=Q;have T:Inv X f L H {s with heap:=A,toks:=N}:=I.turned (fun b o j e=>O b o (by simpa using j) e) J G F C B;refine⟨_,rfl,GZ l rfl rfl (by decide) ⟨.int (lo+i),H,T,⟨t,?_⟩,⟨rfl,rfl⟩,l,fun b j=>(m b j).1⟩⟩;rw[Int.mul_one]
 done:=by intro X u p y r i f s L H E I m a q;subst u p y;obtain⟨J,G,R,F,C,B⟩:=m g (by simp);exact wpAny_pyNext_range_end (I.ok.hd r) a (by have:n<=i:=q;omega) fun A S=>⟨rfl,I.turned (fun b o j e=>S b o j e) J G F C B⟩
 self:=fun _ _ _ _ _ a h=>wpAny_pyIter_rangeiter a h
section
variable {X:Cx} {Z:T4}
theorem F7 {a:List (SI×Obj)} {f:St} {H:Hp} {s:SK} {R:It->Hp->Prop} {E:Sx->SK->Prop} {lo hi:Int} {t u v:Tok} {g:Nat} (I:Inv X a f H s) (n: -(2^62)<=lo) (m:lo<2^62) (l: -(2^62)<=hi) (j:hi<2^62)
  (q:R (QW lo (hi - lo).toNat) H):wpAny (model X.prog X.w) X.A (pyIter (.ref s.heap.objs.size)) (RU X a f Z R) E {s with heap:=s.heap.push {cls:= .type "range",data:= .fields #[.int lo t,.int hi u,.int 1 v]},toks:=g}:=by
 refine wpAny_pyIter_range (IsRange.new ..) (small_one n m l j) ?_;have h:Inv X a f H {s with heap:=s.heap.push {cls:= .type "range",data:= .fields #[.int lo t,.int hi u,.int 1 v]},toks:=g}:=I.kept fun b o e=>Heap.get?_push_of_some _ e;refine⟨(s.heap.push {cls:= .type "range",data:= .fields #[.int lo t,.int hi u,.int 1 v]}).objs.size,[(s.heap.push {cls:= .type "range",data:= .fields #[.int lo t,.int hi u,.int 1 v]}).objs.size],_,_,H,rfl,
  h.kept (t':=g) fun b o e=>Heap.get?_push_of_some _ e,Br _ lo (hi - lo).toNat,?_,fun b i=> ?_,q⟩
 .have r:lo+((0:Nat):Int)*1=lo:=by simp
  have p:(((hi - lo).toNat:Nat):Int) - ((0:Nat):Int)=Ua.Range.rangeSize lo hi 1:=by rw[rangeSize_one];split<;>omega
  show IsRangeIter _ _ (lo+((0:Nat):Int)*1) ((((hi - lo).toNat:Nat):Int) - ((0:Nat):Int)) 1;rw[r,p];exact Heap.get?_push_size _ rfl
 .have e:b=(s.heap.push {cls:= .type "range",data:= .fields #[.int lo t,.int hi u,.int 1 v]}).objs.size:=by simpa using i
  subst e;exact h.ZO (SU _) (h.Up.fresh (SU _))
def Jx (b:TA):TI:=fun a H R=>b a H fun vs e=>∃j:Int,vs=[.int j]/\ -(2^62)<=j/\j<2^62/\R (QW 0 j.toNat) e
theorem eW (o:Gl X "range") (hm:X.mg "range"=Sw) (ha:PA X [a] ta) (n:To [a] X.env=[(SN,eval a X.env)]:=by rfl):PI X Z (.Call (.Name "range" p) [a] [] pos) (Jx ta):=by
 intro b s g H R I h;refine Call_ (pR I o hm boot_range (Wb (cO (ha pos b s g H _ I h) fun v w ⟨vs,y,u,l,f⟩=> ?_) n rfl));obtain⟨j,e,f,m,q⟩:=f;subst e;cases l with
 |cons r i=>cases i;obtain⟨t,rfl⟩:=r;exact call_range_1 (F7 u (by omega) (by omega) f m (by simpa using q))
def OA (e:TI) (g:TG) (f:TS):TS:=fun D a H=>e a H fun J j=>∃W:Nat->Nat->St->Hp->Prop,(∃m,W 0 m a j)/\∀i m a H,W i m a H->
 (J.stop i H/\D.nx a H)\/(J.go i H/\∃N:St->Hp->Prop,(∀σ' H',N σ' H'->∃m',m'<m/\W (i+1) m' σ' H')/\∀x H',J.yld i H x H'->g x a H' fun b h=>f {D with nx:=N,ct:=N,bk:=D.nx} b h)
def su (fp:List SI) (h:Heap):List (SI×Obj):=fp.filterMap fun b=>(h.get? b).map fun o=>(b,o)
theorem kA (a:b∈fp) (e:h.get? b=lD o):(b,o)∈su fp h:=WG.mpr ⟨b,a,by rw[e];rfl⟩
theorem D5 (a:p∈su fp h):p.1∈fp/\h.get? p.1=lD p.2:=by
 obtain⟨b,f,e⟩:=WG.mp a;cases q:h.get? b with
 |none=>rw[q] at e;cases e
 |some o=>rw[q] at e;have g:=S7 e;subst g;exact⟨f,q⟩
theorem Inv.pinned (I:Inv X pins σ H s) (i:∀b∈fp,pT X pins H b) (h:∀b∈fp,∃o,s.heap.get? b=lD o/\∀v,o.data≠ .cell v):Inv X (pins++su fp s.heap) σ H s:=
 I.ZS fun p g=>(TZ.mp g).elim (fun z=>I.pin p (T8 _ z)) fun z=>by obtain⟨a,e⟩:=D5 z;obtain⟨m,l,j,_⟩:=i p.1 a;obtain⟨o,f,d⟩:=h p.1 a;rw[e] at f;cases f;exact⟨e,m,l,j,d⟩
theorem Inv.Yw (I:Inv X (pins++pl) σ H s):Inv X pins σ H s:=I.ZS fun p a=>I.pin p (T8 _ (Wn _ a))
theorem xL (L:XS (model X.prog X.w) X.A X.env X.xe) (hc:X.calm=Sz) (hi:PI X Z iter wi) (hg:PG X Z g) (p:YA X body tb)
  (hs:∀x,foldedSetIterable iter X.env x=pure x:=by intro _;rfl):PS X (.For Z iter body [] pos) (OA wi g tb):=by
 intro j s σ H D I h;refine wpAny_For (cO (hi j s σ H _ I h) fun v s1 h1=>cO h1 fun itv s2 h2=> ?_) hs;obtain⟨it,O,tn,J,H2,e,I2,T,R,f2,W,⟨m0,w0⟩,turn⟩:=h2;subst e;have E:∀{z:Hp},(∀b∈O,z b=Sw)->∀b∈O,pT X j z b:=fun hn b p=>⟨hn b p,(f2 b p).2⟩;refine codeAny_forLoop_any (fun n s'=>∃i σ' z,Inv X j σ' z s'/\tn i s'.heap/\(∀b∈O,z b=Sw)/\W i n σ' z) ?_ m0 ⟨0,σ,H2,I2,R,fun b p=>(f2 b p).1,w0⟩;rintro n s3 ⟨i,l,P,I3,G,M,w3⟩;rcases turn i n l P w3 with⟨F,qn⟩|⟨go,N,hN,step⟩
 .refine Vu L (cO (T.done X rfl rfl rfl hc i j s3 l P X.xe I3 (E M) G F) fun r s4 ⟨U,I4⟩=> ?_);subst U;exact WJ ⟨l,P,I4,qn⟩
 .refine Vu L (cO (T.item X rfl rfl rfl hc i j s3 l P X.xe I3 (E M) G go) fun r s4 ⟨u,U,h4⟩=> ?_)
  subst U;refine Vu L (cO h4 fun _ s5 ⟨x,H5,I5,r5,y5,C,Y⟩=> ?_);have I5':=I5.pinned (E Y) (T.obj _ _ C);refine Vu L (cO (hg _ s5 l H5 x u _ I5' r5 (step x H5 y5)) fun _ s6 ⟨Q,H6,I6,q6⟩=> ?_);refine Vu L (cO (p _ s6 Q H6 _ I6 q6) fun f S B=> ?_);have q:∀{a:St} {y:Hp},Inv X (j++su O s5.heap) a y S->N a y->∃m,m<n/\∃i σ' z,Inv X j σ' z S/\tn i S.heap/\(∀b∈O,z b=Sw)/\W i m σ' z:=fun{a y} t K=>by obtain⟨m',hm,w7⟩:=hN a y K;refine⟨m',hm,i+1,a,y,t.Yw,T.keep _ _ _ C fun b p o e=>(t.pin (b,o) (T8 _ (T8 _ (kA p e)))).1,fun b p=> ?_,w7⟩;obtain⟨o,e,d⟩:=T.obj _ _ C b p;exact(t.pin (b,o) (T8 _ (T8 _ (kA p e)))).2.1
  cases f with
  |next=>obtain⟨a,y,t,K⟩:=B;exact q t K
  |cont=>obtain⟨a,y,t,K⟩:=B;exact q t K
  |brk=>obtain⟨a,y,t,B⟩:=B;exact⟨a,y,t.Yw,B⟩
  |ret v=>obtain⟨x7,a,y,t,r7,B⟩:=B;exact⟨x7,a,y,t.Yw,r7,B⟩
end
abbrev R2:=V->V->Hp->VK->Prop
def OpR (X:Cx) (f:Sx->Sx->Sem Sx) (r:R2):Prop:=
 ∀(a:List (SI×Obj)) (s:SK) (b:St) (H:Hp) (x y:V) (v u:Sx) (Q:VK),Inv X a b H s->RelV x v->RelV y u->r x y H Q->
  wpAny (model X.prog X.w) X.A (f v u) (EP X a b Q) X.xe s
def Rk (X:Cx) (f:Sx->Sem Sx) (r:V->Hp->VK->Prop):Prop:=
 ∀(a:List (SI×Obj)) (s:SK) (b:St) (H:Hp) (x:V) (v:Sx) (Q:VK),Inv X a b H s->RelV x v->r x H Q->
  wpAny (model X.prog X.w) X.A (f v) (EP X a b Q) X.xe s
def Vx (X:Cx) (f:Sx) (r:List V->Hp->VK->Prop):Prop:=
 ∀(a:List (SI×Obj)) (s:SK) (b:St) (H:Hp) (xs:List V) (e:List Sx) (Q:VK),Inv X a b H s->Vals xs e->r xs H Q->
  wpAny (model X.prog X.w) X.A (call f e) (EP X a b Q) X.xe s
def PH (r:R2) (e b:TE):TE:=fun a H Q=>e a H fun x g=>b a g fun y f=>r x y f Q
def RT (r:V->Hp->VK->Prop) (b:TE):TE:=fun a H Q=>b a H fun x e=>r x e Q
def rI (C:Int->Int->Prop) (g:Int->Int->V):R2:=fun x y H Q=>∃i j,x= .int i/\y= .int j/\C i j/\Q (g i j) H
def x8 (g:Int->Int->V):R2:=fun x y H Q=>∃i j,x= .int i/\y= .int j/\Q (g i j) H
def rU (g:Int->V):V->Hp->VK->Prop:=fun x H Q=>∃i,x= .int i/\Q (g i) H
section
variable {X:Cx} {a b c:T4} {Z Y tc:TE} {pos:Pos}
theorem NV (ha:PE X a Z) (n:PE X b Y) {R:V->V->Hp->Prop} (I:Inv X pins σ H s)
  (h:Z σ H fun x H1=>Y σ H1 fun y H2=>R x y H2) {f:Sx->Sx->Sem Sx}
  (m:∀v u s2 x y H2,Inv X pins σ H2 s2->RelV x v->RelV y u->R x y H2->wpAny (model X.prog X.w) X.A (f v u) Q X.xe s2):
  wpAny (model X.prog X.w) X.A (eval a X.env) (fun v s₁=>wpAny (model X.prog X.w) X.A (eval b X.env) (fun u s₂=>wpAny (model X.prog X.w) X.A (f v u) Q X.xe s₂) X.xe s₁) X.xe s:=by
 refine cO (ha pins s σ H _ I h) fun v e ⟨x,H1,p,i,l⟩=> ?_;refine cO (n pins e σ H1 _ p l) fun u s2 ⟨y,H2,o,g,j⟩=> ?_;exact m v u s2 x y H2 o i g j
theorem on (l:OpR X (UX op) r) (ha:PE X a Z) (m:PE X b Y):PE X (.BinOp a op b pos) (PH r Z Y):=by intro e s f H Q I h;exact wpAny_BinOp (NV ha m I h fun v u g x y o n j i q=>l e g f o x y v u Q n j i q)
theorem IS (l:Rk X (unaryOp op) r) (ha:PE X a Z):PE X (.UnaryOp op a pos) (RT r Z):=by intro e s f H Q I h;exact UnaryOp_ (cO (ha e s f H _ I h) fun v g ⟨x,n,m,i,j⟩=>l e g f n x v Q m i j)
theorem PZ {g:Int->Int->Int}
  (e:∀(i j:Int) (t u:Tok) (s:SK) (Q:Sx->SK->Prop) (E:Sx->SK->Prop),C i j->Q (.int (g i j) s.toks) {s with toks:=s.toks+1}->wpAny (model X.prog X.w) X.A (f (.int i t) (.int j u)) Q E s):
  OpR X f (rI C fun i j=> .int (g i j)):=by
 intro l s r H x y v u Q I o n h;obtain⟨i,j,rfl,rfl,p,q⟩:=h;obtain⟨t,rfl⟩:=o;obtain⟨m,rfl⟩:=n;exact e i j t m s _ _ p ⟨.int (g i j),H,I.tok _,⟨_,rfl⟩,q⟩
theorem Op {g:Int->Int->Int}
  (e:∀(i j:Int) (t u:Tok) (s:SK) (Q:Sx->SK->Prop) (E:Sx->SK->Prop),Q (.int (g i j) s.toks) {s with toks:=s.toks+1}->wpAny (model X.prog X.w) X.A (f (.int i t) (.int j u)) Q E s):
  OpR X f (x8 fun i j=> .int (g i j)):=by
 intro l s p H x y v u Q I o n h;obtain⟨i,j,rfl,rfl,q⟩:=h;obtain⟨t,rfl⟩:=o;obtain⟨m,rfl⟩:=n;exact e i j t m s _ _ ⟨.int (g i j),H,I.tok _,⟨_,rfl⟩,q⟩
theorem Kr {g:Int->Int->Bool}
  (e:∀(i j:Int) (t u:Tok) (s:SK) (Q:Sx->SK->Prop) (E:Sx->SK->Prop),Q (.bool (g i j)) s->wpAny (model X.prog X.w) X.A (f (.int i t) (.int j u)) Q E s):
  OpR X f (x8 fun i j=> .bl (g i j)):=by
 intro l s p H x y v u Q I o n h;obtain⟨i,j,rfl,rfl,q⟩:=h;obtain⟨t,rfl⟩:=o;obtain⟨m,rfl⟩:=n;exact e i j t m s _ _ ⟨.bl (g i j),H,I,rfl,q⟩
def II (i j:Int):Prop:=0<=j/\j<=1000000/\i.natAbs<2^64
def acW (i j:Int):Prop:=(-(2^64)<i/\i<2^64)\/(-(2^64)<j/\j<2^64)
theorem acW.ok (h:acW i j):IntMulOk i j:=by
 rcases h with⟨f,e⟩|⟨f,e⟩
 .exact .of_left (ai1 f e)
 .exact .of_right (ai1 f e)
theorem two_pow_nn (k:Nat):(0:Int)<=2^k:=by rw[two_pow_cast];exact Int.natCast_nonneg _
theorem PF:OpR X (UX .Add) (x8 fun i j=> .int (i+j)):=Op fun _ _ _ _ _ _ _ q=>add_int q
theorem Ox:OpR X (UX .Sub) (x8 fun i j=> .int (i - j)):=Op fun _ _ _ _ _ _ _ q=>sub_int q
theorem OJ:OpR X (UX .Mult) (rI acW fun i j=> .int (i*j)):=PZ fun _ _ _ _ _ _ _ e q=>mul_int q e.ok
theorem Ow:OpR X (UX .Mod) (rI (fun _ j=>0<j) fun i j=> .int (i % j)):=PZ fun i j _ _ _ _ _ e q=>by have f:(0:Int)<j:=e;exact mod_int' (by omega) (by rw[Int.fmod_eq_emod_of_nonneg i (by omega)];exact q)
theorem Pd:OpR X (UX .Pow) (rI II fun i j=> .int (i^j.toNat)):=PZ fun _ _ _ _ _ _ _ e q=>pow_int_small e.1 e.2.1 e.2.2 q
theorem Jy:OpR X (UX .LShift) (rI II fun i j=> .int (i*2^j.toNat)):=PZ fun _ _ _ _ _ _ _ e q=>lshift_int_small e.1 e.2.1 e.2.2 q
theorem GF:OpR X (UX .RShift) (rI (fun _ j=>0<=j) fun i j=> .int (i/2^j.toNat)):=PZ fun i j _ _ _ _ _ e q=>
 rshift_int e (by rw[ZF i (two_pow_nn _)];exact q)
theorem G2:OpR X (UX .BitAnd) (x8 fun i j=> .int (Ua.bitAnd i j)):=Op fun _ _ _ _ _ _ _ q=>and_int q
theorem Sl {g:Int->Int}
  (e:∀(i:Int) (t:Tok) (s:SK) (Q:Sx->SK->Prop) (E:Sx->SK->Prop),Q (.int (g i) s.toks) {s with toks:=s.toks+1}->wpAny (model X.prog X.w) X.A (f (.int i t)) Q E s):
  Rk X f (rU fun i=> .int (g i)):=by
 intro j s m H x v Q I l h;obtain⟨i,rfl,q⟩:=h;obtain⟨t,rfl⟩:=l;exact e i t s _ _ ⟨.int (g i),H,I.tok _,⟨_,rfl⟩,q⟩
theorem Ai:Rk X (unaryOp .USub) (rU fun i=> .int (-i)):=Sl fun _ _ _ _ _ q=>neg_int q
end
section
variable {X:Cx} {a b c:T4} {Y Z U:TE} {pos:Pos}
theorem Fc (I:Inv X pins σ H s) (q:Q (.bl k) H) (e:k=k'):EP X pins σ Q (.bool k') s:=by subst e;exact⟨.bl k,H,I,rfl,q⟩
theorem ML:OpR X (UJ .Lt) (x8 fun i j=> .bl (decide (i<j))):=Kr fun _ _ _ _ _ _ _ q=>lt_int q
theorem QF:OpR X (UJ .LtE) (x8 fun i j=> .bl (decide (i<=j))):=Kr fun _ _ _ _ _ _ _ q=>le_int q
theorem Ha:OpR X (UJ .Gt) (x8 fun i j=> .bl (decide (j<i))):=Kr fun _ _ _ _ _ _ _ q=>gt_int q
theorem MX:OpR X (UJ .GtE) (x8 fun i j=> .bl (decide (j<=i))):=Kr fun _ _ _ _ _ _ _ q=>ge_int q
theorem NU:OpR X (UJ .Is) (fun x y H Q=>y= .Vh/\Q (.bl (decide (x= .Vh))) H):=by
 intro f s i H x y v u Q I e g h;obtain⟨rfl,q⟩:=h;cases g;refine is_none_gen (Fc I q ?_);cases x<;>first
  |(cases e;rfl)
  |(obtain⟨t,rfl⟩:=e;rfl)
theorem BS:OpR X (UJ .IsNot) (fun x y H Q=>y= .Vh/\Q (.bl (!decide (x= .Vh))) H):=by
 intro f s i H x y v u Q I e g h;obtain⟨rfl,q⟩:=h;cases g;refine isnot_none_gen (Fc I q ?_);cases x<;>first
  |(cases e;rfl)
  |(obtain⟨t,rfl⟩:=e;rfl)
theorem fX (b:T4) (h:op≠ .In:=by decide) (e:op≠ .NotIn:=by decide):behindInMarks op b=SN:=by
 have g:(op==CmpOp.In)=SN:=by cases op<;>first|rfl|exact absurd rfl h
 have f:(op==CmpOp.NotIn)=SN:=by cases op<;>first|rfl|exact absurd rfl e
 cases b<;>simp[behindInMarks,g,f]
theorem gD {f:CmpOp} {r:R2} (m:OpR X (UJ f) r) (ha:PE X a Y) (n:PE X b Z) (hm:behindInMarks f b=SN):PE X (.Compare a [f] [b] pos) (PH r Y Z):=by intro e s g H Q I h;exact wpAny_Compare1 (NV ha n I h fun v u i x y p o l j q=>m e i g p x y v u Q o l j q) hm
def C7 (t:TE):TT:=fun e H Q=>t e H fun x f=>∃k,x= .bl k/\Q k f
theorem hV (t:OpR X (UJ op) r) (ha:PE X a Y) (w:PE X b Z) (hm:behindInMarks op b=SN):PT X (.Compare a [op] [b] pos) (C7 (PH r Y Z)):=by
 intro f s g H Q I h;refine aco (cO (ha f s g H _ I h) fun v j ⟨x,G,C,n,q⟩=>cO (w f j g G _ C q) fun u i ⟨y,F,B,m,p⟩=>
  cO (t f i g F x y v u _ B n m p) fun c J ⟨z,E,A,l,k,e,o⟩=> ?_) hm
 subst e;cases l;exact UQ ⟨E,A,o⟩
def G9 (r r':R2) (Y Z U:TE):TE:=fun e H Q=>Y e H fun x j=>Z e j fun y i=>r x y i fun z f=>∃k,z= .bl k/\
 (if k=Sz then U e f fun g h=>r' y g h Q else Q (.bl SN) f)
theorem Jk (N:OpR X (UJ op) r) (i:OpR X (UJ op') r') (ha:PE X a Y) (P:PE X b Z) (O:PE X c U)
  (hm:lastMarks [op,op'] [b,c]=SN:=by with_unfolding_all rfl):PT X (.Compare a [op,op'] [b,c] pos) (C7 (G9 r r' Y Z U)):=by
 intro f s g H Q I h;refine isTrue_chain (cO (ha f s g H _ I h) fun v A ⟨x,H1,I1,F,L⟩=>test_link (cO (P f A g H1 _ I1 L) fun u w ⟨y,H2,I2,j,K⟩=>
  cO (N f w g H2 x y v u _ I2 F j K) fun d t ⟨z,n,m,E,k,e,l⟩=> ?_)) hm
 subst e;cases E;refine UQ ?_;cases k with
 |false=>obtain⟨k',S,M⟩:=l;cases S;exact ite_ff ⟨n,m,M⟩
 |true=>refine ite_tt (test_last (cO (O f t g n _ m l) fun p q ⟨o,H4,I4,C,J⟩=>cO (i f q g H4 y o u p _ I4 j C J) fun d' s5 ⟨z2,H5,T,B,k2,R,G⟩=> ?_));subst R;cases B;exact UQ ⟨H5,T,G⟩
theorem xT:(SY:Nat)<2^63:=by rw[U9];decide
theorem kE (r:Vals [x] us):∃u,us=[u]/\RelV x u:=by
 cases r with
 |cons f e=>cases e;exact⟨_,rfl,f⟩
theorem B1 (r:Vals [x,y] us):∃u w',us=[u,w']/\RelV x u/\RelV y w':=by
 cases r with
 |cons h g=>
  cases g with
  |cons f e=>cases e;exact⟨_,_,rfl,h,f⟩
theorem DH (g:X.calm=Sz):Vx X (.builtin "max") (fun xs H Q=>∃i j,xs=[.int i,.int j]/\Q (.int (if j>i then j else i)) H):=by
 intro f s l H xs n Q I r h;obtain⟨i,j,rfl,q⟩:=h;obtain⟨u,m,rfl,⟨t,rfl⟩,⟨p,rfl⟩⟩:=B1 r;refine max_two_ints (I.ok.hd g) fun v o k=>⟨_,H,I.kept k,?_,q⟩;by_cases e:j>i
 .rw[if_pos e,if_pos e];exact⟨_,rfl⟩
 .rw[if_neg e,if_neg e];exact⟨_,rfl⟩
def Ky (K:Ld) (x:V) (H:Hp) (n:Nat):Prop:=
 match x with
 | .str y=>y.length<=SY/\n=y.length
 | .byt y=>y.size<=SY/\n=y.size
 | .ref p=>(∃xs,Xp K H p xs/\n=xs.length)\/∃xs,Xa K H p xs/\n=xs.length
 |_=>False
theorem db:Vx X (.builtin "len") (fun xs H Q=>∃x n,xs=[x]/\Ky X.K x H n/\Q (.int n) H):=by
 intro m s z H xs A Q I r h;obtain⟨x,n,rfl,e,q⟩:=h;obtain⟨u,rfl,i⟩:=kE r;have C:=xT;have B:=U9;cases x with
 |str y=>obtain⟨t,rfl⟩:=i;obtain⟨v,g⟩:=e;subst g;exact len_str (by omega) ⟨.int _,H,I.tok _,⟨_,rfl⟩,q⟩
 |byt y=>obtain⟨t,rfl⟩:=i;obtain⟨v,g⟩:=e;subst g;exact PySem.W.len_bytes (by omega) ⟨.int _,H,I.tok _,⟨_,rfl⟩,q⟩
 |ref p=>
  cases i;have g:=e;rcases g with⟨xs,l,g⟩|⟨xs,l,g⟩
  .subst g;obtain⟨w,j,pl,o⟩:=I.list l;have f:=j.length;exact Calls.call_len_list pl.isList (by simp only[S8];omega) ⟨.int xs.length,H,I.tok _,⟨_,by simp only[S8];rw[f]⟩,q⟩
  .subst g;obtain⟨w,j,pl,o⟩:=I.tuple l;have f:=j.length;exact len_tuple pl (by simp only[S8];omega) ⟨.int xs.length,H,I.tok _,⟨_,by simp only[S8];rw[f]⟩,q⟩
 |_=>exact(show False from e).elim
end
structure aa4 (h:Heap) (x dx C:SI) (mA:Str->Option Sx):Prop where
 obj:h.get? x=lD (UY C dx)
 ns:h.Ns1 dx mA
 ne:dx≠x
theorem D1 {h:Heap} (n:h.Ns1 dx mA):∃od,h.get? dx=lD od/\∀name,Xq name od=lD (mA name):=by
 obtain⟨o,f,p,i,l,j,_,hm⟩:=n;refine⟨o,i,fun name=> ?_⟩;have e:=hm name;unfold nsFind findBy at e;rw[<-abk] at e;unfold Xq;rw[l];dsimp only;split
 .rename_i y q;rw[q] at e;exact congrArg lD e
 .rename_i q
  rw[q] at e;have a:f.toList.any (·.refKey)=SN:=by rw[List.any_eq_false];intro y g;obtain⟨z,t,b⟩:=j y (Array.mem_toList_iff.mp g);simp[Wc.refKey,b]
  have m:¬f.toList.any (·.refKey)=Sz:=by rw[a];exact S9
  rw[if_neg m];exact congrArg lD e
theorem aa4.look (I:aa4 h x dx C mA):∃od,PySem.W.InstAt h x (UY C dx) C (lD od)/\∀name,Xq name od=lD (mA name):=
 let⟨od,ho,hl⟩:=D1 I.ns
 ⟨od,⟨I.obj,rfl,rfl,ho⟩,hl⟩
section
variable {prog:Te} {w:TF} {A:Tw} {E:Sx->SK->Prop} {s:SK} {K:Ld} {x dx C f:SI} {Z:Str->Option Sx} {name:Str} {v:Sx}
theorem Mf (X:K.In s.heap) (I:aa4 s.heap x dx C Z) (i:V5 K C name=Sz) (g:WH K C=Sz)
  (ha:TR K (.ref C) name=lD Sw) (b:Z name=lD v) (a:abl v=Sz) (h:Q v {s with toks:=s.toks+1}):
  wpAny (model prog w) A (getAttr (.ref x) name expr) Q E s:=by
 obtain⟨j,J,e⟩:=I.look;exact PySem.W.get_value X J (XT i).1 (PySem.W.findObj_own g ha rfl (by rw[e,b])) a h
theorem GJ (X:K.In s.heap) (I:aa4 s.heap x dx C Z) (a:V5 K C name=Sz)
  (j:TR K (.ref C) name=lD (lD (.ref f))) (g:Vv K (.ref f)=Sz) (e:Z name=Sw) (h:Q (.ref f,[.ref x]) s):
  wpAny (model prog w) A (getMethod (.ref x) name pl) Q E s:=by
 obtain⟨b,J,i⟩:=I.look;exact PySem.W.method_fn X J (XT a).1 (XT a).2 j (beq_iff_eq.mp g) (by show(Xq name b).map (·.isSome)=lD SN;rw[i,e];rfl) h
theorem J5 (X:K.In s.heap) (I:aa4 s.heap x dx C Z)
  (p:TR K (.ref C) "__setattr__"=lD (lD (.builtin "object.__setattr__"))) (q:Yl K C=Sz) (o:YS K C name=lD Sw) (r:WH K C=Sz)
  (n:aae Z ns) (hsz:ns.length<=SY)
  (h:∀h',aa4 h' x dx C (fun y=>if y=name then lD v else Z y)->Heap.SameBut dx s.heap h'->Q () {s with heap:=h',toks:=s.toks+2}):
  wpAny (model prog w) A (setAttr (.ref x) name v) Q E s:=by
 obtain⟨B,J,G⟩:=I.look;refine PySem.W.set_plain X J p (PySem.W.osa_open X J q o fun b=> ?_);obtain⟨H,t,i⟩:=PySem.W.any_some r;have m:=I.obj;refine Sv (SQ (Sv (Sv (agW m (Sv (aeL (PySem.W.looks_clsIn X t) ?_))))));rw[i];refine SQ (Sv (SQ (Sv ?_)));refine wpAny_nsSet1 I.ns fun h' a l=> ?_;obtain⟨F,u,z,e,g,j⟩:=a.count (afN name v n);refine Sv (aeM e (by rw[g];exact aeN (TJ j (by rw[S3];omega))) ?_);exact SQ (h _ ⟨(l.2 _ (Ne.symm I.ne)).trans I.obj,a,I.ne⟩ l)
theorem HA {R:ZG->SK->Prop} {vs:List Sx} {b:List (Str×Sx)} (X:K.In s.heap) (hm:YT K C=Sz)
  (hi:TR K (.ref C) "__init__"=lD (lD (.ref f))) (e:abM K (.ref f)=lD (.type "function"))
  (h:codeAny (model prog w) (A.under (.builtin "type.__call__" ⟨.ref C::vs,b⟩)) (.call (.ref f) ⟨.ref (s.heap.objs.size+1)::vs,b⟩) (PySem.W.InitBack (s.heap.objs.size+1) R)
   {s with heap:=(s.heap.push Ut).push (UY C s.heap.objs.size)}):
  codeAny (model prog w) A (.call (.ref C) ⟨vs,b⟩) R s:=by
 obtain⟨j,g,d,t,i⟩:=s;exact PySem.W.make_core (PySem.W.makes_of X hm) (PySem.W.looks_findIn X hi) (fun a=>PySem.W.bind_fn X a e) (.inl rfl) h
end
def jz (f:Str) (v:V):List (Str×V)->List (Str×V)
 |[]=>[(f,v)]
 |(g,x)::r=>if g=f then(g,v)::r else(g,x)::jz f v r
theorem qV (f g:Str) (v:V):∀fs:List (Str×V),(jz f v fs).lookup g=if g=f then lD v else fs.lookup g
 |[]=>by
  show Vg g [(f,v)]=_;by_cases h:g=f
  .have a:=beq_iff_eq.mpr h;simp only[Vg,a,if_pos h]
  .have a:=beq_eq_false_iff_ne.mpr h;simp only[Vg,a,if_neg h]
 |(k,x)::r=>by
  have i:=qV f g v r;rw[show jz f v ((k,x)::r)=(if k=f then(k,v)::r else(k,x)::jz f v r) from rfl];by_cases b:k=f
  .rw[if_pos b]
   by_cases h:g=k
   .have a:=beq_iff_eq.mpr h;simp only[Vg,a,if_pos (h.trans b)]
   .have a:=beq_eq_false_iff_ne.mpr h;simp only[Vg,a,if_neg (fun e:g=f=>h (e.trans b.symm))]
  .rw[if_neg b]
   by_cases h:g=k
   .have a:=beq_iff_eq.mpr h;simp only[Vg,a,if_neg (fun e:g=f=>b (h.symm.trans e))]
   .have a:=beq_eq_false_iff_ne.mpr h;simp only[Vg,a];exact i
theorem pJ (f:Str) (v:V):∀fs:List (Str×V),f∈(jz f v fs).map (·.1)/\∀g,g∈fs.map (·.1)->g∈(jz f v fs).map (·.1)
 |[]=>⟨by simp[jz],fun g h=>by simp at h⟩
 |(k,x)::r=>by
  obtain⟨i,b⟩:=pJ f v r;rw[show jz f v ((k,x)::r)=(if k=f then(k,v)::r else(k,x)::jz f v r) from rfl];by_cases a:k=f
  .rw[if_pos a];subst a;exact⟨by simp,fun g h=>by simpa using h⟩
  .rw[if_neg a]
   refine⟨?_,fun g h=> ?_⟩
   .rw[S6];exact S2 _ i
   .rw[S6] at h⊢
    rcases Tq.mp h with e|e
    .exact Tq.mpr (.inl e)
    .exact S2 _ (b g e)
theorem qK (f:Str) (v:V):∀fs:List (Str×V),(jz f v fs).length<=fs.length+1
 |[]=>by simp[jz]
 |(k,x)::r=>by
  have b:=qK f v r;rw[show jz f v ((k,x)::r)=(if k=f then(k,v)::r else(k,x)::jz f v r) from rfl];by_cases a:k=f
  .rw[if_pos a,S3,S3];omega
  .rw[if_neg a,S3,S3];omega
theorem WZ.some_of (r:WZ (lD v) o):∃u,o=lD u/\RelV v u:=by
 cases o with
 |none=>exact(show False from r).elim
 |some u=>exact⟨u,rfl,r⟩
theorem WZ.none_of (r:WZ Sw o):o=Sw:=by
 cases o with
 |none=>rfl
 |some u=>exact(show False from r).elim
theorem Ef (r:RelV v u):abl u=Sz:=by
 cases v with
 |Vh=>cases(show u=Sx.none from r);rfl
 |bl b=>cases(show u=Sx.bool b from r);rfl
 |int i=>obtain⟨t,e⟩:=(show∃t,u=Sx.int i t from r);cases e;rfl
 |str x=>obtain⟨t,e⟩:=(show∃t,u=Sx.str x t from r);cases e;rfl
 |byt b=>obtain⟨t,e⟩:=(show∃t,u=Sx.bytes b t from r);cases e;rfl
 |flt b=>obtain⟨t,e⟩:=(show∃t,u=Sx.float b t from r);cases e;rfl
 |ref a=>cases(show u=Sx.ref a from r);rfl
 |ty n=>cases(show u=Sx.type n from r);rfl
section
variable {P:Te} {w:TF} {H H':Hp} {h h':Heap} {a C dx:SI} {fs fs':List (Str×V)}
theorem wb (Up:XM P w H h) (e:H a=lD (.ins C dx fs)):∃mA,aa4 h a dx C mA/\(∀f,WZ (fs.lookup f) (mA f))/\aae mA (fs.map (·.1))/\fs.length<=1000/\H dx=lD (.own a):=by obtain⟨d,z,ne,b,mA,n,r,q⟩:=(show ObjOk P w H h a (.ins C dx fs) from Up a _ e);exact⟨mA,⟨b,n,ne⟩,r,q,z,d⟩
end
structure Cls (K:Ld) (C:SI):Prop where
 pg:V5 K C Str.empty=Sz
 hd:WH K C=Sz
 po:Yl K C=Sz
 sa:TR K (.ref C) "__setattr__"=lD (lD (.builtin "object.__setattr__"))
theorem Cls.get {K:Ld} (c:Cls K C) (f:Str):V5 K C f=Sz:=c.pg
def WL (K:Ld) (C:SI) (f:Str):Prop:=TR K (.ref C) f=lD Sw
theorem WL.ae5 {K:Ld} (n:WL K C f):YS K C f=lD Sw:=by unfold YS;rw[show TR K (.ref C) f=lD Sw from n];rfl
structure Con (K:Ld) (C:SI) (f:Str) (v:V) (u:Sx):Prop where
 at_:TR K (.ref C) f=lD (lD u)
 rel:RelV v u
 get:VW K u "__get__"=lD Sw
 cp:PySem.W.copiedNames.contains f=SN
structure Meth (K:Ld) (C:SI) (m:Str) (f:SI):Prop where
 at_:TR K (.ref C) m=lD (lD (.ref f))
 fn:Vv K (.ref f)=Sz
 kp:UH K (.ref f)=Sz
section
variable {X:Cx} {Z:List (SI×Obj)} {Y:St} {H:Hp} {s:SK} {a C dx:SI} {fs:List (Str×V)} {f:Str} {v:V} {A:Tw} {E:Sx->SK->Prop}
theorem Bw (I:Inv X Z Y H s) (e:H a=lD (.ins C dx fs)) (c:Cls X.K C) (n:WL X.K C f) (l:fs.lookup f=lD v)
  (h:∀u s',Inv X Z Y H s'->RelV v u->Q u s'):wpAny (model X.prog X.w) A (getAttr (.ref a) f b) Q E s:=by
 obtain⟨j,O,r,_,_,_⟩:=wb I.Up e;obtain⟨u,i,g⟩:=WZ.some_of (by rw[<-l];exact r f);exact Mf I.Ye O (c.get f) c.hd n i (Ef g) (h u _ (I.tok _) g)
theorem tD (I:Inv X Z Y H s) (e:H a=lD (.ins C dx fs)) (c:Cls X.K C) (k:Meth X.K C m g) (l:fs.lookup m=Sw)
  (h:Q (.ref g,[.ref a]) s):wpAny (model X.prog X.w) A (getMethod (.ref a) m pl) Q E s:=by
 obtain⟨b,O,r,_,_,_⟩:=wb I.Up e;have hn:=WZ.none_of (by rw[<-l];exact r m);exact GJ I.Ye O (c.get m) k.at_ k.fn hn h
theorem Bx (I:Inv X Z Y H s) (e:H a=lD (.ins C dx fs)) (c:Cls X.K C) (n:WL X.K C f) (M:fs.length<1000) (t:RelV y u)
  (h:∀s',Inv X Z Y (bJ H a (.ins C dx (jz f y fs))) s'->Q () s'):wpAny (model X.prog X.w) A (setAttr (.ref a) f u) Q E s:=by
 obtain⟨l,O,r,j,_,m⟩:=wb I.Up e;have B:(fs.map (·.1)).length<=SY:=by rw[Sy,U9];omega
 refine J5 I.Ye O c.sa c.po n.ae5 c.hd j B fun L i p=>h _ ?_;have G:∃o,L.get? dx=lD o:=let⟨o,_,_,e',_⟩:=i.ns;⟨o,e'⟩
 refine I.write (by rw[e];exact True.intro) (.inr m) (fun b q J z=>(p.2 b J).trans z) G ?_;refine⟨by rw[aD O.ne];exact m,?_,O.ne,i.obj,_,i.ns,fun g=> ?_,fun g F=> ?_⟩
 .have:=qK f y fs;omega
 .show WZ ((jz f y fs).lookup g) (if g=f then lD u else l g)
  rw[qV];by_cases q:g=f
  .rw[if_pos q,if_pos q];exact t
  .rw[if_neg q,if_neg q];exact r g
 .by_cases q:g=f
  .rw[q];exact(pJ f y fs).1
  .refine(pJ f y fs).2 g (j g fun z=>F ?_);show(if g=f then lD u else l g)=Sw;rw[if_neg q];exact z
theorem Inv.made (I:Inv X Z Y H s):Inv X Z Y (bJ (bJ H s.heap.objs.size (.own (s.heap.objs.size+1))) (s.heap.objs.size+1) (.ins C s.heap.objs.size []))
  {s with heap:=(s.heap.push Ut).push (UY C s.heap.objs.size)}:=by
 have g:(s.heap.push Ut).get? s.heap.objs.size=lD Ut:=Heap.get?_push_size s.heap rfl;have l:((s.heap.push Ut).push (UY C s.heap.objs.size)).get? (s.heap.objs.size+1)=lD (UY C s.heap.objs.size):=by have:=Heap.get?_push_size (s.heap.push Ut) (o:=UY C s.heap.objs.size) rfl;rwa [Heap.size_push] at this
 have j:(s.heap.push Ut).Ns s.heap.objs.size (fun _=>Sw):=⟨Ut,#[],_,g,rfl,(fun e i=>absurd i (by simp)),fun _=>rfl⟩;have m:=I.laid (a:=s.heap.objs.size) (o:= .own (s.heap.objs.size+1)) (h':=s.heap.push Ut) (t':=s.toks) (fun b u q=>Heap.get?_push_of_some _ q) (SU _) ⟨_,g⟩;refine m.laid (a:=s.heap.objs.size+1) (o:= .ins C s.heap.objs.size []) (t':=s.toks) (fun b u q=>Heap.get?_push_of_some _ q) (V6 (Heap.size_push _ _)) ?_;have ne:s.heap.objs.size≠s.heap.objs.size+1:=Th (Wj _);refine⟨by rw[aD ne,aR],T5 _,ne,l,fun _=>Sw,(Heap.Ns1.of_empty j).at fun o q=>Heap.get?_push_of_some _ q,fun _=>True.intro,fun y h=>absurd rfl h⟩
theorem LX {prog:Te} {w:TF} {env:Env} {e:T4} {f:Str} {b:Pos} {s:SK} {Q:Sx->SK->Prop} (g:attributeBase e f env (eval e env)=eval e env)
  (h:wpAny (model prog w) A (eval e env) (fun o s₁=>wpAny (model prog w) A (getAttr o f Sz) Q E s₁) E s):wpAny (model prog w) A (eval (.Attribute e f b) env) Q E s:=
 Attribute_any_ h (by rw[arm_eval_Attribute,g])
end
def Oa (K:Ld) (g:TE) (f:Str):TE:=fun e H Q=>g e H fun x b=>∃a C dx fs v,x= .ref a/\b a=lD (.ins C dx fs)/\Cls K C/\WL K C f/\fs.lookup f=lD v/\Q v b
def Pk (K:Ld) (h g:TE) (f:Str):TS:=fun D b H=>g b H fun y i=>h b i fun x e=>∃a C dx fs,x= .ref a/\e a=lD (.ins C dx fs)/\Cls K C/\WL K C f/\fs.length<1000/\
 D.nx b (bJ e a (.ins C dx (jz f y fs)))
section
variable {X:Cx} {o e Z:T4} {f:Str} {pos Y ahP:Pos} {U tv:TE}
theorem b9 (m:PE X e U) (p:attributeBase e f X.env (eval e X.env)=eval e X.env):PE X (.Attribute e f pos) (Oa X.K U f):=by intro b s g H Q I h;refine LX p (cO (m b s g H _ I h) fun u E ⟨x,z,y,i,a,C,dx,fs,v,r,t,c,n,l,q⟩=> ?_);subst r;obtain rfl:=i;exact Bw y t c n l fun A B w j=>⟨v,z,w,j,q⟩
theorem kr (ha:PE X o U) (r:PE X Z tv) (t:UB Z (lD (.Attribute o f Y)) pos.line X.env=pure SN):PS X (.Assign [.Attribute o f Y] Z pos) (Pk X.K U tv f):=by intro b s g H D I h;refine Zu (cO (r b s g H _ I h) fun u i ⟨y,E,B,j,q⟩=>cO (ha b i g E _ B q) fun J G ⟨x,L,A,m,a,C,dx,fs,v,w,c,n,l,p⟩=> ?_) t;subst v;obtain rfl:=m;exact Bx A w c n l j fun F z=>⟨g,_,z,p⟩
end
section
variable {X:Cx} {pins:List (SI×Obj)} {σ:St} {H:Hp} {s:SK} {A:Tw} {E:Sx->SK->Prop} {Q:Sx->SK->Prop} {c:Sx} {b:Bool}
inductive Zd (K:Ld) (H:Hp):V->Sx->Prop where
 |Vh:Zd K H .Vh (.type "NoneType")
 |bl (x:Bool):Zd K H (.bl x) (.type "bool")
 |int (i:Int):Zd K H (.int i) (.type "int")
 |str (x:Str):Zd K H (.str x) (.type "str")
 |flt (x:UInt64):Zd K H (.flt x) (.type "float")
 |lst {a:SI} {xs:List V} (e:H a=lD (.lst xs)):Zd K H (.ref a) (.type "list")
 |frz {a:SI} {o:Obj} {xs:List V} (e:H a=lD (.frz o (.lst xs))):Zd K H (.ref a) (.type "list")
 |tup {a:SI} {xs:List V} (e:H a=lD (.tup xs)):Zd K H (.ref a) (.type "tuple")
 |dK {a:SI} {Ti:List (cT×V)} (e:H a=lD (.dK Ti)):Zd K H (.ref a) (.type "dict")
 |dT {a:SI} {Ti:List (List cT×V)} (e:H a=lD (.dT Ti)):Zd K H (.ref a) (.type "dict")
 |ins {a C dx:SI} {fs:List (Str×V)} (e:H a=lD (.ins C dx fs)) (cl:Cls K C) (ha:TR K (.ref C) "__class__"=lD (lD (.builtin "object.__class__")))
   (hn:VW K (.builtin "object.__class__") "__get__"=lD (lD (.builtin "getset_descriptor.__get__"))) (htk:PySem.W.takesIn K (.builtin "object.__class__")=lD Sz)
   (hm:PySem.W.mroIn K C (.type "object")=lD Sz):Zd K H (.ref a) (.ref C)
end
structure U7 (k:Nat) (A:Tw):Prop where
 hd:A.handled=Sw
 dp:A.depth+3*k+5<recursionLimit
 un:A.units+16*k+200<cLine
theorem U7.mono (r:U7 k A) (h:j<=k):U7 j A:=⟨r.hd,by have:=r.dp;omega,by have:=r.un;omega⟩
theorem U7.deeper (r:U7 (k+1) A) (env:Env):U7 k (A.deeper env):=
 ⟨r.hd,by have:=r.dp;show A.depth+1+3*k+5<_;omega,by have:=r.un;show A.units+3+16*k+200<_;omega⟩
theorem A5 {A:Tw}:(A.under (.builtin "type.__call__" ⟨.ref C::us,kw⟩)).depth=A.depth+1:=by
 first|rfl|simp[Tw.under,aaI.weight,aaI.isCreation,aaI.isGuard,aaI.isCaller,aaI.frames,aaI.isFrame,guardIds]
theorem A2 {A:Tw}:(A.under (.builtin "type.__call__" ⟨.ref C::us,kw⟩)).units=A.units+1:=by
 first|rfl|simp[Tw.under,aaI.cUnits,aaI.frames,aaI.isFrame]
theorem U7.make (r:U7 (k+1) A) (C:SI) (us:List Sx) (a:List (Str×Sx)):U7 k (A.under (.builtin "type.__call__" ⟨.ref C::us,a⟩)):=
 ⟨r.hd,by have:=r.dp;rw[A5];omega,by have:=r.un;rw[A2];omega⟩
theorem U7.depth (r:U7 k A):A.depth<recursionLimit:=by have:=r.dp;omega
theorem U7.units (r:U7 k A):A.units+64<cLine:=by have:=r.un;omega
def lY:TA:=fun _ H Q=>Q [] H
def gP (e:TE) (b:TA):TA:=fun a H Q=>e a H fun x g=>b a g fun xs f=>Q (x::xs) f
section
variable {X:Cx} {e:T4} {es:List T4} {te:TE} {t:TA} {pos:Pos}
theorem az:PA X [] lY:=fun _ _ _ _ H Q I h=>Calls.spliced_nil ⟨[],H,I,.nil,h⟩
theorem ai (ha:PE X e te) (n:PA X es t) (m:To (e::es) X.env=(SN,eval e X.env)::To es X.env:=by rfl):PA X (e::es) (gP te t):=by intro pos a s b H Q I h;rw[m];refine Calls.spliced_cons (cO (ha a s b H _ I h) fun u f ⟨x,r,p,i,l⟩=> ?_);exact cO (n pos a f b r _ p l) fun v w ⟨xs,q,o,g,j⟩=>⟨x::xs,q,o,.cons i g,j⟩
def Og (t:TA):TE:=fun b H Q=>t b H fun xs a=>xs.length<=SY/\∀p,a p=Sw->Q (.ref p) (bJ a p (.tup xs))
def QD (t:TA):TE:=fun b H Q=>t b H fun xs a=>xs.length<=SY/\∀p,a p=Sw->Q (.ref p) (bJ a p (.lst xs))
theorem kj {x1} (h:PA X es t):PE X (.Tuple es x1 pos) (Og t):=by intro a s i H Q I l;refine wpAny_Tuple_spliced (cO (h pos a s i H _ I l) fun j f ⟨xs,n,g,r,z,q⟩=>⟨by rw[<-r.length];exact z,?_⟩);have m:=g.Up.fresh (SU _);refine⟨.ref f.heap.objs.size,bJ n f.heap.objs.size (.tup xs),g.laid (fun b u e=>Heap.get?_push_of_some _ e) (SU _) ?_,rfl,q _ m⟩;exact⟨z,j,r,⟨_,Heap.get?_push_size _ rfl,⟨rfl,_,rfl⟩,rfl⟩⟩
theorem j6 (h:PA X es t):PE X (.List es pos) (QD t):=by intro a s i H Q I l;refine wpAny_List_spliced (cO (h pos a s i H _ I l) fun j f ⟨xs,n,g,r,z,q⟩=>⟨by rw[<-r.length];exact z,?_⟩);have m:=g.Up.fresh (SU _);refine⟨.ref f.heap.objs.size,bJ n f.heap.objs.size (.lst xs),g.laid (fun b u e=>Heap.get?_push_of_some _ e) (SU _) ?_,rfl,q _ m⟩;exact⟨z,j,0,r,Heap.get?_push_size _ rfl⟩
end
abbrev Sp:=List V->Hp->VK->XK->Prop
abbrev wW:=List Env->Hp->SK->XK->Sx->SK->Prop
structure Env0 (P:Te) (w:TF) (K:Ld) (mg:Str->Option Sx) (base:Heap) (A:Tw) (outer:List Env) (s:SK) (H:Hp):Prop where
 frames:A.frames=lD outer
 mod:Mod K mg base
 bs:∀b o,base.get? b=lD o->s.heap.get? b=lD o/\H b=Sw
 bsz:base.objs.size<=s.heap.objs.size
 Yg:s.heap.FunFrames base outer
 frf:∀b∈yd outer,H b=Sw
 Up:XM P w H s.heap
 bare:AllBare s.gens
def CE (outer:List Env) (P:Te) (w:TF) (H:Hp) (s:SK) (Q:VK) (u:Sx) (a:SK):Prop:=
 ∃v H',a.os=s.os/\AllBare a.gens/\Un (yd outer) [] H H' s.heap a.heap/\XM P w H' a.heap/\RelV v u/\Q v H'
def CR (b:wW) (outer:List Env) (P:Te) (w:TF) (H:Hp) (s:SK) (Q:VK) (E:XK) (r:ZG) (a:SK):Prop:=
 match r with
 | .ok (.ret u)=>CE outer P w H s Q u a
 | .ok _=>False
 | .error e=>b outer H s E e a
structure FnOk (P:Te) (w:TF) (K:Ld) (mg:Str->Option Sx) (base:Heap) (CX:wW) (k:Nat) (f:SI) (fd:Uc) (ps:List Str) (sp:Sp):Prop where
 len:∀vs H Q E,sp vs H Q E->vs.length=ps.length
 run:∀(A:Tw) (outer:List Env) (s:SK) (H:Hp) (args:Args) (us:List Sx) (vs:List V) (Q:VK) (E:XK),U7 k A->Env0 P w K mg base A outer s H->X4 s fd args (ps.zip us)->Vals vs us->sp vs H Q E->
  codeAny (model P w) A (.call (.ref f) args) (CR CX outer P w H s Q E) s
theorem FnOk.imp {P:Te} {w:TF} {K:Ld} {mg:Str->Option Sx} {base:Heap} {g:wW} {k:Nat} {f:SI} {fd:Uc} {ps:List Str} {sp b:Sp} (F:FnOk P w K mg base g k f fd ps sp)
  (h:∀vs H Q E,b vs H Q E->sp vs H Q E):FnOk P w K mg base g k f fd ps b:=
 ⟨fun vs H Q E q=>F.len vs H Q E (h _ _ _ _ q),fun A a s H e i vs Q E m n o j l=>F.run A a s H e i vs Q E m n o j (h _ _ _ _ l)⟩
theorem Env0.make {K:Ld} (e:Env0 P w K mg base A outer s H) (C:SI) (us:List Sx) (a:List (Str×Sx)):
  Env0 P w K mg base (A.under (.builtin "type.__call__" ⟨.ref C::us,a⟩)) outer s H:=⟨by first|exact e.frames|(simpa [Tw.under,aaI.envs,aaI.isFrame,pushEnvs] using e.frames),e.mod,e.bs,e.bsz,e.Yg,e.frf,e.Up,e.bare⟩
section
variable {X:Cx} {Z:List (SI×Obj)} {Y:St} {H:Hp} {s U:SK}
theorem Inv.adO (I:Inv X Z Y H s):Env0 X.prog X.w X.K X.mg X.base X.A X.stack s H:=
 ⟨I.ok.frames,I.ok.mod,I.bs,TJ I.ok.bsz I.sz,I.stack,I.Yv,I.Up,I.bare⟩
theorem Inv.after {Q:VK} {u:Sx} (I:Inv X Z Y H s) (h:CE X.stack X.prog X.w H s Q u U):EP X Z Y Q u U:=by obtain⟨v,j,f,a,un,Up,r,q⟩:=h;obtain⟨i,g,d,t,e⟩:=U;obtain rfl:e=s.os:=f;exact⟨v,j,I.call (h':=i) (g':=g) (d':=d) (t':=t) (ch:=[]) un Up a (fun b z=>absurd z (by simp)),r,q⟩
end
def l6 (sp:Sp) (dvs:List V) (E:XK) (t:TA):TE:=fun a H Q=>t a H fun vs b=>sp (vs++dvs) b Q E
def vY (C:SI) (m:Str) (sp:Sp) (dvs:List V) (E:XK) (f:TE) (t:TA):TE:=fun b H Q=>f b H fun x e=>∃a dx fs,x= .ref a/\e a=lD (.ins C dx fs)/\fs.lookup m=Sw/\
 t b e fun vs g=>sp (x::(vs++dvs)) g Q E
def zv (C:SI) (sp:Sp) (dvs:List V) (E:XK) (t:TA):TE:=fun b H Q=>t b H fun vs a=>∀x dx,a x=Sw->a dx=Sw->dx≠x->
 sp (.ref x::(vs++dvs)) (bJ (bJ a dx (.own x)) x (.ins C dx [])) (fun v e=>v= .Vh/\Q (.ref x) e) E
def Binds (K:Ld) (fd:Uc) (ps:List Str) (ds:List Sx):Prop:=
 ∀(s:SK) (a:List Sx),K.In s.heap->(a++ds).length=ps.length->X4 s fd ⟨a,[]⟩ (ps.zip (a++ds))
theorem Binds.all {K:Ld} {fd:Uc} {ps:List Str} (h:∀us:List Sx,us.length=ps.length->bindArgs fd ⟨us,[]⟩=pure (ps.zip us)):Binds K fd ps []:=fun s us _ a=>by rw[Tr] at a⊢;exact .of_eq (h us a)
def fJ (g:wW) (X:Cx) (E:XK):Prop:=∀(a:List (SI×Obj)) (f:St) (H:Hp) (s:SK) (e:Sx) (b:SK),Inv X a f H s->g X.stack H s E e b->X.xe e b
section
variable {X:Cx} {Y:wW} {k:Nat} {f C:SI} {fd:Uc} {ps:List Str} {sp:Sp} {dvs:List V} {ds:List Sx} {E:XK} {x m:Str} {p pos Z:Pos} {e o:T4} {es:List T4} {U:TE} {t:TA}
theorem A7 {a:List (SI×Obj)} {g:St} {H:Hp} {s:SK} {Q:VK} {us:List Sx} {vs:List V} (F:FnOk X.prog X.w X.K X.mg X.base Y k f fd ps sp) (n:U7 k X.A) (v:Binds X.K fd ps ds) (hd:Vals dvs ds) (l:fJ Y X E)
  (I:Inv X a g H s) (r:Vals vs us) (h:sp (vs++dvs) H Q E):wpAny (model X.prog X.w) X.A (call (.ref f) us) (EP X a g Q) X.xe s:=by
 have i:Vals (vs++dvs) (us++ds):=r.append hd;have q:(us++ds).length=ps.length:=by rw[<-i.length];exact F.len _ _ _ _ h
 refine X5 (X6 (F.run X.A X.stack s H ⟨us,[]⟩ (us++ds) (vs++dvs) Q E n I.adO (v s us I.Ye q) i h) fun r j b=> ?_);cases r with
 |error e=>exact l a g H s e j I b
 |ok y=>
  cases y with
  |ret u=>exact I.after b
  |next=>exact False.elim b
  |brk=>exact False.elim b
  |cont=>exact False.elim b
theorem C1 (F:FnOk X.prog X.w X.K X.mg X.base Y k f fd ps sp) (j:U7 k X.A) (n:Gl X x) (hm:X.mg x=lD (.ref f)) (l:UH X.K (.ref f)=Sz) (v:Binds X.K fd ps ds) (hd:Vals dvs ds) (i:fJ Y X E)
  (ha:PA X (e::es) t) (y:(x==("__debug__":Str))=SN:=by decide) (u:To (e::es) X.env=(SN,eval e X.env)::To es X.env:=by rfl) (z:(backTo pos (To es X.env)).any (·.1)=SN:=by rfl):
  PE X (.Call (.Name x p) (e::es) [] pos) (l6 sp dvs E t):=by
 intro a s g H Q I h;refine V7 (mv I n hm ?_ y);refine X7 I.ok.mod.kin l (cO (ha pos a s g H _ I h) fun B G ⟨vs,J,b,r,q⟩=>⟨b.Ye,?_⟩) u z;exact A7 F j v hd i b r q
theorem JI {pl:Sem Bool} (J:PE X o U) (c:Cls X.K C) (hm:Meth X.K C m f) (F:FnOk X.prog X.w X.K X.mg X.base Y k f fd ps sp) (G:U7 k X.A) (L:Binds X.K fd ps ds) (hd:Vals dvs ds) (z:fJ Y X E) (ha:PA X (e::es) t)
  (dR:To (e::es) X.env=(SN,eval e X.env)::To es X.env:=by rfl) (O:(backTo pos (To es X.env)).any (·.1)=SN:=by rfl)
  (B:eval (.Call (.Attribute o m Z) (e::es) [] pos) X.env=(do
   let ov<-eval o X.env
   standAt Z.atName
   let(f,first)<-holding [ov] (getMethod ov m pl)
   callWith pos f first (backTo pos (To (e::es) X.env)) (backToKw pos (keywordEach [] X.env))):=by rfl):
  PE X (.Call (.Attribute o m Z) (e::es) [] pos) (vY C m sp dvs E U t):=by
 intro b s g H Q I h;refine Xl (pl:=pl) (cO (J b s g H _ I h) fun u n ⟨x,P,j,v,a,dx,fs,M,N,l,q⟩=> ?_) B;subst M;obtain rfl:u=Sx.ref a:=v;refine tD j N c hm l ?_;refine X7 (first:=[.ref a]) (h₀:=X.base) I.ok.mod.kin hm.kp (cO (ha pos b n g P _ j q) fun us R ⟨vs,S,i,r,y⟩=>⟨i.Ye,?_⟩) dR O;exact A7 (us:= .ref a::us) (vs:= .ref a::vs) F G L hd z i (.cons rfl r) y
theorem Gh {pl:Sem Bool} (y:PE X o U) (c:Cls X.K C) (hm:Meth X.K C m f) (F:FnOk X.prog X.w X.K X.mg X.base Y k f fd ps sp) (v:U7 k X.A) (z:Binds X.K fd ps ds) (hd:Vals dvs ds) (n:fJ Y X E)
  (r:eval (.Call (.Attribute o m Z) [] [] pos) X.env=(do
   let ov<-eval o X.env
   standAt Z.atName
   let(f,first)<-holding [ov] (getMethod ov m pl)
   callWith pos f first (backTo pos (To [] X.env)) (backToKw pos (keywordEach [] X.env))):=by rfl):
  PE X (.Call (.Attribute o m Z) [] [] pos) (vY C m sp dvs E U lY):=by
 intro b s i H Q I h;refine Xl (pl:=pl) (cO (y b s i H _ I h) fun u J ⟨x,L,g,j,a,dx,fs,B,G,l,q⟩=> ?_) r;subst B;obtain rfl:u=Sx.ref a:=j;refine tD g G c hm l ?_;exact PySem.W.callWith_K0 (first:=[.ref a]) g.Ye hm.kp (A7 (us:=[.ref a]) (vs:=[.ref a]) F v z hd n g (.cons rfl .nil) q)
structure Mk (K:Ld) (C f:SI):Prop where
 makes:YT K C=Sz
 init:TR K (.ref C) "__init__"=lD (lD (.ref f))
 fn:Vv K (.ref f)=Sz
 kp:UH K (.ref C)=Sz
theorem F9 (M:Mk X.K C f) (F:FnOk X.prog X.w X.K X.mg X.base Y k f fd ps sp) (q:U7 (k+1) X.A) (z:Binds X.K fd ps ds) (hd:Vals dvs ds)
  (n:fJ Y X E) (I:Inv X pins σ H s) (r:Vals vs us)
  (h:∀x dx,H x=Sw->H dx=Sw->dx≠x->sp (.ref x::(vs++dvs)) (bJ (bJ H dx (.own x)) x (.ins C dx [])) (fun v H2=>v= .Vh/\Q (.ref x) H2) E):
  wpAny (model X.prog X.w) X.A (call (.ref C) us) (EP X pins σ Q) X.xe s:=by
 have i:=h (s.heap.objs.size+1) s.heap.objs.size (I.Up.fresh (Zj _)) (I.Up.fresh (SU _)) (Th (Wj _));have b:=Inv.made (C:=C) I;have g:Vals (V.ref (s.heap.objs.size+1)::(vs++dvs)) (Sx.ref (s.heap.objs.size+1)::(us++ds)):= .cons rfl (r.append hd);have y:(Sx.ref (s.heap.objs.size+1)::us++ds).length=ps.length:=by have e:=g.length;rw[F.len _ _ _ _ i] at e;exact e.symm
 refine X5 (HA I.Ye M.makes M.init (beq_iff_eq.mp M.fn) (X6 (F.run _ X.stack _ _ ⟨Sx.ref (s.heap.objs.size+1)::us,[]⟩ (Sx.ref (s.heap.objs.size+1)::(us++ds)) _ _ E (q.make C us [])
  (b.adO.make C us []) (z _ (Sx.ref (s.heap.objs.size+1)::us) b.Ye y) g i) fun r j a=> ?_))
 cases r with
 |error e=>exact n pins σ _ _ e j b a
 |ok B=>
  cases B with
  |ret u=>obtain⟨v,J,G,rv,ev,l⟩:=b.after a;subst ev;exact⟨rv,⟨V.ref (s.heap.objs.size+1),J,G,rfl,l⟩⟩
  |next=>exact False.elim a
  |brk=>exact False.elim a
  |cont=>exact False.elim a
theorem LJ (M:Mk X.K C f) (F:FnOk X.prog X.w X.K X.mg X.base Y k f fd ps sp) (j:U7 (k+1) X.A) (l:Gl X x) (hm:X.mg x=lD (.ref C)) (u:Binds X.K fd ps ds) (hd:Vals dvs ds) (i:fJ Y X E)
  (ha:PA X (e::es) t) (v:(x==("__debug__":Str))=SN:=by decide) (n:To (e::es) X.env=(SN,eval e X.env)::To es X.env:=by rfl) (y:(backTo pos (To es X.env)).any (·.1)=SN:=by rfl):
  PE X (.Call (.Name x p) (e::es) [] pos) (zv C sp dvs E t):=by
 intro a s g H Q I h;refine V7 (mv I l hm ?_ v);refine X7 I.ok.mod.kin M.kp (cO (ha pos a s g H _ I h) fun z B ⟨vs,G,b,r,q⟩=>⟨b.Ye,?_⟩) n y;exact F9 M F j u hd i b r q
end
section
variable {X:Cx} {CX:wW} {k:Nat} {f C:SI} {fd:Uc} {ps ks:List Str} {sp:Sp} {E:XK} {x m:Str} {p pos apos amX:Pos} {e o:T4} {es:List T4} {kws:List Zm} {te ta:TE} {t tk:TA} {nm:Option Str}
structure ag9 (K:Ld) (fd:Uc) (ps ks:List Str) (g:List Sx->List Sx->List Sx) (gV:List V->List V->List V):Prop where
 to:∀(s:SK) (us ws:List Sx),K.In s.heap->(g us ws).length=ps.length->X4 s fd ⟨us,ks.zip ws⟩ (ps.zip (g us ws))
 rel:∀{vs:List V} {us:List Sx} {zs:List V} {ws:List Sx},Vals vs us->Vals zs ws->Vals (gV vs zs) (g us ws)
variable {g:List Sx->List Sx->List Sx} {gV:List V->List V->List V}
end
structure Vk (N P:List Str) (sc:VJ):Prop where
 kind:sc.kind= .function
 co:sc.isCoroutine=SN
 gen:sc.isGenerator=SN
 nd:N.Nodup
 pre:N.take P.length=P
 par:∀x∈P,sc.names.lookup x=lD .local\/sc.names.lookup x=lD .cell
 adX:∀y∈sc.names,y.2≠ .free
theorem vo {a:Str->Option Tx}:∀{binds:List (Str×Sx)} {m:Str->Option Sx},(∀v,(x,v)∉binds)->bindL a binds m x=m x
 |[],_,_=>rfl
 |(n,v)::r,m,h=>by
  unfold bindL;rw[vo fun w b=>h w (S2 _ b)];split
  .have:x≠n:=by rintro rfl;exact h v S5
   simp[this]
  .rfl
theorem u7 {a:Str->Option Tx}:∀{binds:List (Str×Sx)} {m:Str->Option Sx},(∀v,(x,v)∉binds)->bindC a binds m x=m x
 |[],_,_=>rfl
 |(n,v)::r,m,h=>by
  unfold bindC;rw[u7 fun w b=>h w (S2 _ b)];split
  .rfl
  .have:x≠n:=by rintro rfl;exact h v S5
   simp[this]
theorem vj {kindOf:Str->Option Tx}:∀{P:List Str} {vs:List Sx} {i:Nat} {m:Str->Option Sx},P.Nodup->P[i]? =lD x->vs[i]? =lD v->kindOf x=lD .local->
  bindL kindOf (P.zip vs) m x=lD v
 |[],_,_,_,_,h,_,_=>by simp at h
 |_::_,[],_,_,_,_,h,_=>by simp at h
 |p::P,w::vs,0,m,nd,h1,h2,hk=>by simp at h1 h2;subst h1;subst h2;show bindL kindOf ((p,w)::P.zip vs) m p=_;unfold bindL;rw[vo fun v hv=>(UL.mp nd).1 (Ws hv).1,if_pos hk];simp
 |p::P,w::vs,i+1,m,nd,h1,h2,hk=>by unfold bindL;exact vj (UL.mp nd).2 (by simpa using h1) (by simpa using h2) hk
theorem uS {kindOf:Str->Option Tx}:∀{P:List Str} {vs:List Sx} {i:Nat} {m:Str->Option Sx},P.Nodup->P[i]? =lD x->vs[i]? =lD v->kindOf x≠lD .local->
  bindC kindOf (P.zip vs) m x=lD v
 |[],_,_,_,_,h,_,_=>by simp at h
 |_::_,[],_,_,_,_,h,_=>by simp at h
 |p::P,w::vs,0,m,nd,h1,h2,hk=>by simp at h1 h2;subst h1;subst h2;show bindC kindOf ((p,w)::P.zip vs) m p=_;unfold bindC;rw[u7 fun v hv=>(UL.mp nd).1 (Ws hv).1,if_neg hk];simp
 |p::P,w::vs,i+1,m,nd,h1,h2,hk=>by unfold bindC;exact uS (UL.mp nd).2 (by simpa using h1) (by simpa using h2) hk
def start (N:List Str) (vs:List V):St:=vs.map lD++SS (N.length - vs.length) Sw
def fV (i:wW) (P:Te) (w:TF) (K:Ld) (mg:Str->Option Sx) (base:Heap) (N:List Str) (b:Str) (a:VJ) (f:SI) (h:Sx) (A:Tw) (outer:List Env) (s:SK) (H:Hp) (E:XK):Cx where
 prog:=P
 w:=w
 K:=K
 mg:=mg
 base:=base
 A:=A.deeper (envOfC b a s.heap.objs.size f h)
 N:=N
 s₀:=s
 H₀:=H
 env:=envOfC b a s.heap.objs.size f h
 outer:=outer
 stack:=envOfC b a s.heap.objs.size f h::outer
 ex:=[]
 calm:=Sz
 fn:=fun _=>Sz
 pn:=[]
 xe:=fun e j=>wpAny (model P w) (A.deeper (envOfC b a s.heap.objs.size f h)) (leaving (envOfC b a s.heap.objs.size f h) e) (fun _ g=>i outer H s E e g) (fun l g=>i outer H s E l g) j
theorem yf {a:VJ} (h:a.names.lookup x=lD .cell):∃c,(U0 n a.names []).lookup x=lD c:=by have q:=VX a.names n [] (.inl h);exact Zv.mp q
theorem DU {K:Ld}
  (S:Vk N ps scope) (hd:A.handled=Sw) (e0:Env0 P w K mg base A outer s H) (F:vs.length=ps.length) (r:Vals vs us)
  (x:InCallC s s.heap.objs.size (bindL (envOfC qual scope s.heap.objs.size f cd).kindOf (ps.zip us) fun _=>Sw) (U0 (s.heap.objs.size+1) scope.names []) (bindC (envOfC qual scope s.heap.objs.size f cd).kindOf (ps.zip us) fun _=>Sw) s1):
  Inv (fV CX P w K mg base N qual scope f cd A outer s H E) [] (start N vs) H s1:=by
 have I:ps.length<=N.length:=by have:=congrArg XU S.pre;rw[UT] at this;omega
 obtain⟨o,C,rfl,B⟩:=x.done;have j:∀b:SI,b∉(fV CX P w K mg base N qual scope f cd A outer s H E).ex:=fun b z=>absurd (show b∈([]:List SI) from z) (by simp);refine⟨⟨e0.mod,S.kind,rfl,rfl,SU _,fun y z c o g=> ?_,fun y l=> ?_,fun y c _ h=> ?_,fun _=>hd,Tw.frames_deeper e0.frames,.inr ⟨rfl,rfl⟩,fun b z=>absurd z (j b),e0.bs,e0.bsz,fun b _ _=>j b,fun b z=>absurd z (j b),e0.Yg,e0.frf⟩,
  rfl,e0.bare,Un.kept B,⟨_,x.toInCall.ns,fun i y v o g G=> ?_⟩,fun y c h=>⟨_,x.cell y c h⟩,e0.Up.fresh (SU _),fun y c h=> ?_,fun p n=>absurd (show p∈([]:List (SI×Obj)) from n) (by simp),e0.Up.kept B,?_⟩
 .exact name_of_addr x.apart (UM o) (UM g)
 .have l:=l
  rcases l with l|l
  .exact yf l
  .exact absurd rfl (S.adX _ (UM l))
 .exact Wz (x.above y c (UM h))
 .have hi:i<vs.length:=by
   unfold start at g;by_cases hi:i<vs.length
   .exact hi
   .rw[TC (by simpa using hi)] at g;rw[Vb] at g;split at g<;>cases g
  have ha:vs[i]? =lD v:=by
   unfold start at g;rw[S1 (by simpa using hi),SX] at g;cases e:vs[i]? with
   |none=>rw[e] at g;cases g
   |some a=>rw[e] at g;cases g;rfl
  obtain⟨u,t,rv⟩:=r.get ha;have n:ps[i]? =lD y:=by rw[<-S.pre,List.getElem?_take_of_lt (by omega)];exact o
  have m:ps.Nodup:=by rw[<-S.pre];exact S.nd.sublist (List.take_sublist _ _)
  refine⟨u,rv,?_⟩;rcases S.par y (Tt n) with k|k
  .exact .inl ⟨k,vj m n t k⟩
  .obtain⟨c,e⟩:=yf k;refine .inr ⟨.inl k,c,e,?_⟩;have q:=x.cell y c e;rw[uS m n t (by show scope.names.lookup y≠_;rw[k];decide)] at q;exact q
 .exact e0.Up.fresh (Wz (x.above y c (UM h)))
 .unfold start;show _=N.length;rw[SH,Sy,TB];omega
theorem Fb {CX:wW} {P:Te} {w:TF} {K:Ld} {mg:Str->Option Sx} {base:Heap} {k:Nat} {f:SI} {name qual:Str} {params:Arguments} {body:List U6} {scope:VJ} {dV kV doc pm Uq ct oc:Sx} {an od:Option SI}
  {osl:Array (Option Sx)} {N ps:List Str} {sp:Sp} (lk:K.lookup f=lD ⟨oc,od,.func (Uu name qual params body scope dV kV doc pm an Uq ct),osl⟩) (hcd:Wv K Uq qual=Sz) (S:Vk N ps scope)
  (len:∀vs H Q E,sp vs H Q E->vs.length=ps.length)
  (VG:∀(A:Tw) (outer:List Env) (s:SK) (H:Hp) (vs:List V) (Q:VK) (E:XK),U7 k (A.deeper (envOfC qual scope s.heap.objs.size f Uq))->sp vs H Q E->
   ∃t,YA (fV CX P w K mg base N qual scope f Uq A outer s H E) body t/\t {nx:=fun _ H'=>Q .Vh H',rt:=Q} (start N vs) H):
  FnOk P w K mg base CX (k+1) f (Uu name qual params body scope dV kV doc pm an Uq ct) ps sp:=by
 refine⟨len,fun A outer s H args us vs Q E hr e0 hb r hsp=> ?_⟩;have hl:=len _ _ _ _ hsp;have KX:K.In s.heap:=e0.mod.kin.keeps fun b o e=>(e0.bs b o e).1;have lim:s.heap.NoLimit:=e0.mod.nolimit.keeps fun b o e=>(e0.bs b o e).1;have Wi:∀y∈ps.zip us,scope.names.lookup y.1=lD .local\/(scope.names.lookup y.1=lD .cell/\((U0 (s.heap.objs.size+1) scope.names []).lookup y.1).isSome=Sz):=fun⟨n,v⟩ hy=>by
  rcases S.par n (Ws hy).1 with q|q
  .exact .inl q
  .exact .inr ⟨q,VX _ _ _ (.inl q)⟩
 refine codeAny_call_function hr.depth (KX _ _ lk) rfl S.co S.gen rfl (PySem.W.codeRec_of KX hcd) (hb _ _ _ _ ?_);refine wpAny_newFunctionEnv_cells S.kind Wi fun env he s1 x=> ?_;subst he;refine⟨lim.keeps x.toInCall.keep,codeAny_func ?_⟩;obtain⟨t,ht,hq⟩:=VG A outer s H vs Q E (hr.deeper _) hsp;have I:Inv (fV CX P w K mg base N qual scope f Uq A outer s H E) [] (start N vs) H s1:=DU S hr.hd e0 hl r x;refine wpAny_mono (ht [] s1 (start N vs) H _ I hq) (fun fl s' hs=> ?_) fun e s' hs=>hs
 have fin:∀{σ':St} {H':Hp} {v:V} {u:Sx},Inv (fV CX P w K mg base N qual scope f Uq A outer s H E) [] σ' H' s'->RelV v u->Q v H'->CE outer P w H s Q u s':=
  fun{σ' H' v u} J rv q=>⟨v,H',J.os,J.bare,J.base,J.Up,rv,q⟩
 cases fl with
 |ret u=>obtain⟨v,σ',H',J,rv,q⟩:=hs;exact fin J rv q
 |next=>obtain⟨σ',H',J,q⟩:=hs;exact fin (v:=V.Vh) (u:=Sx.none) J rfl q
 |brk=>obtain⟨_,_,_,q⟩:=hs;exact False.elim q
 |cont=>obtain⟨_,_,_,q⟩:=hs;exact False.elim q
section
variable {X:Cx} {x:Str} {p pos:Pos} {e:T4} {es:List T4} {t:TA} {id T:String} {r:List V->Hp->VK->Prop}
def GV (r:List V->Hp->VK->Prop) (t:TA):TE:=fun a H Q=>t a H fun vs b=>r vs b Q
theorem bz (o:Vx X (.builtin id) r) (m:Gl X x) (hm:X.mg x=Sw) (l:Ue x=lD (.builtin id)) (ha:PA X (e::es) t) (hn:x≠ "__name__":=by decide) (q:(x==("__debug__":Str))=SN:=by decide)
  (n:To (e::es) X.env=(SN,eval e X.env)::To es X.env:=by rfl) (u:(backTo pos (To es X.env)).any (·.1)=SN:=by rfl):PE X (.Call (.Name x p) (e::es) [] pos) (GV r t):=by
 intro a s b H Q I h;refine V7 (pR I m hm l ?_ hn q);exact afO (cO (ha pos a s b H _ I h) fun f g ⟨vs,w,v,i,j⟩=>o a g b w vs f Q v i j) n u
theorem c8 (o:Vx X (.type T) r) (m:Gl X x) (hm:X.mg x=Sw) (l:Ue x=lD (.type T)) (ha:PA X (e::es) t) (hn:x≠ "__name__":=by decide) (q:(x==("__debug__":Str))=SN:=by decide)
  (n:To (e::es) X.env=(SN,eval e X.env)::To es X.env:=by rfl) (u:(backTo pos (To es X.env)).any (·.1)=SN:=by rfl):PE X (.Call (.Name x p) (e::es) [] pos) (GV r t):=by
 intro a s b H Q I h;refine V7 (pR I m hm l ?_ hn q);exact Wb (cO (ha pos a s b H _ I h) fun f g ⟨vs,w,v,i,j⟩=>o a g b w vs f Q v i j) n u
end
end L2
namespace HT
open PySem PyProof.Rows
section
open PySem.SeqAt
open PySem.AutoSeq1 (wpAny_loadPart')
open PySem.MeetsSeq PySem.MeetsSeq2 PySem.MeetsSeq3
end
section
variable {prog:Te} {w:TF} {A:Tw} {E:Sx->SK->Prop} {s:SK}
theorem cat_tup {t b:SI} {vs ws:List Sx} {Q:Sx->SK->Prop} (v:IsTup s.heap t vs.toArray) (y:IsTup s.heap b ws.toArray) (q:vs≠[])
  (B:ws=[]->Q (.ref t) s) (z:ws≠[]->Q (.ref s.heap.objs.size) {s with heap:=s.heap.push {cls:= .type "tuple",data:= .seq (vs++ws).toArray}})
  (hsz:vs.length+ws.length<=SY):wpAny (model prog w) A (UX .Add (.ref t) (.ref b)) Q E s:=by
 obtain⟨⟨cls,dd,data,o⟩,l,u,n,r⟩:=id v;obtain⟨⟨C,i,m,f⟩,a,h,p,g⟩:=id y;simp only at u r h g;subst u r h g;have e:vs.toArray++ws.toArray=(vs++ws).toArray:=by simp
 by_cases j:ws=[]
 .exact concat_meets ⟨_,l,rfl⟩ ⟨_,a,rfl⟩ aeO ai2 ZH Zw (Zn _ _)
   (tuple_addW1 t b vs.toArray ws.toArray n p dd i o f (by simpa using q) (by simp[j])) ⟨l,a,B j⟩
 .refine concat_meets ⟨_,l,rfl⟩ ⟨_,a,rfl⟩ aeO ai2 ZH Zw (Zn _ _)
   (tuple_addW2 t b vs.toArray ws.toArray n p dd i o f (by simpa using q) (by simpa using j) (by rw[S8,S8];exact hsz)) ⟨l,a,?_⟩
  rw[e];exact z j
end
end HT
namespace L2
open PySem PySem.Spec PyProof.Rows
theorem j4:∀{us:List Sx},Vals (ns.map V.int) us->IntsAre us ns:=by
 induction ns with
 |nil=>intro us r;rw[V0] at r;cases r;exact .nil
 |cons n ns f=>
  intro us r;rw[S6] at r;cases r with
  |cons b a=>obtain⟨t,e⟩:=b;subst e;exact .cons n t (f a)
section
variable {X:Cx} {e:T4} {te:TE} {lo hi:Option T4} {tl th:TO} {pos p2:Pos}
def Nb (K:Ld):R2:=fun x y H Q=>∃a b xs ys,x= .ref a/\y= .ref b/\Xa K H a xs/\Xa K H b ys/\xs≠[]/\xs.length+ys.length<=SY/\
 (ys=[]->Q (.ref a) H)/\(ys≠[]->∀p,H p=Sw->Q (.ref p) (bJ H p (.tup (xs++ys))))
theorem Vals.ZX (r:Vals xs us):us=[]↔xs=[]:=by
 cases r with
 |nil=>simp
 |cons _ _=>simp
theorem Kh:OpR X (UX .Add) (Nb X.K):=by intro i s A H x y v u Q I m l h;obtain⟨a,b,xs,B,rfl,rfl,ha,t,r,j,o,n⟩:=h;cases m;cases l;obtain⟨F,g,p,_⟩:=I.tuple ha;obtain⟨E,f,p2,_⟩:=I.tuple t;refine HT.cat_tup p p2 (fun z=>r (g.ZX.mp z)) (fun z=>⟨.ref a,H,I,rfl,o (f.ZX.mp z)⟩) (fun z=> ?_) (by rw[<-g.length,<-f.length];exact j);refine⟨.ref s.heap.objs.size,_,I.laid (fun b C q=>Heap.get?_push_of_some _ q) (SU _) ?_,rfl,n (fun w=>z (f.ZX.mpr w)) _ (I.Up.fresh (SU _))⟩;exact⟨by rw[SH];exact j,_,g.append f,Zi.new _ _⟩
end
def Jz (n:Nat) (i:Int):Option Nat:=if 0<=i then(if i<n then lD i.toNat else Sw) else if -(n:Int)<=i then lD (i+n).toNat else Sw
def mX (xs:List α) (i:Int):Option α:=(Jz xs.length i).bind fun j=>xs[j]?
theorem LZ (h:Jz n i=lD j):seqIndex? i n=lD j/\j<n/\ -(n:Int)<=i/\i<n:=by
 unfold Jz at h;by_cases b:0<=i
 .rw[if_pos b] at h
  by_cases a:i<n
  .rw[if_pos a] at h;have e:=S7 h;exact⟨by rw[seqIndex_of b a,e],by omega,by omega,a⟩
  .rw[if_neg a] at h;cases h
 .rw[if_neg b] at h
  by_cases a: -(n:Int)<=i
  .rw[if_pos a] at h;have e:=S7 h;exact⟨by rw[seqIndex_neg (by omega) a,e],by omega,a,by omega⟩
  .rw[if_neg a] at h;cases h
theorem xM (h:mX xs i=lD v):∃j,seqIndex? i xs.length=lD j/\xs[j]? =lD v/\j<xs.length/\ -(xs.length:Int)<=i/\i<xs.length:=by
 unfold mX at h;cases e:Jz xs.length i with
 |none=>rw[e] at h;cases h
 |some j=>rw[e] at h;obtain⟨g,f,b,a⟩:=LZ e;exact⟨j,g,h,f,b,a⟩
theorem Dg {j:Nat} (h:xs[j]? =lD v):mX xs (j:Int)=lD v:=by
 have a:=(SD.mp h).1;have e:Jz xs.length (j:Int)=lD j:=by unfold Jz;rw[if_pos (by omega),if_pos (by omega)];simp
 unfold mX;rw[e];exact h
theorem sR (xs:List α) (v:α):mX (xs++[v]) (-1)=lD v:=by
 have a:(xs++[v]).length=xs.length+1:=by simp
 have e:Jz (xs++[v]).length (-1)=lD xs.length:=by unfold Jz;rw[a,if_neg (by decide),if_pos (by omega)];congr 1;omega
 unfold mX;rw[e];simp
def J1 (b:T4):Prop:=∀o i,subscripted b SN o i=operate [o,i] (getItem o i)
def IxR (X:Cx) (r:R2):Prop:=
 ∀(e a:T4) (b:List (SI×Obj)) (s:SK) (f:St) (H:Hp) (x y:V) (v u:Sx) (Q:VK),Inv X b f H s->RelV x v->RelV y u->r x y H Q->
  subscripted a SN v u=operate [v,u] (getItem v u)->wpAny (model X.prog X.w) X.A (subscriptTail e a v u) (EP X b f Q) X.xe s
def Q9 (X:Cx) (f:String) (r:V->List V->Hp->VK->Prop):Prop:=
 ∀(a:List (SI×Obj)) (s:SK) (b:St) (H:Hp) (x:V) (xs:List V) (v:Sx) (e:List Sx) (Q:VK),Inv X a b H s->RelV x v->Vals xs e->r x xs H Q->
  wpAny (model X.prog X.w) X.A (call (.builtin f) (v::e)) (EP X a b Q) X.xe s
section
variable {X:Cx} {a b:T4} {ta tb:TE} {pos:Pos}
theorem IxR.or (h:IxR X r) (h':IxR X r'):IxR X (fun x y H Q=>r x y H Q\/r' x y H Q):=by
 intro e f g s i H x y v u Q I l j q m;rcases q with q|q
 .exact h e f g s i H x y v u Q I l j q m
 .exact h' e f g s i H x y v u Q I l j q m
theorem cA {r:R2} (m:IxR X r) (ha:PE X a ta) (n:PE X b tb) (l:J1 b):PE X (.Subscript a b pos) (PH r ta tb):=by intro e s f H Q I h;exact Subscript_ (NV ha n I h fun v u g x y p o j i q=>m a b e g f p x y v u Q o j i q (l _ _))
def Qu (K:Ld):R2:=fun x y H Q=>∃p xs i v,x= .ref p/\y= .int i/\Xp K H p xs/\mX xs i=lD v/\Q v H
def Qi (K:Ld):R2:=fun x y H Q=>∃p xs i v,x= .ref p/\y= .int i/\Xa K H p xs/\mX xs i=lD v/\Q v H
def P2:R2:=fun x y H Q=>∃z i c,x= .str z/\y= .int i/\z.length<=SY/\mX z.cps.toList i=lD c/\Q (.str ⟨#[c]⟩) H
theorem JO:IxR X (Qu X.K):=by
 intro l m e s C H x y v u Q I F E h o;obtain⟨p,xs,i,z,rfl,rfl,G,L,q⟩:=h;cases F;obtain⟨t,rfl⟩:=E;obtain⟨R,r,pl,S⟩:=I.list G;obtain⟨j,g,O,T,N,M⟩:=xM L;obtain⟨w,B,P⟩:=r.get O;have J:=r.length;have hn:=xT;have f:EP X e C Q w s:=⟨z,H,I,P,q⟩;by_cases A:0<=i
 .have n:i.toNat=j:=by
   rw[seqIndex_of A M] at g;exact S7 g
  exact item_listR pl.isList A (by omega) (by rw[n];simpa using B) f o
 .have n:(i+(R.toArray.size:Int)).toNat=j:=by
   rw[seqIndex_neg (by omega) N] at g;rw[S8,<-J];exact S7 g
  exact subscriptTail_builtinR pl.isList.typeIs slot_list_getitem.lookup
   (wpAny_getItem_list_neg pl.isList (by omega) (by rw[S8]<;>omega) (by omega) (by rw[n];simpa using B) ⟨rfl,f⟩) o
theorem NO:IxR X (Qi X.K):=by
 intro f g e s m H x y v u Q I o n h A;obtain⟨p,xs,i,z,rfl,rfl,B,E,q⟩:=h;cases o;obtain⟨t,rfl⟩:=n;obtain⟨R,r,pl,M⟩:=I.tuple B;obtain⟨j,G,F,P,O,N⟩:=xM E;obtain⟨w,J,L⟩:=r.get F;have C:=r.length;have hn:=xT;have l:EP X e m Q w s:=⟨z,H,I,L,q⟩;exact subscriptTail_builtinR pl.typeIs slot_tuple_getitem.lookup
  (getItem_tuple pl (by omega) (by omega) (by rw[S8,<-C];exact G) (by simpa using J) ⟨rfl,l⟩) A
theorem Pr:IxR X P2:=by
 intro e f g s F H x y v u Q I n m h o;obtain⟨z,i,c,rfl,rfl,J,r,q⟩:=h;obtain⟨t,rfl⟩:=n;obtain⟨G,rfl⟩:=m;obtain⟨j,l,B,K,A,w⟩:=xM r;have p:z.cps.toList.length=z.length:=by simp[Str.length]
 rw[p] at l A w;have hn:=xT;exact tail_any (typeIs_str s z t) slot_str_getitem.lookup (getItem_str (by have E:decide (i< -(2^63:Int))=SN:=decide_eq_false (by omega);have C:decide (i≥2^63)=SN:=decide_eq_false (by omega);rw[E,C,adA]) (by rw[l];simpa using B) ⟨.str ⟨#[c]⟩,H,I.tok _,⟨_,rfl⟩,q⟩) o
def Rb (K:Ld):R2:=fun x y H Q=>Qu K x y H Q\/Qi K x y H Q\/P2 x y H Q
theorem bK:IxR X (Rb X.K):=JO.or (NO.or Pr)
theorem Vx.or (h:Vx X f r) (h':Vx X f r'):Vx X f (fun xs H Q=>r xs H Q\/r' xs H Q):=by
 intro e s g H xs i Q I j q;rcases q with q|q
 .exact h e s g H xs i Q I j q
 .exact h' e s g H xs i Q I j q
theorem xw:Vx X (.type "list") (fun xs H Q=>∃p ys,xs=[.ref p]/\(Xp X.K H p ys\/Xa X.K H p ys)/\∀l,H l=Sw->Q (.ref l) (bJ H l (.lst ys))):=by
 intro m s F H xs J Q I r h;obtain⟨p,ys,rfl,y,q⟩:=h;obtain⟨u,rfl,G⟩:=kE r;cases G
 have A:∀(g:List Sx),Vals ys g->ys.length<=SY->∀(f:Heap) (j:Nat),(∀b o',s.heap.get? b=lD o'->f.get? b=lD o')->
   f.get? s.heap.objs.size=lD {cls:= .type "list",dict:=Sw,data:= .seq g.toArray j,slots:= #[]}->EP X m F Q (.ref s.heap.objs.size) {s with heap:=f}:=fun g i v f j t e=>
  ⟨.ref s.heap.objs.size,_,I.laid t (SU _) (show ObjOk X.prog X.w _ f _ (.lst ys) from⟨v,g,j,i,e⟩),rfl,q _ (I.Up.fresh (SU _))⟩
 rcases y with y|y
 .obtain⟨g,i,pl,v⟩:=I.list y;have z:=i.length;obtain⟨o,B,E,n,C⟩:=pl.isList;exact ai3 p (.inl rfl) B E C (fun f j t e=>A g i v f j t e) (by simp only[S8]<;>omega)
 .obtain⟨g,i,pl,v⟩:=I.tuple y;have z:=i.length;obtain⟨o,B,E,n,C⟩:=pl;exact ai3 p (.inr rfl) B E C (fun f j t e=>A g i v f j t e) (by simp only[S8]<;>omega)
theorem bS:Vx X (.type "tuple") (fun xs H Q=>∃p ys,xs=[.ref p]/\((Xp X.K H p ys/\∀l,H l=Sw->Q (.ref l) (bJ H l (.tup ys)))\/(Xa X.K H p ys/\Q (.ref p) H))):=by
 intro i s B H xs C Q I r h;obtain⟨p,ys,rfl,h⟩:=h;obtain⟨u,rfl,v⟩:=kE r;cases v;rcases h with⟨g,q⟩|⟨g,q⟩
 .obtain⟨n,f,pl,j⟩:=I.list g
  have m:=f.length;refine call_tuple_list pl.isList (fun z y=> ?_) (by simp only[S8]<;>omega);have t:=I.kept (t':=s.toks) y
  have A:=
   t.laid (t':=s.toks) (fun b o e=>Heap.get?_push_of_some _ e) (SU _) (show ObjOk X.prog X.w _ _ _ (.tup ys) from⟨j,n,f,Zi.new _ _⟩)
  exact⟨.ref z.objs.size,_,A,rfl,q _ (t.Up.fresh (SU _))⟩
 .obtain⟨n,f,pl,j⟩:=I.tuple g;exact call_tuple_same pl ⟨.ref p,H,I,rfl,q⟩
def RJ (K:Ld) (T:String) (x:V) (H:Hp):Prop:=match x with
 | .str _=>T= "str"
 | .int _=>T= "int"
 | .ref p=>(T= "list"/\∃xs,Xp K H p xs)\/(T= "tuple"/\∃o,K.lookup p=lD o/\o.cls= .type "tuple"/\o.dict=Sw)\/
   (T= "dict"/\((∃Ti,H p=lD (.dK Ti))\/∃Ti,H p=lD (.dT Ti)))\/(T= "set"/\∃S n,H p=lD (.set S n))
 |_=>False
theorem Fx (I:Inv X pins σ H s) (r:RelV x v) (ty:RJ X.K T x H):
  s.TypeIs v T/\∀a,v= .ref a->∃ob,s.heap.get? a=lD ob/\ob.dict=Sw:=by
 cases x with
 |str z=>obtain⟨t,rfl⟩:=r;cases(show T= "str" from ty);exact⟨typeIs_str s z t,fun _ e=>nomatch e⟩
 |int i=>obtain⟨t,rfl⟩:=r;cases(show T= "int" from ty);exact⟨Y5 s i t,fun _ e=>nomatch e⟩
 |ref p=>
  cases r;rcases ty with⟨rfl,xs,l⟩|⟨rfl,o,f,m,h⟩|⟨rfl,f⟩|⟨rfl,S,n,f⟩
  .obtain⟨q,_,pl,_⟩:=I.list l;refine⟨pl.isList.typeIs,fun a e=> ?_⟩;cases e;obtain⟨o,n,e,c,h,_⟩:=pl;exact⟨o,e,h⟩
  .refine⟨⟨o,I.Ye p o f,m⟩,fun a e=> ?_⟩;cases e;exact⟨o,I.Ye _ o f,h⟩
  .have z:∃o,s.heap.get? p=lD o/\o.ExactDict:=by
    rcases f with⟨Ti,f⟩|⟨Ti,f⟩
    .obtain⟨_,_,_,_,o,_,_,e,g,_⟩:=I.Up p _ f;exact⟨o,e,g⟩
    .obtain⟨_,_,_,_,o,_,_,e,g,_⟩:=I.Up p _ f;exact⟨o,e,g⟩
   obtain⟨o,e,g⟩:=z;refine⟨⟨o,e,g.1⟩,fun a j=> ?_⟩;cases j;exact⟨o,e,g.2.1⟩
  .obtain⟨o,_,_,_,e,g,_⟩:=I.Up p _ f;refine⟨⟨o,e,g.1⟩,fun a j=> ?_⟩;cases j;exact⟨o,e,g.2.1⟩
 |_=>exact False.elim ty
def Qf (K:Ld) (T:String) (r:V->List V->Hp->VK->Prop) (to:TE):TE:=fun f H Q=>to f H fun x e=>RJ K T x e/\r x [] e Q
def Q0 (K:Ld) (T:String) (r:V->List V->Hp->VK->Prop) (to:TE) (t:TA):TE:=fun e H Q=>to e H fun x f=>RJ K T x f/\t e f fun xs g=>r x xs g Q
variable {o e:T4} {es:List T4} {to:TE} {t:TA} {name:Str} {Z Y:Pos} {T U:String} {r:V->List V->Hp->VK->Prop}
theorem FR (pa:PlainAttrs T) (g:Slot T name U) (i:typeOf (.builtin U)=pure (.type "method_descriptor")) (hm:Q9 X U r) (u:PE X o to)
  (z:attributeBase o name X.env (eval o X.env)=eval o X.env:=by rfl) (j:(Z.endLine==Y.line)=Sz:=by rfl):PE X (.Call (.Attribute o name Z) [] [] Y) (Qf X.K T r to):=by
 intro f s l H Q I h;refine wpAny_Call_method0_late z j (cO (u f s l H _ I h) fun v p ⟨x,A,n,m,ty,q⟩=> ?_);obtain⟨y,w⟩:=Fx n m ty;exact⟨T,U,pa,g,i,y,w,Calls.callWith_builtin rfl (PySem.evalArgs_none (hm f p l A x [] v [] Q n m .nil q))⟩
theorem si (pa:PlainAttrs T) (g:Slot T name U) (j:typeOf (.builtin U)=pure (.type "method_descriptor")) (hm:Q9 X U r) (F:PE X o to) (ha:PA X (e::es) t)
  (L:attributeBase o name X.env (eval o X.env)=eval o X.env:=by rfl)
  (l:((backTo Y (To (e::es) X.env)).all (fun x=> !x.1)&&(backToKw Y (keywordEach [] X.env)).all (fun x=>x.1.isSome)
   &&decide ((e::es).length+([]:List Zm).length+(if([]:List Zm).isEmpty then 0 else 1)<30))=Sz:=by rfl)
  (m:(Z.endLine==Y.line)=Sz:=by rfl) (E:To (e::es) X.env=(SN,eval e X.env)::To es X.env:=by rfl) (n:(backTo Y (To es X.env)).any (·.1)=SN:=by rfl):
  PE X (.Call (.Attribute o name Z) (e::es) [] Y) (Q0 X.K T r to t):=by
 intro f s i H Q I h;refine wpAny_Call_method_late L l m rfl (cO (F f s i H _ I h) fun v z ⟨x,O,u,p,ty,C⟩=> ?_);obtain⟨J,G⟩:=Fx u p ty;refine⟨T,U,pa,g,j,J,G,?_⟩;have q:=ha Y f z i O _ u C;rw[E] at q⊢;refine Calls.callWith_builtin (by show(SN||(backTo Y (To es X.env)).any (·.1))=SN;rw[n]<;>rfl) (Calls.evalArgs_plain ?_);exact cO q fun w y ⟨vs,N,M,A,B⟩=>hm f y i N x vs v w Q M p A B
end
def Sb (X:Cx) (f:String) (r:V->List V->Hp->VK->Prop):Prop:=
 ∀(a:List (SI×Obj)) (s:SK) (b:St) (H:Hp) (x:V) (xs:List V) (v:Sx) (e:List Sx) (Q:VK),Inv X a b H s->RelV x v->Vals xs e->r x xs H Q->
  wpAny (model X.prog X.w) X.A (call (.builtin f) (v::e)) (EP X a b Q) X.xe s
theorem Vals.one:∀{x:V} {us:List Sx},Vals [x] us->∃u,us=[u]/\RelV x u
 |_,_,.cons r .nil=>⟨_,rfl,r⟩
theorem Vals.rep (h:Vals xs us):∀k:Nat,Vals (SS k xs).flatten (SS k us).flatten
 |0=> .nil
 |k+1=>by rw[Ub,Ub,U4,U4];exact Vals.append h (Vals.rep h k)
theorem qG (b:List Sx):∀(k:Nat) (a:List Sx),
  Xn (fun x1 x2=>x1++x2) a.toArray (SS k b.toArray)=(a++(SS k b).flatten).toArray
 |0,a=>by simp
 |k+1,a=>by
  have e:a.toArray++b.toArray=(a++b).toArray:=by simp
  have f:(a++b)++(SS k b).flatten=a++(SS (k+1) b).flatten:=by rw[Ub,U4,Tg]
  rw[<-f,<-qG b k (a++b),<-e,Ub,Xr]
section
variable {X:Cx} {Z:List (SI×Obj)} {Y:St} {H:Hp} {s:SK} {l b:SI} {xs U zs:List V}
theorem Inv.aij {g a:List Sx} (I:Inv X Z Y H s) (o:H l=lD (.lst xs))
  (e:s.heap.get? l=lD {cls:= .type "list",data:= .seq g.toArray n}) (j:f g.toArray=a.toArray) (h:Vals U a) (hz:U.length<=SY):
  Inv X Z Y (bJ H l (.lst U)) {s with heap:=s.heap.update l (Obj.mapSeq f),toks:=t'}:=by
 have q:=aks e f;rw[j] at q;refine I.write (by rw[o];exact trivial) (.inl rfl) (fun p u m i=>(Heap.get?_update_other s.heap (Obj.mapSeq f) (Ne.symm m)).trans i) ⟨_,q⟩ ?_;exact⟨hz,a,_,h,q⟩
theorem Inv.ae3 (I:Inv X Z Y H s) (a:Vals U TV) (hz:U.length<=SY):
  Inv X Z Y (bJ H s.heap.objs.size (.lst U)) {s with heap:=s.heap.push {cls:= .type "list",data:= .seq TV.toArray},toks:=t'}:=
 I.laid (fun _ _ q=>Heap.get?_push_of_some _ q) (SU _) ⟨hz,TV,0,a,Heap.get?_push_size _ rfl⟩
theorem Inv.fresh (I:Inv X Z Y H s):H s.heap.objs.size=Sw:=I.Up.fresh (SU _)
theorem Inv.afw (I:Inv X Z Y H s) (f:H l=lD (.lst xs)):xs.length<=SY/\∃(a:List Sx) (n:Nat),Vals xs a/\xs.length=a.length/\s.heap.get? l=lD {cls:= .type "list",data:= .seq a.toArray n}:=by obtain⟨z,a,n,r,e⟩:=I.Up l _ f;exact⟨z,a,n,r,r.length,e⟩
theorem FQ (h:n<=SY):Ua.List.listTooLong n=SN:=by unfold Ua.List.listTooLong;exact decide_eq_false (by omega)
end
section
variable {X:Cx}
def wQ:V->List V->Hp->VK->Prop:=fun x vs H Q=>∃l xs y,x= .ref l/\vs=[y]/\H l=lD (.lst xs)/\xs.length<SY/\Q .Vh (bJ H l (.lst (xs++[y])))
theorem gB:Sb X "list.append" wQ:=by intro a s j H x vs v m Q I f rv h;obtain⟨l,xs,y,rfl,rfl,b,o,q⟩:=h;cases f;obtain⟨u,rfl,g⟩:=rv.one;obtain⟨z,i,n,r,p,e⟩:=I.afw b;refine W6 F.slot_list_append ⟨_,e,rfl⟩ F.entry_list_append (F.args_list_append_2 _ _) (PySem.list_append l i.toArray n u (by rw[S8];omega)) ⟨e,?_⟩;refine⟨.Vh,_,I.aij b e (by simp) (r.append (.cons g .nil)) ?_,rfl,q⟩;rw[SH,XI];omega
theorem BT (xs:List α) (k:Nat):(SS k xs).flatten.length=k*xs.length:=by
 induction k with
 |zero=>simp
 |succ k a=>rw[Ub,U4,SH,a,aeP,YU]
end
section
variable {prog:Te} {w:TF} {A:Tw} {E:Sx->SK->Prop} {s:SK}
set_option maxRecDepth 100000 in
end
end L2
namespace Att
open PySem PySem.W PySem.Calls PyProof.Rows
theorem qZ:∀(ns:List Int) (vs:List Sx),WellAll P h vs (ns.map WData.int)->IntsAre vs ns:=by
 intro ns
 induction ns with
 |nil=>intro vs w;rw[V0] at w;cases w;exact .nil
 |cons n ns e=>
  intro vs w;rw[S6] at w;cases w with
  |cons a b=>cases a;exact .cons _ _ (e _ b)
theorem Ew {l:OpenLaw} (hn:l.most=lD n)
  (e:l.row.toRowW.claim.pre args=Sz) (i:WellAll P h vals args):
  ∃a vs ns,vals=[Sx.ref a]/\args=[WData.list (ns.map WData.int)]/\h.get? a=lD {cls:= .type "list",data:= .seq vs.toArray}/\IntsAre vs ns/\ns.length<=n:=by
 have j:=(pre_splitW e).1;have o:l.pre.holds [] {args:=args}=Sz:=(pre_splitW e).2;obtain⟨d,r,rfl,z,y⟩:=hasAllW_cons j;obtain rfl:=hasAllW_nil y;obtain⟨xs,rfl,w⟩:=hasW_list z;obtain⟨ns,rfl⟩:=items_int w;have b:ns.length<=n:=by
  unfold OpenLaw.pre at o;have g:(WTm.not (.lt (.lit (.int (n:Int))) (.len (.arg 0)))).holds [] {args:=[.list (ns.map .int)]}=Sz:=by have g:=(holds_andW o).1;rw[hn] at g;exact g
  have f:=condW_of g (w_not (w_lt w_lit (w_len_list (w_arg rfl))));rw[Sy] at f;refine Nat.le_of_not_lt fun q=> ?_;have u:(n:Int)<((ns.length:Nat):Int):=by omega
  first
   |(rw[decide_eq_true u] at f;exact absurd f (by decide))
   |(simp at f;omega)
 cases i with
 |cons t p=>
  cases p;cases t with
  |list v m=>exact⟨_,_,ns,rfl,rfl,v,qZ ns _ m,b⟩
theorem Ed (l:OpenLaw) (args:List WData):l.row.toRowW.claim.post args (.bool Sz) args=Sz:=
 postW_of
  (show WShape.has [] (.bool Sz) .bool=Sz by first|rfl|decide|simp[WShape.has,WShape.arms,WShape.armsAll])
  (show(WTm.eq .res (.lit (.bool Sz))).value [] {args:=args,res:=lD (.bool Sz),after:=args}=lD (.bool (Sz==Sz)) from w_eq_bool (w_res rfl) w_lit) rfl
theorem attach_call {l:OpenLaw} {n:Nat} {q:Te} {e:List Str} {H:(Str->Option Sx)->Heap->Prop} {F:TF->Heap->Prop} {d:DefRec}
  (hn:l.most=lD n) (v:d.params.defaults=[])
  (call:∀(w:TF) (s₀ b:SK) (mg p:Str->Option Sx) (fa:SI) (o:Obj) (m j h:Sx) (a:SI) (vs:List Sx) (ns:List Int),
   Ground q e [] H w s₀ mg p b.heap->F w b.heap->
   b.heap.get? fa=lD o->o.data= .func (docDef d.name d.params d.body d.scope m j h)->b.heap.CodeRec j d.name->mg d.name=lD (.ref fa)->
   b.heap.get? a=lD {cls:= .type "list",data:= .seq vs.toArray}->IntsAre vs ns->ns.length<=n->b.gens= #[]->
   codeAny (model l.prog w) callerA (.call (.ref fa) ⟨[.ref a],[]⟩) (fun r s'=>r= .ok (.ret (.bool Sz))/\OldK b.heap s'.heap/\s'.os=b.os/\AllBare s'.gens) b):
  WalkO q e H F l.row.toRowW d [] (fun f vs=>aeQ f vs):=by
 intro w s₀ b mg p G Y fa o m j h dV kV K N y C u M E B S A R I t L;obtain rfl:dV= .none:=Dflts.none C v;obtain rfl:kV= .none:=Dflts.noKw C;obtain⟨a,vs,ns,rfl,rfl,z,g,i⟩:=Ew hn A t;refine enter_call (X6 (call w s₀ b mg p fa o m j h a vs ns G Y K (fd_plain N) y u z g i M) fun r s' J=> ?_);obtain⟨rfl,Q,P,O⟩:=J;exact⟨.inl ⟨.bool Sz,.bool Sz,[],rfl,fun _=>rfl,.bool Sz,Ed l _,fun _=>⟨Xs,fun _ hm=>(nomatch hm)⟩⟩,Q,P,O⟩
end Att
namespace L2
open PySem PySem.Spec PyProof.Rows
theorem jM:∀{vs:List Sx} {ns:List Int},IntsAre vs ns->Vals (ns.map V.int) vs
 |_,_,.nil=> .nil
 |_,_,.cons n t h=> .cons ⟨t,rfl⟩ (jM h)
def QS (H:Hp):Prop:=∀b,H b=Sw\/∃o xs,H b=lD (.frz o (.lst xs))
theorem Jf {P:Te} {w:TF} {K:Ld} {mg G:Str->Option Sx} {Z:wW} {k:Nat} {fa a:SI} {fd:Uc} {x:Str} {sp:Sp} {f:SK} {vs:List Sx} {ns:List Int}
  (Y:K.In f.heap) (p:f.heap.Ns S4 mg) (g:f.heap.Ns builtinsNs G) (J:∀x:Str,x≠ "__name__"->G x=Ue x) (Q:f.heap.NoLimit) (hg:f.gens= #[])
  (ha:f.heap.get? a=lD {cls:= .type "list",data:= .seq vs.toArray}) (hi:IntsAre vs ns) (S:ns.length<=SY) (hr:U7 k callerA)
  (F:∀base:Heap,K.In base->base.Ns S4 mg->FnOk P w K mg base Z k fa fd [x] sp) (R:∀(s:SK) (u:Sx),X4 s fd ⟨[u],[]⟩ [(x,u)])
  (I:∀H:Hp,QS H->Xp K H a (ns.map V.int)->sp [.ref a] H (fun v _=>v= .bl Sz) fun _ _ _=>False)
  (L:∀H e s',Z [] H f (fun _ _ _=>False) e s'->False):
  codeAny (model P w) callerA (.call (.ref fa) ⟨[.ref a],[]⟩) (fun r s'=>r= .ok (.ret (.bool Sz))/\OldK f.heap s'.heap/\s'.os=f.os/\AllBare s'.gens) f:=by
 have rv:=jM hi;have N:=hi.length
 have j:∀H:Hp,QS H->Xp K H a (ns.map V.int)->XM P w H f.heap->(∀b,H b≠Sw->b=a)->(H a≠Sw->K.lookup a=Sw)->
   codeAny (model P w) callerA (.call (.ref fa) ⟨[.ref a],[]⟩) (fun r s'=>r= .ok (.ret (.bool Sz))/\OldK f.heap s'.heap/\s'.os=f.os/\AllBare s'.gens) f:=by
  intro H T hS Up U hK;have C:∀{b:SI} {o:Obj},f.heap.get? b=lD o->H b=Sw->(wa f.heap H).get? b=lD o:=fun e n=>Fi e n;have E:∀{b:SI} {o:Obj} {y:Array Wc} {A:Nat},f.heap.get? b=lD o->o.data= .dict y A->H b=Sw:=fun{b o y A} e d=>by
   cases q:H b with
   |none=>rfl
   |some u=>have M:b=a:=U b (by rw[q];simp);subst M;rw[ha] at e;cases e;have d':Data.seq vs.toArray _=Data.dict y A:=d;cases d'
  have i:∀{b:SI} {m:Str->Option Sx},f.heap.Ns b m->(wa f.heap H).Ns b m:=fun{b m} ⟨o,y,A,e,d,r⟩=>⟨o,y,A,C e (E e d),d,r⟩;have t:K.In (wa f.heap H):=fun b o e=>C (Y b o e) (by
   cases q:H b with
   |none=>rfl
   |some u=>have M:b=a:=U b (by rw[q];simp);subst M;rw[hK (by rw[q];simp)] at e;cases e)
  have hM:Mod K mg (wa f.heap H):=⟨t,i p,⟨G,i g,J⟩,let⟨mc,h1,h2⟩:=Q;⟨mc,i h1,h2⟩⟩;have e0:Env0 P w K mg (wa f.heap H) callerA [] f H:=⟨rfl,hM,fun b o e=>Mo e,V6 (ED _ _),trivial,fun b g=>absurd (show b∈([]:List SI) from g) (by simp),Up,.of_eq hg⟩;refine X6 ((F _ t (i p)).run callerA [] f H ⟨[.ref a],[]⟩ [.ref a] [.ref a] _ _ hr e0 (R f (.ref a)) (.cons rfl .nil) (I H T hS)) fun r s' h=> ?_;cases r with
  |error e=>exact(L H e s' h).elim
  |ok fl=>
   cases fl with
   |next=>exact False.elim h
   |brk=>exact False.elim h
   |cont=>exact False.elim h
   |ret u=>
    obtain⟨v,H',os,B,un,O,r',q⟩:=h;have q':v= .bl Sz:=q;subst q';obtain rfl:u=Sx.bool Sz:=r';refine⟨rfl,OldK.of_keep fun b o e=> ?_,os,B⟩;cases q:H b with
    |none=>exact un.keep b o e q (by intro z;exact absurd (show b∈([]:List SI) from z) (by simp)) (by simp)
    |some u=>
     rcases T b with z|⟨ob,xs,z⟩
     .rw[q] at z;cases z
     .have z2:=un.Y0 b ob _ z;obtain⟨X,_⟩:=Up b _ z;obtain⟨e2,_⟩:=O b _ z2;rw[e] at X;cases X;exact e2
 cases hk:K.lookup a with
 |some o=>have e:=Y a o hk;rw[ha] at e;cases e;refine j (fun _=>Sw) (fun _=> .inl rfl) (.inr ⟨_,vs.toArray,_,hk,rfl,rfl,rfl,by rw[S8,N];exact S,by simpa using rv⟩) (fun b u z=>by have l:(Sw:Option HO)=lD u:=z;cases l) (fun b z=>absurd rfl z) fun z=>absurd rfl z
 |none=>
  refine j (fun b=>if b=a then lD (.frz {cls:= .type "list",data:= .seq vs.toArray} (.lst (ns.map V.int))) else Sw) (fun b=> ?_) (.inl (.inr ⟨{cls:= .type "list",data:= .seq vs.toArray},if_pos rfl⟩)) (fun b u z=> ?_) (fun b z=> ?_) fun _=>hk
  .by_cases g:b=a
   .exact .inr ⟨_,_,if_pos g⟩
   .exact .inl (if_neg g)
  .by_cases g:b=a
   .have l:=(if_pos g).symm.trans z;cases l;subst g;exact⟨ha,by rw[Sy];exact S,vs,_,rv,ha⟩
   .have l:=(if_neg g).symm.trans z;cases l
  .by_cases g:b=a
   .exact g
   .exact absurd (if_neg g) z
def bc (s:U6) (j:Nat):U6:=match s with
 | .ClassDef _ _ _ body _ _ _ _ _ _ _=>body.getD j (.Pass ⟨0,0,0,0⟩)
 |_=> .Pass ⟨0,0,0,0⟩
def gh (s:U6):Arguments:=match s with
 | .FunctionDef _ a _ _ _ _ _ _ _ _=>a
 |_=>{posonlyargs:=[],args:=[],vararg:=Sw,kwonlyargs:=[],kw_defaults:=[],kwarg:=Sw,defaults:=[]}
def cx (s:U6):List U6:=match s with
 | .FunctionDef _ _ b _ _ _ _ _ _ _=>b
 |_=>[]
def aA (s:U6):VJ:=match s with
 | .FunctionDef _ _ _ _ _ _ sc _ _ _=>sc
 |_=>{kind:= .function,names:=[],isGenerator:=SN,isCoroutine:=SN}
abbrev dS:wW:=fun _ _ _ _ _ _=>False
abbrev E0:XK:=fun _ _ _=>False
theorem Dv:fJ dS X E0:=fun _ _ _ _ _ _ _ h=>h.elim
structure VU (K:Ld) (x qual:Str) (st:U6) (f:SI) (fd:Uc):Prop where
 ex:∃(oc:Sx) (od:Option SI) (kV doc pm:Sx) (an:Option SI) (Uq ct:Sx) (osl:Array (Option Sx)),
  fd=Uu x qual (gh st) (cx st) (aA st) .none kV doc pm an Uq ct/\K.lookup f=lD ⟨oc,od,.func fd,osl⟩/\Wv K Uq qual=Sz
 kp:UH K (.ref f)=Sz
section
variable {P:Te} {w:TF} {K:Ld} {mg:Str->Option Sx} {base:Heap}
theorem VU.ok {x a:Str} {b:U6} {f:SI} {fd:Uc} {N ps:List Str} {k:Nat} {sp:Sp} (F:VU K x a b f fd) (S:Vk N ps (aA b)) (len:∀vs H Q E,sp vs H Q E->vs.length=ps.length)
  (o:∀(e:Sx) (A:Tw) (outer:List Env) (s:SK) (H:Hp) (vs:List V) (Q:VK) (E:XK),U7 k (A.deeper (envOfC a (aA b) s.heap.objs.size f e))->sp vs H Q E->
   ∃t,YA (fV dS P w K mg base N a (aA b) f e A outer s H E).nox (cx b) t/\t {nx:=fun _ H'=>Q .Vh H',rt:=Q} (start N vs) H):FnOk P w K mg base dS (k+1) f fd ps sp:=by
 obtain⟨u,r,kV,n,p,v,e,ct,j,rfl,l,i⟩:=F.ex;refine Fb l i S len fun A outer s H vs Q E m g=> ?_;obtain⟨t,h,q⟩:=o e A outer s H vs Q E m g;exact⟨t,h.nox,q⟩
theorem VU.binds {x a:Str} {e:U6} {f:SI} {fd:Uc} {ps:List Str} (F:VU K x a e f fd)
  (h:∀(kV b g:Sx) (i:Option SI) (j ct:Sx) (us:List Sx),us.length=ps.length->bindArgs (Uu x a (gh e) (cx e) (aA e) .none kV b g i j ct) ⟨us,[]⟩=pure (ps.zip us)):Binds K fd ps []:=by
 obtain⟨o,n,kV,b,g,i,j,ct,l,rfl,p,m⟩:=F.ex;exact .all (h kV b g i j ct)
theorem Hi {a:U6} {kV b g e ct:Sx} (l:K.lookup f=lD ⟨oc,od,.func (Uu x qual (gh a) (cx a) (aA a) .none kV b g an e ct),osl⟩)
  (c:Wv K e qual=Sz) (k:UH K (.ref f)=Sz):VU K x qual a f (Uu x qual (gh a) (cx a) (aA a) .none kV b g an e ct):=⟨⟨oc,od,kV,b,g,an,e,ct,osl,rfl,l,c⟩,k⟩
end
theorem Ct (a:U7 k A):A.units+1<cLine:=YC (Nat.add_le_add_left (by decide:1<=64) _) a.units
section
variable {X:Cx}
theorem pv (i:Nat) (e:X.N[i]? =lD x:=by rfl) (b:RA X.env.scope x:=by first|exact Or.inl rfl|exact Or.inr (Or.inl rfl)|exact Or.inr (Or.inr rfl)) (hd:(x==("__debug__":Str))=SN:=by decide)
  (a:(x==("__classdict__":Str))=SN:=by decide):PE X (.Name x pos) (zM i):=OB e b hd a
end
def UP (H H':Hp):Prop:=∀b o,H b=lD o->H' b=lD o
theorem UP.refl (H:Hp):UP H H:=fun _ _ h=>h
theorem UP.trans (a:UP H H1) (b:UP H1 H2):UP H H2:=fun c o h=>b c o (a c o h)
theorem UP.free (e:UP H H') (h:H' l=Sw):H l=Sw:=by
 cases q:H l with
 |none=>rfl
 |some o=>rw[e l o q] at h;cases h
end L2
set_option maxHeartbeats 4000000
namespace L2
open PySem PySem.Spec PyProof.Rows
section
variable {X:Cx} {Z:List (SI×Obj)} {σ:St} {H:Hp} {s:SK} {h':Heap}
theorem Inv.aa3 {ch:List SI} (I:Inv X Z σ H s) (i:∀b∈ch,pT X Z H b)
  (k:∀b u,b∉ch->s.heap.get? b=lD u->h'.get? b=lD u) (l:s.heap.objs.size<=p)
  (new:ObjOk X.prog X.w (bJ H p o) h' p o):Inv X Z σ (bJ H p o) {s with heap:=h',toks:=t'}:=by
 have hn:=I.Up.fresh l;have f:∀b u,H b=lD u->b∉ch:=fun b u e z=>by rw[(i b z).1] at e;cases e
 have h:∀b u,s.heap.get? b=lD u->b≠p:=fun b u e=>Th (Tf (Heap.lt_size e) l);refine I.step (fun b g=> ?_) (fun b u _ _ a e _=>k b u a e) (fun b u _ _ a e _=>⟨u.slots,k b u a e⟩)
  (fun b u _ e n=>by rw[aD (h b u e)];exact n) (fun b u a e=>⟨u,k b u a e⟩) (fun b xs e=>by rw[aD (b7 e hn)];exact e)
  (fun b u xs e=>by rw[aD (b7 e hn)];exact e) (fun b ps e=>⟨#[],by rw[aD (b7 e hn),e];simp⟩) (fun m hm=> ?_) (fun b u e=> ?_) I.bare
 .obtain⟨_,C,_,B,A,y⟩:=i b g;exact⟨B,C,A,y⟩
 .obtain⟨j,E,F,t,r⟩:=hm;exact⟨j,E,F,k _ j (fun z=>(i _ z).2.1 rfl) t,r⟩
 .by_cases g:b=p
  .subst g;rw[aR] at e;cases e;exact new
  .rw[aD g] at e
   refine(I.Up b u e).WY (fun c v a q=>k c v ?_ q) (fun c q=>by rw[aD (b7 q hn)];exact q) fun c xs q=>by rw[aD (b7 q hn)];exact q
   rcases a with z|z
   .rw[z];exact f b u e
   .exact f c _ z
end
mutual
inductive DV (K:Ld) (H:Hp):V->SG->Prop
 |Vh:DV K H .Vh .none
 |bl (b:Bool):DV K H (.bl b) (.bool b)
 |int (i:Int):DV K H (.int i) (.int i)
 |str (x:Str):DV K H (.str x) (.str x)
 |tup {a:SI} {xs:List V} {ds:List SG}:Xa K H a xs->US K H xs ds->DV K H (.ref a) (.tuple ds)
 |lst {a:SI} {xs:List V} {ds:List SG}:Xp K H a xs->US K H xs ds->DV K H (.ref a) (.list ds)
inductive US (K:Ld) (H:Hp):List V->List SG->Prop
 |nil:US K H [] []
 |cons {v:V} {vs:List V} {d:SG} {ds:List SG}:DV K H v d->US K H vs ds->US K H (v::vs) (d::ds)
end
section
variable {X:Cx} {Z:List (SI×Obj)} {σ:St} {H:Hp} {s:SK}
mutual
theorem DV.reads (I:Inv X Z σ H s):∀{v:V} {d:SG} {u:Sx},DV X.K H v d->RelV v u->∃as,acB s.heap u d as
 |_,_,_,.Vh,r=>by cases r;exact⟨_,.none⟩
 |_,_,_,.bl b,r=>by cases r;exact⟨_,.bool b⟩
 |_,_,_,.int i,r=>by obtain⟨t,rfl⟩:=r;exact⟨_,.int i t⟩
 |_,_,_,.str x,r=>by obtain⟨t,rfl⟩:=r;exact⟨_,.str x t⟩
 |_,_,_,.tup h hs,r=>by cases r;obtain⟨a,rv,⟨o,e,c,n,d⟩,_⟩:=I.tuple h;obtain⟨as,q⟩:=US.reads I hs rv;exact⟨_,.tuple e c d (by simpa using q)⟩
 |_,_,_,.lst h hs,r=>by cases r;obtain⟨a,rv,⟨o,n,e,c,_,d⟩,_⟩:=I.list h;obtain⟨as,q⟩:=US.reads I hs rv;exact⟨_,.list e c d (by simpa using q)⟩
theorem US.reads (I:Inv X Z σ H s):∀{vs:List V} {ds:List SG} {us:List Sx},US X.K H vs ds->Vals vs us->∃as,aaJ s.heap us ds as
 |_,_,_,.nil,r=>by cases r;exact⟨_,.nil⟩
 |_,_,_,.cons h hs,r=>by
  cases r with
  |cons b a=>obtain⟨as,q⟩:=DV.reads I h b;obtain⟨bs,e⟩:=US.reads I hs a;exact⟨_,.cons q e⟩
end
end
def Mb (K:Ld) (neg:Bool):R2:=fun x y H Q=>∃dx dy,DV K H x dx/\DV K H y dy/\dx.canLay0=Sz/\dy.canLay0=Sz/\dx.depth<=64/\Q (.bl (if neg then !SG.eqv dx dy else SG.eqv dx dy)) H
section
variable {X:Cx}
theorem ka (o:X.A.units+64<cLine):OpR X (UJ .Eq) (Mb X.K SN):=by intro a s n H x y v u Q I e b h;obtain⟨dx,r,m,l,j,i,p,q⟩:=h;obtain⟨t,g⟩:=m.reads I e;obtain⟨bs,f⟩:=l.reads I b;exact agX g f j i (by omega) ⟨.bl _,H,I,rfl,q⟩
theorem Ja (o:X.A.units+64<cLine):OpR X (UJ .NotEq) (Mb X.K Sz):=by intro a s n H x y v u Q I e b h;obtain⟨dx,r,m,l,j,i,p,q⟩:=h;obtain⟨t,g⟩:=m.reads I e;obtain⟨bs,f⟩:=l.reads I b;exact agY g f j i (by omega) ⟨.bl _,H,I,rfl,q⟩
theorem Hd:OpR X (UX .FloorDiv) (rI (fun _ j=>0<j/\j.natAbs.log2<9000) fun i j=> .int (i/j)):=PZ fun i j _ _ _ _ _ a q=>by have b:(0:Int)<j:=a.1;exact floordiv_int (by omega) (by rw[ZF i (by omega)];exact q) (.inl (PyProof.noPylong_of_log2 a.2))
end
def jh (env:Env):List (Str×Tx)->List (Str×SI)->List (Str×SI)
 |[],acc=>acc
 |(n,k)::r,acc=>if(k==Tx.free)=Sz then(match env.cells.lookup n with|some c=>jh env r ((n,c)::acc)|none=>jh env r acc) else jh env r acc
theorem ny {f:Str×Tx->List (Str×SI)->Sem (ForInStep (List (Str×SI)))}
  (i:∀n k a,(k==Tx.free)=SN->f (n,k) a=pure (.yield a)) (g:∀n c a,env.cells.lookup n=lD c->f (n,.free) a=pure (.yield ((n,c)::a))):
  ∀(names:List (Str×Tx)) (a:List (Str×SI)),(∀y∈names,y.2= .free->∃c,env.cells.lookup y.1=lD c)->forIn names a f=pure (jh env names a)
 |[],a,_=>rfl
 |(n,k)::r,a,h=>by
  have j:=fun y m=>h y (S2 _ m);rw[Xt];cases hk:(k==Tx.free) with
  |false=>rw[i n k a hk,pure_bind];show forIn r a f=_;rw[ny i g r a j];simp only[jh,hk,VV,if_false]
  |true=>
   have e:k= .free:=by simpa using hk
   subst e;obtain⟨c,l⟩:=h _ S5 rfl;rw[g n c a l,pure_bind];show forIn r ((n,c)::a) f=_;rw[ny i g r _ j];have b:=l;simp only[jh,hk,if_true,b]
theorem oh (h:∀y∈scope.names,y.2= .free->∃c,env.cells.lookup y.1=lD c):closureFor scope env=pure (jh env scope.names []):=by simp only[closureFor];rw[ny (fun n k a b=>by simp only[b,VV,if_false]) (fun n c a e=>by simp only[beq_self_eq_true,if_true,cellOf,e,pure_bind]) scope.names [] h,pure_bind]
theorem kY:∀(names:List (Str×Tx)) (a:List (Str×SI)),(∀x c,a.lookup x=lD c->env.cells.lookup x=lD c)->∀x c,(jh env names a).lookup x=lD c->env.cells.lookup x=lD c
 |[],_,h,x,c,e=>h x c e
 |(n,k)::r,a,h,x,c,e=>by
  unfold jh at e;split at e
  .split at e
   .rename_i g b
    refine kY r _ (fun y d q=> ?_) x c e;rw[Tb] at q;split at q
    .rename_i f;cases q;rw[eq_of_beq f];exact b
    .exact h y d q
   .exact kY r a h x c e
  .exact kY r a h x c e
theorem mB:∀(names:List (Str×Tx)) (a:List (Str×SI)) (x:Str),(a.lookup x).isSome=Sz->((jh env names a).lookup x).isSome=Sz
 |[],_,_,h=>h
 |(n,k)::r,a,x,h=>by
  unfold jh;split
  .split
   .refine mB r _ x ?_
    rw[Tb];split
    .rfl
    .exact h
   .exact mB r a x h
  .exact mB r a x h
theorem pf:∀(names:List (Str×Tx)) (a:List (Str×SI)) (x:Str) (c:SI),(x,Tx.free)∈names->env.cells.lookup x=lD c->((jh env names a).lookup x).isSome=Sz
 |[],_,_,_,h,_=>by cases h
 |(n,k)::r,a,x,c,h,hc=>by
  rcases Tq.mp h with z|h
  .cases z;simp only[jh,beq_self_eq_true,if_true,hc];exact mB r _ _ (by simp[Tb])
  .unfold jh
   split
   .split
    .exact pf r _ x c h hc
    .exact pf r a x c h hc
   .exact pf r a x c h hc
theorem zl (h:(x,Tx.free)∈names) (a:env.cells.lookup x=lD c):(jh env names []).lookup x=lD c:=by
 have q:=pf names [] x c h a;cases e:(jh env names []).lookup x with
 |none=>rw[e] at q;cases q
 |some d=>have z:=kY names [] (fun y d q=>by cases q) x d e;rw[a] at z;exact z.symm
theorem zG {env:Env} {a:VJ} {x:Str} {k:Tx} (h:(relabel a env).names.lookup x=lD k):∃k0,(x,k0)∈a.names/\(k=k0\/(k0= .free/\k= .cell)):=by
 obtain⟨⟨n,k0⟩,hm,e⟩:=Tv.mp (UM h);simp only at e;split at e
 .rename_i b
  cases e;have f:(k0==Tx.free)=Sz:=by rw[Ts,Ts] at b;exact b.1.1
  exact⟨k0,hm,.inr ⟨by simpa using f,rfl⟩⟩
 .cases e;exact⟨_,hm,.inl rfl⟩
theorem jW {env:Env}:∀{names:List (Str×Tx)} {x:Str},names.lookup x=lD .free->
  (names.map fun(n,k)=>if(k==Tx.free&&env.scope.kind== .function&&env.kindOf n==lD .cell) then(n,Tx.cell) else(n,k)).lookup x=lD .cell\/
  (names.map fun(n,k)=>if(k==Tx.free&&env.scope.kind== .function&&env.kindOf n==lD .cell) then(n,Tx.cell) else(n,k)).lookup x=lD .free
 |[],_,h=>by cases h
 |(n,k)::r,x,h=>by
  rw[Tb] at h;rw[S6];dsimp only;by_cases a:(k==Tx.free&&env.scope.kind== .function&&env.kindOf n==lD .cell)=Sz
  .rw[if_pos a,Tb]
   cases hx:x==n with
   |true=>exact .inl rfl
   |false=>rw[hx] at h;exact jW h
  .rw[if_neg a,Tb]
   cases hx:x==n with
   |true=>rw[hx] at h;exact .inr h
   |false=>rw[hx] at h;exact jW h
def fh (own:List Str) (a:List (Str×Nat)):List Str:=own++a.map (·.1)
def jy (own:List Str) (b:List (Str×Nat)) (a:St):St:=own.map (fun _=>Sw)++b.map fun p=>(a[p.2]?).join
def aar (X:Cx) (a:VJ):List (Str×Nat)->Prop
 |[]=>True
 |p::r=>(X.N[p.2]? =lD p.1/\a.names.lookup p.1=lD .free/\(X.env.scope.names.lookup p.1=lD .cell\/X.env.scope.names.lookup p.1=lD .free))/\aar X a r
theorem aar.mem:∀{a:List (Str×Nat)},aar X scope a->∀p∈a,X.N[p.2]? =lD p.1/\scope.names.lookup p.1=lD .free/\(X.env.scope.names.lookup p.1=lD .cell\/X.env.scope.names.lookup p.1=lD .free)
 |[],_,p,hp=>by cases hp
 |q::r,h,p,hp=>by
  rcases Tq.mp hp with z|hp
  .rw[z];exact h.1
  .exact h.2.mem p hp
def xj (X:Cx) (a:VJ) (C:SI):List (Str×SI):=U0 (C+1) a.names (jh X.env a.names [])
theorem uf:∀(names:List (Str×Tx)) (n:Nat) (b:List (Str×SI)) (x:Str) (c:SI),(U0 n names b).lookup x=lD c->(n<=c/\(x,Tx.cell)∈names)\/b.lookup x=lD c
 |[],_,_,_,_,h=> .inr h
 |(y,k)::r,n,b,x,c,h=>by
  unfold U0 at h;by_cases f:(k==Tx.cell)=Sz
  .rw[if_pos f] at h
   have e:k= .cell:=by simpa using f
   rcases uf r _ _ x c h with⟨a,g⟩|a
   .exact .inl ⟨W2 a,S2 _ g⟩
   .rw[Tb] at a
    split at a
    .rename_i i;cases a;exact .inl ⟨SU _,by rw[eq_of_beq i,e];exact S5⟩
    .exact .inr a
  .rw[if_neg f] at h
   rcases uf r _ _ x c h with⟨a,g⟩|a
   .exact .inl ⟨a,S2 _ g⟩
   .exact .inr a
theorem GM:∀(names:List (Str×Tx)) (n:Nat) (a:List (Str×SI)) (x:Str),(x,Tx.cell)∉names->(U0 n names a).lookup x=a.lookup x
 |[],_,_,_,_=>rfl
 |(y,k)::r,n,a,x,h=>by
  have f:=fun z=>h (S2 _ z);unfold U0;by_cases b:(k==Tx.cell)=Sz
  .have e:k= .cell:=by simpa using b
   rw[if_pos b,GM r _ _ x f,Tb];have g:(x==y)=SN:=by refine beq_eq_false_iff_ne.mpr fun z=>h ?_;rw[z,e];exact S5
   rw[g]
  .rw[if_neg b];exact GM r _ _ x f
theorem uu:∀(names:List (Str×Tx)) (h:Heap) (b:List (Str×SI)) (x:Str) (c:SI),(U0 h.objs.size names b).lookup x=lD c->(h.objs.size<=c/\(pushCells h names).IsCell c Sw)\/b.lookup x=lD c
 |[],_,_,_,_,e=> .inr e
 |(y,k)::r,h,b,x,c,e=>by
  unfold U0 at e;unfold pushCells;by_cases f:(k==Tx.cell)=Sz
  .rw[if_pos f] at e⊢
   rw[<-Heap.size_push h {cls:= .type "cell",data:= .cell Sw}] at e;rcases uu r _ _ x c e with⟨a,g⟩|a
   .rw[Heap.size_push] at a;exact .inl ⟨W2 a,g⟩
   .rw[Tb] at a
    split at a
    .cases a;exact .inl ⟨SU _,_,aaf _ _ _ _ (Heap.get?_push_size _ rfl),rfl⟩
    .exact .inr a
  .rw[if_neg f] at e⊢;exact uu r _ _ x c e
theorem Bm:∀(names:List (Str×Tx)) (n:Nat) (e:List (Str×SI)),(∀x c,e.lookup x=lD c->c<n)->(∀x y c,e.lookup x=lD c->e.lookup y=lD c->x=y)->∀x y c,(U0 n names e).lookup x=lD c->(U0 n names e).lookup y=lD c->x=y
 |[],_,_,_,h2,x,y,c,e1,e2=>h2 x y c e1 e2
 |(z,k)::r,n,e,h1,h2,x,y,c,e1,e2=>by
  unfold U0 at e1 e2;by_cases h:(k==Tx.cell)=Sz
  .rw[if_pos h] at e1 e2
   refine Bm r (n+1) ((z,n)::e) (fun a d q=> ?_) (fun a b d g f=> ?_) x y c e1 e2
   .rw[Tb] at q
    split at q
    .cases q;exact Wj _
    .exact W3 (h1 a d q)
   .rw[Tb] at g f
    split at g
    .rename_i ha
     split at f
     .rename_i i;rw[eq_of_beq ha,eq_of_beq i]
     .cases g;exact absurd (h1 b _ f) (Ui _)
    .split at f
     .cases f;exact absurd (h1 a _ g) (Ui _)
     .exact h2 a b d g f
  .rw[if_neg h] at e1 e2;exact Bm r n e h1 h2 x y c e1 e2
theorem Ba:∀{names:List (Str×Tx)} {x:Str} {k a:Tx},(names.map (·.1)).Nodup->names.lookup x=lD k->(x,a)∈names->k=a
 |[],_,_,_,_,h,_=>by cases h
 |(y,j)::r,x,k,a,hn,h,hm=>by
  rw[S6,UL] at hn;rw[Tb] at h;rcases Tq.mp hm with e|hm'
  .cases e;rw[beq_self_eq_true] at h;exact(S7 h).symm
  .cases hx:x==y with
   |true=>rw[eq_of_beq hx] at hm';exact absurd (Tv.mpr ⟨_,hm',rfl⟩) hn.1
   |false=>rw[hx] at h;exact Ba hn.2 h hm'
def cH (X:Cx) (s:SK) (H:Hp) (a:VJ) (C:SI) (N:List Str) (fp:List SI):Cx:=
 {X with N:=N,s₀:=s,H₀:=H,env:=compEnvC a (xj X a C) C X.env,outer:=X.stack,stack:=X.stack,ex:=fp,fn:=fun x=>((jh X.env a.names []).lookup x).isNone,pn:=[],xe:=fun _ _=>False}
section
variable {X:Cx} {Z:List (SI×Obj)} {Y:St} {H:Hp} {s:SK}
theorem uQ {a:VJ} (I:Inv X Z Y H s) (e:(jh X.env a.names []).lookup x=lD c):X.env.cells.lookup x=lD c/\c<s.heap.objs.size:=by have h:=kY _ _ (fun _ _ q=>by cases q) x c e;obtain⟨v,o,z,_⟩:=I.cell x c h;exact⟨h,Heap.lt_size z⟩
theorem Df (I:Inv X Z Y H s) (M:scope.kind= .function) (n:(scope.names.map (·.1)).Nodup)
  (v:∀y∈scope.names,y.2= .free->∃c,X.env.cells.lookup y.1=lD c) (g:s.heap.objs.size<=C) (j:∀b∈fp,pT X Z H b) (f:∀b∈fp,b<s.heap.objs.size):(cH X s H scope C N fp).Ok where
 mod:=I.ok.mod
 kind:=M
 glob:=I.ok.glob
 blt:=I.ok.blt
 above:=g
 inj:=Bm _ _ _ (fun x c e=>W3 (Tf (uQ I e).2 g)) fun x y c B A=>I.ok.inj x y c (uQ I B).1 (uQ I A).1
 has:=fun x G=>by
  have m:∃k,(relabel scope X.env).names.lookup x=lD k/\(k= .cell\/k= .free):=by
   rcases G with z|z
   .exact⟨_,z,.inl rfl⟩
   .exact⟨_,z,.inr rfl⟩
  obtain⟨k,K,t⟩:=m;obtain⟨E,hm,u⟩:=zG K;have e:E= .free\/E= .cell:=by
   rcases u with z|⟨z,_⟩
   .subst z
    rcases t with z|z
    .exact .inr z
    .exact .inl z
   .exact .inl z
  have q:((xj X scope C).lookup x).isSome=Sz:=by
   rcases e with e|e
   .subst e;obtain⟨c,L⟩:=v _ hm rfl;exact VX _ _ _ (.inr (by rw[zl hm L];rfl))
   .subst e
    refine VX _ _ _ (.inl ?_);cases z:scope.names.lookup x with
    |none=>exact absurd hm (fun hm=>by
      have:∀{l:List (Str×Tx)},l.lookup x=Sw->(x,Tx.cell)∉l:=fun{l}=>by
       induction l with
       |nil=>exact fun _=>by simp
       |cons p r F=>
        intro h q;rw[Tb] at h;rcases Tq.mp q with q|q
        .rw[<-q,beq_self_eq_true] at h;cases h
        .split at h
         .cases h
         .exact F h q
      exact this z hm)
    |some O=>rw[Ba n z hm]
  exact Zv.mp q
 cab:=fun x c B A=>by
  have i:((jh X.env scope.names []).lookup x).isNone=Sz:=B;have w:=A;rcases uf _ _ _ x c w with⟨z,_⟩|z
  .exact TJ g (W2 z)
  .rw[z] at i;cases i
 hd:=I.ok.hd
 frames:=I.ok.frames
 stk:= .inl rfl
 exf:=fun b a=>⟨Th (Tf (f b a) g),fun x c e=>by
  rcases uf _ _ _ x c e with⟨z,_⟩|z
  .exact Ul (Tf (Tf (f b a) g) (W2 z))
  .exact(j b a).2.2.2.2.1 x c (uQ I z).1⟩
 bs:=I.bs
 bsz:=TJ I.ok.bsz I.sz
 aas:=fun b o e a=>by
  rcases(j b a).2.2.2.1 with z|z
  .exact I.ok.aas b o e z
  .exact absurd (Tf (Heap.lt_size e) (TJ I.ok.bsz z)) (Ui _)
 aax:=fun b a J=>by
  rcases Tq.mp (I.Yb b J) with z|z
  .exact(j b a).2.1 z
  .exact(j b a).2.2.1 z
 Yg:=I.stack
 frf:=I.Yv
theorem Fz (I:Inv X Z Y H s) (Wi:scope.kind= .function) (hnd:(scope.names.map (·.1)).Nodup)
  (hfr:∀y∈scope.names,y.2= .free->∃c,X.env.cells.lookup y.1=lD c) (hfv:aar X scope fv) (hD:s.heap.objs.size<=D) (hDC:D<C) (hC:s.heap.objs.size<=C) (hf:∀b∈fp,pT X Z H b) (hfl:∀b∈fp,b<s.heap.objs.size)
  (hns:h1.Ns C m) (hoc:∀x c,(xj X scope C).lookup x=lD c->C<c->∃v,h1.IsCell c v) (hk:∀b o,s.heap.get? b=lD o->h1.get? b=lD o) (hd:∃n,h1.get? D=lD {cls:= .type "list",data:= .seq #[] n}):
  Inv (cH X s H scope C (fh own fv) fp) [] (jy own fv Y) (bJ H D (.lst [])) {s with heap:=h1,toks:=t1}:=by
 have hn:=I.Up.fresh hD;obtain⟨n,hd⟩:=hd;have hCD:=Ul hDC;have hcs:∀x c,(xj X scope C).lookup x=lD c->C<c\/(X.env.cells.lookup x=lD c/\c<s.heap.objs.size):=fun x c e=>by
  rcases uf _ _ _ x c e with⟨z,_⟩|z
  .exact .inl z
  .exact .inr (uQ I z)
 refine⟨Df I Wi hnd hfr hC hf hfl,rfl,I.bare,Un.laid hk hD hn,⟨m,hns,fun i x v e1 e2 e3=> ?_⟩,fun x c e=> ?_,?_,fun x c e=> ?_,fun p hp=>absurd (show p∈([]:List (SI×Obj)) from hp) (by simp),?_,?_⟩
 .
  have e1':(own++fv.map (·.1))[i]? =lD x:=e1;have e2':(own.map (fun _=>(Sw:Option V))++fv.map fun p=>(Y[p.2]?).join)[i]? =lD (lD v):=e2;have hi:own.length<=i:=by
   by_cases hi:i<own.length
   .rw[S1 (by simpa using hi),SX] at e2'
    cases q:own[i]? with
    |none=>rw[q] at e2';cases e2'
    |some _=>rw[q] at e2';cases e2'
   .omega
  rw[TC hi,SX] at e1';rw[TC (by simpa using hi),SX,Sy] at e2';cases q:fv[i - own.length]? with
  |none=>rw[q] at e1';cases e1'
  |some p=>
   rw[q] at e1' e2';have ex:=S7 e1';subst ex;have ev:(Y[p.2]?).join=lD v:=S7 e2';obtain⟨g1,g2,g3⟩:=hfv.mem p (Tt q);have ev2:Y[p.2]? =lD (lD v):=by
    cases z:Y[p.2]? with
    |none=>rw[z] at ev;cases ev
    |some y=>rw[z] at ev;exact congrArg lD ev
   obtain⟨m0,_,hl⟩:=I.loc;obtain⟨u,r,l⟩:=hl p.2 p.1 v g1 ev2 (.inr g3);refine⟨u,r,?_⟩;have l2:∃c,X.env.cells.lookup p.1=lD c/\s.heap.IsCell c (lD u):=by
    rcases l with⟨k,_⟩|⟨_,c,e,z⟩
    .have k':X.env.scope.names.lookup p.1=lD .local:=k
     rcases g3 with z|z
     .rw[z] at k';cases k'
     .rw[z] at k';cases k'
    .exact⟨c,e,z⟩
   obtain⟨c,e,o,ho,hdc⟩:=l2;refine .inr ⟨?_,c,?_,o,hk c o ho,hdc⟩
   .exact jW g2
   .show(xj X scope C).lookup p.1=lD c;unfold xj;rw[GM _ _ _ _ fun z=>by cases Ba hnd g2 z];exact zl (UM g2) e
 .rcases hcs x c e with z|⟨z,_⟩
  .exact hoc x c e z
  .obtain⟨v,o,ho,hdc⟩:=I.cell x c z;exact⟨v,o,hk c o ho,hdc⟩
 .show bJ H D (.lst []) C=Sw;rw[aD hCD];exact I.Up.fresh hC
 .show bJ H D (.lst []) c=Sw
  rcases hcs x c e with z|⟨z1,z2⟩
  .rw[aD (Ul (V8 hDC z))];exact I.Up.fresh (TJ hC (Wz z))
  .rw[aD (Th (Tf z2 hD))];exact I.Wo x c z1
 .exact I.Up.laid hk hD ⟨by show 0<=SY;exact T5 _,[],n,.nil,hd⟩
 .show(own.map (fun _=>(Sw:Option V))++fv.map fun p=>(Y[p.2]?).join).length=(own++fv.map (·.1)).length;simp
end
def ES (X:Cx) (e:List T4) (t:TT):Prop:=
 ∀(a:List (SI×Obj)) (s:SK) (b:St) (H:Hp) (Q:Bool->Hp->Prop),Inv X a b H s->t b H Q->
  wpAny (model X.prog X.w) X.A (forIn e Sz fun c r=>if r=Sz then do let ok<-isTrue c X.env (eval c X.env);pure (ForInStep.yield ok) else pure (ForInStep.yield r)) (TP X a b Q) X.xe s
def IL:TT:=fun _ H Q=>Q Sz H
theorem bL:ES X [] IL:=fun _ _ _ H _ I h=>wpAny_tests_nil ⟨H,I,h⟩
theorem ti (h:PT X c tc):ES X [c] tc:=fun a s b H Q I e=>wpAny_tests_one (h a s b H Q I e)
def Ht (J:It) (D:SI) (e:St) (g:TG) (l:TT) (j:TE) (o:Hp) (Fin:Hp->Prop):Prop:=
 ∃W:Nat->Nat->St->Hp->Prop,(∃m,W 0 m e (bJ o D (.lst [])))/\∀i m σ H,W i m σ H->
  (J.stop i H/\Fin H)\/(J.go i H/\∃N:St->Hp->Prop,(∀σ' H',N σ' H'->∃m',m'<m/\W (i+1) m' σ' H')/\
   ∀x H',J.yld i H x H'->g x σ H' fun a n=>l a n fun b h=>if b=Sz then j a h fun y f=>∃ys,f D=lD (.lst ys)/\ys.length<SY/\N a (bJ f D (.lst (ys++[y]))) else N a h)
section
variable {prog:Te} {w:TF} {A:Tw} {s:SK}
theorem Ex {i p f:T4} {g:List T4} {b:VJ} {l:Pos} {q j:Sx} {env:Env} {R:ZG->SK->Prop} {XE:Sx->SK->Prop} (F:∀x s1,XE x s1->notedBy (model prog w) A env (fun e s2=>R (.error e) s2) x s1) (I:Nat->SK->Prop)
  (turn:∀n s,I n s->wpAny (model prog w) A (pyNext q) (fun r s1=>match r with
   |none=>R (.ok .next) s1
   |some v=>wpAny (model prog w) A (letOwnedTupleGo p q v) (fun _ s2=>wpAny (model prog w) A (assign p env v) (fun _ s3=>
     wpAny (model prog w) A (forIn g Sz fun c r=>if r=Sz then do let ok<-isTrue c env (eval c env);pure (ForInStep.yield ok) else pure (ForInStep.yield r)) (fun ok s4=>
      if ok=Sz then wpAny (model prog w) A (eval i env) (fun x s5=>
       wpAny (model prog w) A (call (.builtin "list.append") [j,x]) (fun _ s6=>∃m,m<n/\I m s6) (fun _ _=>False) s5) XE s4
      else∃m,m<n/\I m s4) (fun _ _=>False) s3) (fun _ _=>False) s2) (fun _ _=>False) s1) (fun _ _=>False) s)
  (n:Nat) (h:I n s):codeAny (model prog w) A (.compLoop (.ListComp i [⟨p,f,g,0⟩] b l) 0 q j env) R s:=by
 refine codeAny_loop rfl I (fun n s G=> ?_) n h;show wpAny _ A (Sem.onRaise (compTurn (.ListComp i [⟨p,f,g,0⟩] b l) 0 q j env) (fun x=>do noteFrame x env;theTreesLotGoes x)) _ _ s;refine wpAny_noted ?_;rw[compTurn_list]
 have o:∀{α:Type} {t:Sem α} {Q C:α->SK->Prop} {E:Sx->SK->Prop} {s:SK},wpAny (model prog w) A t Q (fun _ _=>False) s->(∀a s',Q a s'->C a s')->wpAny (model prog w) A t C E s:=
  fun u y=>wpAny_mono u y fun _ _ z=>False.elim z
 refine Sv (Vd (Sv (o (turn n s G) fun r s1 u=> ?_)));cases r with
 |none=>exact SQ u
 |some v=>
  refine Sv (o u fun _ s2 y=>Sv (o y fun _ s3 K=>Sv (o K fun ok s4 B=> ?_)));cases ok with
  |false=>exact SQ ⟨rfl,B⟩
  |true=>exact Sv (Sv (wpAny_mono B (fun x s5 J=>Sv (o J fun _ s6 H=>SQ (SQ ⟨rfl,H⟩))) F))
end
section
variable {X:Cx} {Z:List (SI×Obj)} {Y:St} {H:Hp} {s:SK}
theorem v5
  (h:Q (newEnv scope s.heap.objs.size globals (U0 (s.heap.objs.size+1) scope.names closure) qual Sw .none (lD env) builtinsNs) {s with heap:=pushCells (s.heap.push {cls:= .type "dict",data:= .dict #[]}) scope.names}):
  wpAny M A (newFunctionEnv scope globals closure [] qual Sw .none (lD env)) Q E s:=by
 simp only[newFunctionEnv,abc,if_true];refine Sv (wpAny_alloc ?_);refine Sv (wpAny_layCells _ (fun e a b=>by cases hkc:a==Tx.cell<;>simp[hkc]) _ _ _ _ ?_);rw[show({s with heap:=s.heap.push {cls:= .type "dict",data:= .dict #[]}}:SK).heap.objs.size=s.heap.objs.size+1 from Heap.size_push ..];rw[ZA];exact Sv (SQ (SQ h))
theorem nW {P tg q:T4} {F:List T4} {scope:VJ} {pos:Pos} {own:List Str} {h:List (Str×Nat)} {g:TG} {tc:TT} {te:TE} {E:Sx->SK->Prop} {it:SI} {fp:List SI} {tn:Nat->Heap->Prop} {J:It} {Fin:SI->Hp->Prop}
  {RR:Sx->SI->ZG->SK->Prop} (I:Inv X Z Y H s) (hc:X.calm=Sz) (Wi:scope.kind= .function) (hnd:(scope.names.map (·.1)).Nodup) (hfr:∀y∈scope.names,y.2= .free->∃c,X.env.cells.lookup y.1=lD c) (hfv:aar X scope h)
  (T:Turn X.prog X.w X.K tg J fp it tn) (st:tn 0 s.heap) (L:∀b∈fp,pT X Z H b)
  (hg:∀C,PG (cH X s H scope C (fh own h) fp) tg g) (ht:∀C,ES (cH X s H scope C (fh own h) fp) F tc) {W:SI->Sx->SK->Prop} (he:∀C,PE ((cH X s H scope C (fh own h) fp).XH (W C)) P te) (hEE:∀D C x s1,s.heap.objs.size<=C->W C x s1->notedBy (model X.prog X.w) X.A (compEnvC scope (xj X scope C) C X.env) (fun e s2=>RR (.ref D) C (.error e) s2) x s1)
  (hR:∀D,H D=Sw->Ht J D (jy own h Y) g tc te H (Fin D))
  (hRR:∀D C H' s',Inv X Z Y H' s'->Fin D H'->(∃m,s'.heap.Ns C m)->s.heap.objs.size<=C->H' C=Sw->RR (.ref D) C (.ok .next) s'):
  wpAny (model X.prog X.w) X.A (newList []) (fun acc s3=>wpAny (model X.prog X.w) X.A (newFunctionEnv scope X.env.globals (jh X.env scope.names []) [] X.env.qual Sw .none (lD X.env)) (fun aaW s4=>
   codeAny (model X.prog X.w) X.A (.compStart (.ListComp P [⟨tg,q,F,0⟩] scope pos) 0 (.ref it) acc {aaW with scope:=relabel scope X.env}) (RR acc aaW.locals) s4) E s3) E s:=by
 refine UR ?_;generalize hH2:s.heap.push {cls:= .type "list",dict:=Sw,data:= .seq ([]:List Sx).toArray}=h2;have hz:h2.objs.size=s.heap.objs.size+1:=by rw[<-hH2,Heap.size_push]
 refine v5 (s:={s with heap:=h2}) ?_;have M:s.heap.objs.size<h2.objs.size:=by rw[hz];exact Wj _
 have hC:s.heap.objs.size<=h2.objs.size:=Wz M;generalize hH1:pushCells (h2.push {cls:= .type "dict",data:= .dict #[]}) scope.names=h1;have kp2:∀b o,h2.get? b=lD o->h1.get? b=lD o:=fun b o e=>by rw[<-hH1];exact aaf _ _ b o (Heap.get?_push_of_some _ e)
 have kp:∀b o,s.heap.get? b=lD o->h1.get? b=lD o:=fun b o e=>kp2 b o (by rw[<-hH2];exact Heap.get?_push_of_some _ e);have hns:h1.Ns h2.objs.size (fun _=>Sw):=by rw[<-hH1];exact(Heap.Ns.new h2 (.type "dict")).keeps (aaf _ _)
 have hoc:∀x c,(xj X scope h2.objs.size).lookup x=lD c->h2.objs.size<c->∃v,h1.IsCell c v:=fun x c e WO=>by
  have e':(U0 (h2.push {cls:= .type "dict",data:= .dict #[]}).objs.size scope.names (jh X.env scope.names [])).lookup x=lD c:=by rw[Heap.size_push];exact e
  rcases uu _ _ _ x c e' with⟨_,z⟩|z
  .exact⟨Sw,by rw[<-hH1];exact z⟩
  .exact absurd (V8 (uQ I z).2 (V8 M WO)) (Ui _)
 have hd:∃n,h1.get? s.heap.objs.size=lD {cls:= .type "list",data:= .seq #[] n}:=⟨0,kp2 _ _ (by rw[<-hH2];exact Heap.get?_push_size _ rfl)⟩;have G:∀b∈fp,b<s.heap.objs.size:=fun b f=>by obtain⟨o,e,_⟩:=T.obj 0 _ st b f;exact Heap.lt_size e
 have hn:H s.heap.objs.size=Sw:=I.Up.fresh (SU _);obtain⟨W,⟨m0,w0⟩,turn⟩:=hR s.heap.objs.size hn;have O:∀{pl:List (SI×Obj)} {H':Hp},(∀b∈fp,H' b=Sw)->(∀p∈pl,p.1∉fp)->∀b∈fp,pT (cH X s H scope h2.objs.size (fh own h) fp) pl H' b:=fun{pl H'} hn' Y4 b f=>by have ok:=Df (C:=h2.objs.size) (N:=fh own h) I Wi hnd hfr hC L G;exact⟨hn' b f,(ok.exf b f).1,ok.aax b f,.inl f,(ok.exf b f).2,fun p hp=>by have hp':p∈([]:List (SI×Obj))++pl:=hp;intro z;exact Y4 p (by simpa using hp') (by rw[z];exact f)⟩
 have l:∀s4:SK,s4={s with heap:=h1}->
   codeAny (model X.prog X.w) X.A (.compLoop (.ListComp P [⟨tg,q,F,0⟩] scope pos) 0 (.ref it) (.ref s.heap.objs.size) (compEnvC scope (xj X scope h2.objs.size) h2.objs.size X.env)) (RR (.ref s.heap.objs.size) h2.objs.size) s4:=by
  rintro s4 rfl
  have I0:Inv (cH X s H scope h2.objs.size (fh own h) fp) [] (jy own h Y) (bJ H s.heap.objs.size (.lst [])) {s with heap:=h1}:=
   Fz I Wi hnd hfr hfv (SU _) M hC L G hns hoc kp hd
  have st0:tn 0 h1:=T.keep 0 _ _ st fun b _ o e=>kp b o e;have fr0:∀b∈fp,(bJ H s.heap.objs.size (.lst [])) b=Sw:=fun b f=>by rw[aD (Th (G b f))];exact(L b f).1
  refine Ex (fun x s1 z=>hEE _ _ x s1 hC z) (fun n s'=>∃i σ' H',Inv (cH X s H scope h2.objs.size (fh own h) fp) [] σ' H' s'/\tn i s'.heap/\(∀b∈fp,H' b=Sw)/\W i n σ' H') ?_ m0 ⟨0,_,_,I0,st0,fr0,w0⟩;rintro n s5 ⟨i,j,H5,I5,st5,fr5,w5⟩;rcases turn i n j H5 w5 with⟨stop,fin⟩|⟨go,N,hN,step⟩
  .refine cO (T.done (cH X s H scope h2.objs.size (fh own h) fp) rfl rfl rfl hc i [] s5 j H5 (fun _ _=>False) I5 (O fr5 (by simp)) st5 stop) fun r s6 ⟨hr,S⟩=> ?_;subst hr;obtain⟨mm,hm,_⟩:=S.loc;refine hRR _ _ H5 s6 ?_ fin ⟨mm,hm⟩ hC S.free;exact I.aap (ch:=fp) S.os S.base S.Up S.bare fun b f=>⟨(L b f).2.2.2.1,(L b f).2.1,(L b f).2.2.2.2.1,(L b f).2.2.2.2.2⟩
  .refine cO (T.item (cH X s H scope h2.objs.size (fh own h) fp) rfl rfl rfl hc i [] s5 j H5 (fun _ _=>False) I5 (O fr5 (by simp)) st5 go) fun r s6 ⟨u,hr,h6⟩=> ?_
   subst hr;refine cO h6 fun _ s7 ⟨x,H7,I7,r7,y7,B,fr7⟩=> ?_;have I7':=I7.pinned (fp:=fp) (O fr7 (by simp)) (T.obj _ _ B);have t:∀{a:St} {Q:Hp} {R:SK},Inv (cH X s H scope h2.objs.size (fh own h) fp) ([]++su fp s7.heap) a Q R->N a Q->∃m,m<n/\∃i σ' H',Inv (cH X s H scope h2.objs.size (fh own h) fp) [] σ' H' R/\tn i R.heap/\(∀b∈fp,H' b=Sw)/\W i m σ' H':=fun{a Q R} I8 n8=>by obtain⟨m',hm,w8⟩:=hN a Q n8;refine⟨m',hm,i+1,a,Q,I8.Yw,T.keep _ _ _ B fun b f o e=>(I8.pin (b,o) (T8 _ (T8 _ (kA f e)))).1,fun b f=> ?_,w8⟩;obtain⟨o,e,d⟩:=T.obj _ _ B b f;exact(I8.pin (b,o) (T8 _ (T8 _ (kA f e)))).2.1
   refine cO (hg _ _ s7 j H7 x u _ I7' r7 (step x H7 y7)) fun _ R ⟨a,Q,I8,q8⟩=> ?_;refine cO (ht _ _ R a Q _ I8 q8) fun ok s9 ⟨H9,I9,q9⟩=> ?_;cases ok with
   |false=>rw[if_neg S9] at q9⊢;exact t I9 q9
   |true=>rw[if_pos rfl] at q9⊢;refine cO (he _ _ s9 a H9 _ (I9.XH _) q9) fun y s10 ⟨U,H10,aio,r10,ys,hy,hl,q10⟩=> ?_;have I10:=aio.Wm;refine cO (gB _ s10 a H10 (.ref s.heap.objs.size) [U] (.ref s.heap.objs.size) [y] (fun _ H11=>N a H11) I10 rfl (.cons r10 .nil) ⟨_,ys,U,rfl,rfl,hy,hl,q10⟩) fun _ s11 ⟨v11,H11,I11,_,q11⟩=> ?_;exact t I11 q11
 exact codeAny_compStart_list (l _ rfl) (T.self _ 0 _ _ _ (T.keep 0 _ _ st fun b _ o e=>kp b o e) (l _ rfl))
def sH (own:List Str) (h:List (Str×Nat)) (b:TI) (g:TG) (f:TT) (e:TE):TE:=fun Y H Q=>b Y H fun J a=>∀D,a D=Sw->Ht J D (jy own h Y) g f e a fun i=>Q (.ref D) i
theorem l8 {a:VJ} (ok:X.Ok) (h:∀y∈a.names,y.2= .free->(X.env.scope.names.lookup y.1=lD .cell\/X.env.scope.names.lookup y.1=lD .free)):∀y∈a.names,y.2= .free->∃c,X.env.cells.lookup y.1=lD c:=
 fun y b e=>ok.has y.1 (h y b e)
theorem HE {a b:VJ} (h:(a.names.all fun y=> !(y.2==Tx.free)||(b.names.lookup y.1==lD Tx.cell)||(b.names.lookup y.1==lD Tx.free))=Sz):
  ∀y∈a.names,y.2= .free->(b.names.lookup y.1=lD .cell\/b.names.lookup y.1=lD .free):=fun y f e=>by
 have q:=UU.mp h y f;rw[e] at q
 simpa using q
theorem cI {elt tg iter:T4} {ifs:List T4} {scope:VJ} {pos:Pos} (own:List Str) (fv:List (Str×Nat)) {wi:TI} {g:TG} {tc:TT} {te:TE} (hc:X.calm=Sz) (hi:PI X tg iter wi)
  (hg:∀s H C fp,PG (cH X s H scope C (fh own fv) fp) tg g) (ht:∀s H C fp,ES (cH X s H scope C (fh own fv) fp) ifs tc) (he:∀s H C fp,PE (cH X s H scope C (fh own fv) fp) elt te) (hfv:aar X scope fv)
  (ab9:(scope.names.all fun y=> !(y.2==Tx.free)||(X.env.scope.names.lookup y.1==lD Tx.cell)||(X.env.scope.names.lookup y.1==lD Tx.free))=Sz)
  (Wi:scope.kind= .function:=by rfl) (hnd:(scope.names.map (·.1)).Nodup:=by left)
  (Y9:∀y∈scope.names,y.2= .local->scope.names.lookup y.1=lD .local:=by left) (hs:∀x,foldedSetIterable iter X.env x=pure x:=by intro _;rfl):
  PE X (.ListComp elt [⟨tg,iter,ifs,0⟩] scope pos) (sH own fv wi g tc te):=by
 intro Z s Y H Q I h;have hfr:=HE ab9;rw[ai4];refine Xu (use:=Sw) rfl hs (oh (l8 I.ok hfr)) Wi Y9 (cO (hi Z s Y H _ I h) fun xv s1 h1=>cO h1 fun itv s2 h2=> ?_);obtain⟨it,fp,tn,J,H2,e,I2,T,st2,f2,R⟩:=h2;subst e;refine nW I2 hc Wi hnd (l8 I.ok hfr) hfv T st2 f2 (fun C=>hg _ _ C _) (fun C=>ht _ _ C _) (W:=fun _ _ _=>False) (fun C=>he _ _ C _) (fun _ _ _ _ _ z=>z.elim) (Fin:=fun D H'=>Q (.ref D) H') R ?_;intro D C H' s' I' fin hm hC hn;obtain⟨m,hm⟩:=hm;refine⟨m,hm,fun h' hs'=>⟨.ref D,H',?_,rfl,fin⟩⟩;obtain⟨f0,f1,_,f3,f4,f5⟩:=I2.ZO hC hn;exact I'.turned (t':=s'.toks) (fun b o hb q=>(hs'.2 b hb).trans q) f0 f1 f3 f4 f5
theorem oU {elt tg iter:T4} {ifs:List T4} {scope:VJ} {pos afq py:Pos} {i:Nat} {x:Str} (own:List Str) (fv:List (Str×Nat)) {wi:TI} {g:TG} {tc:TT} {te:TE} (hN:X.N.Nodup) (hi':X.N[i]? =lD x) (hx:X.env.scope.names.lookup x=lD .local)
  (hc:X.calm=Sz) (hi:PI X tg iter wi)
  (hg:∀s H C fp,PG (cH X s H scope C (fh own fv) fp) tg g) (ht:∀s H C fp,ES (cH X s H scope C (fh own fv) fp) ifs tc) (he:∀s H C fp,PE (cH X s H scope C (fh own fv) fp) elt te) (hfv:aar X scope fv)
  (ab9:(scope.names.all fun y=> !(y.2==Tx.free)||(X.env.scope.names.lookup y.1==lD Tx.cell)||(X.env.scope.names.lookup y.1==lD Tx.free))=Sz)
  (hsw:UB (.ListComp elt [⟨tg,iter,ifs,0⟩] scope pos) (lD (.Name x py)) afq.line X.env=pure Sz:=by rfl)
  (Wi:scope.kind= .function:=by rfl) (hnd:(scope.names.map (·.1)).Nodup:=by left)
  (Y9:∀y∈scope.names,y.2= .local->scope.names.lookup y.1=lD .local:=by left) (hs:∀x,foldedSetIterable iter X.env x=pure x:=by intro _;rfl):
  PS X (.Assign [.Name x py] (.ListComp elt [⟨tg,iter,ifs,0⟩] scope pos) afq) (IE (sH own fv wi g tc te) (vM i)):=by
 intro Z s Y H D I h;have hfr:=HE ab9;rw[exec_Assign_Name_used _ _ _ _ hsw];refine Sv (Vd (Sv ?_));show wpAny _ _ (do let _<-comprehension (.ListComp elt [⟨tg,iter,ifs,0⟩] scope pos) scope X.env _ (newList []) SN (eval iter X.env) (lD (assign (.Name x py) X.env))) _ _ s;refine Sv (cO (Xu (use:=lD (assign (.Name x py) X.env)) (Q:=fun _ s'=>SP X Z D .next s') rfl hs (oh (l8 I.ok hfr)) Wi Y9
  (cO (hi Z s Y H _ I h) fun xv s1 h1=>cO h1 fun itv s2 h2=> ?_)) fun _ s' q=>SQ (SQ q))
 obtain⟨it,fp,tn,J,H2,e,I2,T,st2,f2,R⟩:=h2;subst e;refine nW I2 hc Wi hnd (l8 I.ok hfr) hfv T st2 f2 (fun C=>hg _ _ C _) (fun C=>ht _ _ C _) (W:=fun _ _ _=>False) (fun C=>he _ _ C _) (fun _ _ _ _ _ z=>z.elim) (Fin:=fun L H'=>D.nx (Y.set i (lD (.ref L))) H') R ?_;intro L C H' s' I' fin hm hC hn;obtain⟨m,hm⟩:=hm;obtain⟨f0,f1,f2',f3,f4,f5⟩:=I2.ZO hC hn;show wpAny _ _ (assign (.Name x py) X.env (.ref L)) _ _ s';refine aef (vg I' hN hi' (.inl hx) (v:= .ref L) rfl (fun s'' I'' ⟨a,sb,ha⟩=> ?_) (.inr hx));have hCa:C≠a:=by
  rcases ha with z|z
  .rw[z];exact f1
  .exact fun q=>f4 x a z q.symm
 refine⟨m,hm.sameBut sb hCa,fun h' hs'=>⟨_,H',?_,fin⟩⟩;exact I''.turned (t':=s''.toks) (fun b o hb q=>(hs'.2 b hb).trans q) f0 f1 f3 f4 f5
end
def yT (P:Te) (w:TF) (K:Ld) (mg:Str->Option Sx) (base:Heap) (k:Nat) (x:Str) (ps:List Str) (sp:Sp):Prop:=
 ∃(f:SI) (a:Uc),FnOk P w K mg base dS k f a ps sp/\Binds K a ps []/\UH K (.ref f)=Sz/\mg x=lD (.ref f)
theorem gW (C:yT X.prog X.w X.K X.mg X.base k x ps sp) (h:U7 j X.A) (ha:PA X (e::es) t) (a:k<=j:=by decide) (i:Gl X x:=by rfl)
  (n:(x==("__debug__":Str))=SN:=by decide) (l:To (e::es) X.env=(SN,eval e X.env)::To es X.env:=by rfl) (o:(backTo pos (To es X.env)).any (·.1)=SN:=by rfl):
  PE X (.Call (.Name x p) (e::es) [] pos) (l6 sp [] E0 t):=by
 obtain⟨f,q,F,b,g,m⟩:=C;exact C1 F (h.mono a) i m g b .nil Dv ha n l o
section
variable {Z:St} {H:Hp} {Q:VK} {D:Ends}
theorem Po (h:t {D with nx:=u D} Z H):Kt t u D Z H:=h
theorem Os (h:te Z H fun x H1=>g x Z H1 D.nx):IE te g D Z H:=h
theorem Mi {Q:St->Hp->Prop} (h:Q (Z.set i (lD v)) H):vM i v Z H Q:=h
theorem RF (h:Q v H):tC v Z H Q:=h
theorem Ke (h:te Z H fun _ H1=>D.nx Z H1):B7 te D Z H:=h
end
theorem Ov {α:Type} {xs:List α} {i:Int} {v:α} (a:0<=i) (h:xs[i.toNat]? =lD v):mX xs i=lD v:=by have q:=Dg h;rwa [Ym a] at q
theorem UP.tup {K:Ld} (e:UP H H') (h:Xa K H a xs):Xa K H' a xs:=by
 rcases h with(h|⟨o,h⟩)|h
 .exact .inl (.inl (e _ _ h))
 .exact .inl (.inr ⟨o,e _ _ h⟩)
 .exact .inr h
theorem cy (h:H p=Sw) (o:HO):UP H (bJ H p o):=fun b u q=>by rw[aD (b7 q h)];exact q
theorem zZ:Ue "max"=lD (.builtin "max"):=by left
theorem ib:Ue "isinstance"=lD (.builtin "isinstance"):=by left
theorem iR:Ue "len"=lD (.builtin "len"):=by left
theorem za:Ue "sorted"=lD (.builtin "sorted"):=by left
theorem uX:Ue "all"=lD (.builtin "all"):=by left
theorem Qn:Ue "int"=lD (.type "int"):=by left
theorem QL:Ue "str"=lD (.type "str"):=by left
theorem Jb:Ue "list"=lD (.type "list"):=by left
theorem eY:Ue "tuple"=lD (.type "tuple"):=by left
section
variable {X:Cx}
theorem ye:Vx X (.builtin "sorted") (fun xs H Q=>∃(p:SI) (ns:List Int),xs=[.ref p]/\Xp X.K H p (ns.map V.int)/\ns.length<64/\∀(l:SI) (a:List Int),H l=Sw->a.Perm ns->a.Pairwise (·<=·)->Q (.ref l) (bJ H l (.lst (a.map V.int)))):=by
 intro i s C H xs E Q I r h;obtain⟨p,ns,rfl,t,y,q⟩:=h;obtain⟨u,rfl,m⟩:=kE r;cases m;obtain⟨B,rv,pl,G⟩:=I.list t;have v:=rv.length;rw[Sy] at v;refine sorted_ints pl.isList (j4 rv) (by omega) fun f a hi j n=> ?_;obtain⟨e,w⟩:=sortedAll_at s.heap B f;have g:a.length=ns.length:=j.length_eq;have A:f.toList.length=a.length:=hi.length;refine⟨.ref (s.heap.objs.size+1),_,I.laid (t':=s.toks) (o:= .lst (a.map V.int)) (fun b F z=>sortedAll_old z) (Zj _) ?_,rfl,q _ a (I.Up.fresh (Zj _)) j n⟩;refine⟨?_,f.toList,e,jM hi,w⟩;rw[Sy,g];have:(64:Nat)<=SY:=by decide
 omega
end
end L2
namespace L3
open PySem L2
abbrev D:=SG
inductive PV where
 |fz (d:D)
 |ow (ds:List D)
 |pl (i:Nat)
abbrev bq:=List (Option PV)
structure Xc where
 cls:Str
 fs:List (Str×D)
inductive Res (α:Type) where
 |ok (a:α)
 |er (x:Xc)
 |bad
namespace Res
def bind (r:Res α) (f:α->Res β):Res β:=match r with
 | .ok a=>f a
 | .er x=> .er x
 | .bad=> .bad
def TX:Option α->Res α
 |some a=> .ok a
 |none=> .bad
theorem bind_ok (a:α) (f:α->Res β):(Res.ok a).bind f=f a:=rfl
end Res
abbrev cw:=SI->Prop
def de (O:cw) (p:SI):cw:=fun b=>O b\/b=p
def Ir (O:cw) (p:SI):cw:=fun b=>O b/\b≠p
def noO:cw:=fun _=>False
def Ev (O:cw) (H:Hp) (a:cw) (H':Hp):Prop:=∀b o,H b=lD o->¬O b->H' b=lD o/\¬a b
theorem Ev.refl:Ev O H O H:=fun _ _ h n=>⟨h,n⟩
theorem Ev.trans (a:Ev O H O1 H1) (b:Ev O1 H1 O2 H2):Ev O H O2 H2:=fun p o h n=>let⟨h1,n1⟩:=a p o h n;b p o h1 n1
theorem Ev.grow (s:UP H H'):Ev O H O H':=fun b o h n=>⟨s b o h,n⟩
theorem Ev.add (s:UP H H') (a:H p=Sw):Ev O H (de O p) H':=fun b o h n=>⟨s b o h,fun z=>z.elim n fun e=>by subst e;rw[h] at a;cases a⟩
theorem Ev.sub (h:∀b,O' b->O b):Ev O H O' H:=fun b o e n=>⟨e,fun z=>n (h b z)⟩
theorem Ev.mut (a:O p) (u:HO):Ev O H O (bJ H p u):=fun b o h n=>⟨by rw[aD (fun e=>n (by rw[e];exact a))];exact h,n⟩
def WC (K:Ld) (H:Hp) (a:SI) (xs:List V):Prop:=Rd H a (.lst xs)\/∃(b:List Sx) (n:Nat),K.lookup a=lD {cls:= .type "list",data:= .seq b.toArray n}/\xs.length<=SY/\Vals xs b
theorem WC.sq (h:WC K H a xs):Xp K H a xs:=by
 rcases h with h|⟨TV,n,h1,h2,h3⟩
 .exact .inl h
 .exact .inr ⟨_,TV.toArray,n,h1,rfl,rfl,rfl,by rw[S8,<-h3.length];exact h2,by simpa using h3⟩
theorem WC.of (h:H a=lD (.lst xs)):WC K H a xs:= .inl (.inl h)
theorem WC.same (e:UP H H') (h:WC K H a xs):WC K H' a xs:=by
 rcases h with(h|⟨o,h⟩)|h
 .exact .inl (.inl (e _ _ h))
 .exact .inl (.inr ⟨o,e _ _ h⟩)
 .exact .inr h
theorem mI (H:Hp):UP (fun _=>Sw) H:=fun _ _ h=>by cases h
def Y1 (O:cw) (K:Ld) (H:Hp) (a:SI) (xs:List V):Prop:=WC K H a xs/\(O a->WC K (fun _=>Sw) a xs)
def XA (O:cw) (K:Ld) (H:Hp) (a:SI) (xs:List V):Prop:=Xa K H a xs/\(O a->Xa K (fun _=>Sw) a xs)
section
variable {O Z:cw} {K:Ld} {H H':Hp} {a:SI} {xs:List V}
theorem Y1.ev (h:Y1 O K H a xs) (e:Ev O H Z H'):Y1 Z K H' a xs:=by
 obtain⟨h,k⟩:=h;by_cases z:O a
 .exact⟨WC.same (mI H') (k z),fun _=>k z⟩
 .rcases h with(h|⟨o,h⟩)|h
  .obtain⟨f,b⟩:=e a _ h z;exact⟨.inl (.inl f),fun y=>absurd y b⟩
  .obtain⟨f,b⟩:=e a _ h z;exact⟨.inl (.inr ⟨o,f⟩),fun y=>absurd y b⟩
  .exact⟨.inr h,fun _=> .inr h⟩
theorem XA.ev (h:XA O K H a xs) (e:Ev O H Z H'):XA Z K H' a xs:=by
 obtain⟨h,k⟩:=h;by_cases z:O a
 .exact⟨(mI H').tup (k z),fun _=>k z⟩
 .rcases h with(h|⟨o,h⟩)|h
  .obtain⟨f,b⟩:=e a _ h z;exact⟨.inl (.inl f),fun y=>absurd y b⟩
  .obtain⟨f,b⟩:=e a _ h z;exact⟨.inl (.inr ⟨o,f⟩),fun y=>absurd y b⟩
  .exact⟨.inr h,fun _=> .inr h⟩
end
mutual
inductive DV (O:cw) (K:Ld) (H:Hp):V->D->Prop
 |Vh:DV O K H .Vh .none
 |bl (b:Bool):DV O K H (.bl b) (.bool b)
 |int (i:Int):DV O K H (.int i) (.int i)
 |str (x:Str):DV O K H (.str x) (.str x)
 |tup {a:SI} {xs:List V} {ds:List D}:XA O K H a xs->US O K H xs ds->DV O K H (.ref a) (.tuple ds)
 |lst {a:SI} {xs:List V} {ds:List D}:Y1 O K H a xs->US O K H xs ds->DV O K H (.ref a) (.list ds)
inductive US (O:cw) (K:Ld) (H:Hp):List V->List D->Prop
 |nil:US O K H [] []
 |cons {v:V} {vs:List V} {d:D} {ds:List D}:DV O K H v d->US O K H vs ds->US O K H (v::vs) (d::ds)
end
section
variable {O Z:cw} {K:Ld} {H H':Hp}
mutual
theorem DV.ev (e:Ev O H Z H'):∀{v:V} {d:D},DV O K H v d->DV Z K H' v d
 |_,_,.Vh=> .Vh
 |_,_,.bl b=> .bl b
 |_,_,.int i=> .int i
 |_,_,.str x=> .str x
 |_,_,.tup h hs=> .tup (h.ev e) (US.ev e hs)
 |_,_,.lst h hs=> .lst (h.ev e) (US.ev e hs)
theorem US.ev (e:Ev O H Z H'):∀{vs:List V} {ds:List D},US O K H vs ds->US Z K H' vs ds
 |_,_,.nil=> .nil
 |_,_,.cons h hs=> .cons (DV.ev e h) (US.ev e hs)
end
theorem US.length:∀{vs:List V} {ds:List D},US O K H vs ds->vs.length=ds.length
 |_,_,.nil=>rfl
 |_,_,.cons _ t=>by rw[S3,S3,t.length]
theorem US.get:∀{vs:List V} {ds:List D} {i:Nat} {d:D},US O K H vs ds->ds[i]? =lD d->∃v,vs[i]? =lD v/\DV O K H v d
 |_,_,_,_,.nil,e=>by simp at e
 |_,_,0,_,.cons h _,e=>by simp at e;subst e;exact⟨_,rfl,h⟩
 |_,_,i+1,d,.cons _ t,e=>by obtain⟨v,b,a⟩:=US.get t (by simpa using e);exact⟨v,by simpa using b,a⟩
theorem US.adJ:∀{vs:List V} {ds:List D} {i:Nat} {v:V},US O K H vs ds->vs[i]? =lD v->∃d,ds[i]? =lD d/\DV O K H v d
 |_,_,_,_,.nil,e=>by simp at e
 |_,_,0,_,.cons h _,e=>by simp at e;subst e;exact⟨_,rfl,h⟩
 |_,_,i+1,v,.cons _ t,e=>by obtain⟨d,b,a⟩:=US.adJ t (by simpa using e);exact⟨d,by simpa using b,a⟩
theorem US.append:∀{vs ws:List V} {ds es:List D},US O K H vs ds->US O K H ws es->US O K H (vs++ws) (ds++es)
 |_,_,_,_,.nil,h=>h
 |_,_,_,_,.cons h t,g=> .cons h (US.append t g)
theorem US.flat (h:US O K H vs ds):∀n:Nat,US O K H (SS n vs).flatten (SS n ds).flatten
 |0=> .nil
 |n+1=>by rw[Ub,Ub,U4,U4];exact h.append (US.flat h n)
mutual
theorem DV.plain:∀{v:V} {d:D},DV O K H v d->L2.DV K H v d
 |_,_,.Vh=> .Vh
 |_,_,.bl b=> .bl b
 |_,_,.int i=> .int i
 |_,_,.str x=> .str x
 |_,_,.tup h hs=> .tup h.1 (US.plain hs)
 |_,_,.lst h hs=> .lst h.1.sq (US.plain hs)
theorem US.plain:∀{vs:List V} {ds:List D},US O K H vs ds->L2.US K H vs ds
 |_,_,.nil=> .nil
 |_,_,.cons h hs=> .cons (DV.plain h) (US.plain hs)
end
end
def DX (O:cw) (K:Ld) (H:Hp) (v:V):D->Prop
 | .list ds=>∃a xs,v= .ref a/\WC K H a xs/\US O K H xs ds
 |d=>DV O K H v d
theorem DV.x (h:DV O K H v d):DX O K H v d:=by
 cases h with
 |lst h a=>exact⟨_,_,rfl,h.1,a⟩
 |Vh=>exact .Vh
 |bl b=>exact .bl b
 |int i=>exact .int i
 |str x=>exact .str x
 |tup h a=>exact .tup h a
theorem DX.plain (h:DX O K H v d):L2.DV K H v d:=by
 cases d with
 |list ds=>obtain⟨a,xs,rfl,f,e⟩:=h;exact .lst f.sq e.plain
 |none=>exact DV.plain h
 |bool b=>exact DV.plain h
 |int i=>exact DV.plain h
 |str x=>exact DV.plain h
 |tuple ds=>exact DV.plain h
 |dict Ti=>exact DV.plain h
def ZW (K:Ld) (b:Hp) (O:cw) (H:Hp) (v:V):PV->Prop
 | .fz d=>DV O K H v d
 | .ow ds=>∃a vs,v= .ref a/\O a/\b a=Sw/\H a=lD (.lst vs)/\US O K H vs ds
 | .pl _=>False
structure Rl (K:Ld) (B:cw) (H0:Hp) (O:cw) (σ:St) (H:Hp) (ρ:bq):Prop where
 same:UP H0 H
 bo:∀a,B a->O a
 bd:∀a,B a->H0 a≠Sw
 od:∀a,H a=Sw->¬O a
 len:σ.length=ρ.length
 slot:∀(i:Nat) (x:PV),ρ[i]? =lD (lD x)->∃v,σ[i]? =lD (lD v)/\ZW K H0 O H v x
 one:∀(i j:Nat) (ds es:List D) (v:V),ρ[i]? =lD (lD (.ow ds))->ρ[j]? =lD (lD (.ow es))->σ[i]? =lD (lD v)->σ[j]? =lD (lD v)->i=j
def XG (K:Ld) (f:Hp) (O:cw) (b:St) (H:Hp) (ρ:bq) (v:V):PV->Prop
 | .fz d=>DV O K H v d
 | .ow ds=>∃a vs,v= .ref a/\O a/\f a=Sw/\H a=lD (.lst vs)/\US O K H vs ds/\∀(i:Nat) (e:List D),ρ[i]? =lD (lD (.ow e))->b[i]?≠lD (lD (.ref a))
 | .pl i=>b[i]? =lD (lD v)
def mj:PV->Prop
 | .ow _=>False
 |_=>True
def cZ:PV->PV
 | .ow ds=> .fz (.list ds)
 |p=>p
section
variable {K:Ld} {B O X:cw} {Z H H':Hp} {Y:St} {ρ ρ':bq} {v:V}
theorem ZW.grow (s:UP H H') (h:ZW K Z O H v x):ZW K Z O H' v x:=by
 cases x with
 |fz d=>exact DV.ev (Ev.grow s) h
 |ow ds=>obtain⟨a,vs,e,j,g,f,b⟩:=h;exact⟨a,vs,e,j,g,s _ _ f,b.ev (Ev.grow s)⟩
 |pl i=>exact h
theorem Rl.grow (R:Rl K B Z O Y H ρ) (s:UP H H'):Rl K B Z O Y H' ρ:=
 ⟨R.same.trans s,R.bo,R.bd,fun a h=>R.od a (s.free h),R.len,fun i x h=>let⟨v,h1,h2⟩:=R.slot i x h;⟨v,h1,h2.grow s⟩,R.one⟩
theorem Rl.adh (R:Rl K B Z O Y H ρ) (h:H p=Sw):Z p=Sw:=R.same.free h
theorem Rl.add (R:Rl K B Z O Y H ρ) (s:UP H H') (f:H p=Sw) (g:H' p≠Sw):Rl K B Z (de O p) Y H' ρ:=by
 refine⟨R.same.trans s,fun a h=> .inl (R.bo a h),R.bd,fun a h z=>z.elim (R.od a (s.free h)) fun e=>g (by rw[<-e];exact h),R.len,fun i x h=> ?_,R.one⟩;obtain⟨v,j,b⟩:=R.slot i x h;refine⟨v,j,?_⟩;cases x with
 |fz d=>exact DV.ev (Ev.add s f) b
 |ow ds=>obtain⟨a,vs,e,o,n,m,l⟩:=b;exact⟨a,vs,e,.inl o,n,s _ _ m,l.ev (Ev.add s f)⟩
 |pl i=>exact b
theorem Rl.acT (R:Rl K B Z O Y H ρ) (h:Z a=Sw):¬B a:=fun z=>R.bd a z h
theorem Rl.sub (R:Rl K B Z O Y H ρ) {a:SI} (m:Z a=Sw) (h:∀(i:Nat) (es:List D),ρ[i]? =lD (lD (.ow es))->Y[i]?≠lD (lD (.ref a))):Rl K B Z (Ir O a) Y H ρ:=by
 refine⟨R.same,fun b f=>⟨R.bo b f,fun e=>R.acT m (e▸f)⟩,R.bd,fun b f z=>R.od b f z.1,R.len,fun i x j=> ?_,R.one⟩;obtain⟨v,l,g⟩:=R.slot i x j;refine⟨v,l,?_⟩;cases x with
 |fz d=>exact DV.ev (Ev.sub fun b z=>z.1) g
 |ow ds=>obtain⟨b,vs,e,q,p,o,n⟩:=g;subst e;exact⟨b,vs,rfl,⟨q,fun e=>h i ds j (by rw[l,e])⟩,p,o,n.ev (Ev.sub fun b z=>z.1)⟩
 |pl i=>exact g
theorem wZ (h:H a=lD (.lst vs)) (n:¬O a) (hd:US O K H vs ds):DV O K H (.ref a) (.list ds):= .lst ⟨WC.of h,fun z=>absurd z n⟩ hd
theorem iA {pv:PV} (R:Rl K B Z O Y H ρ) (h:XG K Z O Y H ρ v pv):∃X,Ev O H X H/\Rl K B Z X Y H ρ/\XG K Z X Y H ρ v (cZ pv):=by
 cases pv with
 |fz d=>exact⟨O,.refl,R,h⟩
 |pl i=>exact⟨O,.refl,R,h⟩
 |ow ds=>obtain⟨a,vs,rfl,l,j,g,f,e⟩:=h;exact⟨Ir O a,Ev.sub fun b z=>z.1,R.sub j e,wZ g (fun z=>z.2 rfl) (f.ev (Ev.sub fun b z=>z.1))⟩
theorem oz (pv:PV):mj (cZ pv):=by cases pv<;>trivial
theorem XG.keep {pv:PV} (a:mj pv) (e:Ev O H X H') (h:XG K Z O Y H ρ v pv):XG K Z X Y H' ρ' v pv:=by
 cases pv with
 |fz d=>exact DV.ev e h
 |pl i=>exact h
 |ow ds=>exact a.elim
def Sa:Option (Option PV)->Option D
 |some (lD (.fz d))=>lD d
 |some (lD (.ow ds))=>lD (.list ds)
 |_=>Sw
def uA (ρ:bq):PV->Option D
 | .fz d=>lD d
 | .ow ds=>lD (.list ds)
 | .pl i=>Sa ρ[i]?
theorem kI {pv:PV} (R:Rl K B Z O Y H ρ) (h:XG K Z O Y H ρ v pv) (e:uA ρ pv=lD d):DX O K H v d:=by
 cases pv with
 |fz t=>cases e;exact DV.x h
 |ow ds=>cases e;obtain⟨a,vs,rfl,C,A,p,n,z⟩:=h;exact⟨a,vs,rfl,WC.of p,n⟩
 |pl i=>
  have b:Sa ρ[i]? =lD d:=e;have r:=h;cases q:ρ[i]? with
  |none=>rw[q] at b;cases b
  |some o=>
   cases o with
   |none=>rw[q] at b;cases b
   |some x=>
    obtain⟨u,g,f⟩:=R.slot i x q;rw[r] at g;cases g;rw[q] at b;cases x with
    |fz t=>cases b;exact DV.x f
    |ow ds=>cases b;obtain⟨a,vs,rfl,y,w,m,l⟩:=f;exact⟨a,vs,rfl,WC.of m,l⟩
    |pl j=>exact f.elim
def Rz (ρ:bq) (i:Nat):Option (Option PV)->Option (D×bq)
 |some (lD (.fz d))=>lD (d,ρ)
 |some (lD (.ow ds))=>lD (.list ds,ρ.set i (lD (.fz (.list ds))))
 |_=>Sw
def yM (ρ:bq):PV->Option (D×bq)
 | .fz d=>lD (d,ρ)
 | .ow ds=>lD (.list ds,ρ)
 | .pl i=>Rz ρ i ρ[i]?
theorem cB {l:List α} (h:(l.set i x)[j]? =lD y):(j=i/\y=x)\/(j≠i/\l[j]? =lD y):=by
 rw[Uk] at h;by_cases e:i=j
 .rw[if_pos e] at h
  split at h
  .cases h;exact .inl ⟨e.symm,rfl⟩
  .cases h
 .rw[if_neg e] at h;exact .inr ⟨fun z=>e z.symm,h⟩
theorem u8 {pv:PV} (R:Rl K B Z O Y H ρ) (h:XG K Z O Y H ρ v pv) (e:yM ρ pv=lD (d,ρ')):∃X,Ev O H X H/\Rl K B Z X Y H ρ'/\DV X K H v d:=by
 cases pv with
 |fz d'=>cases e;exact⟨O,.refl,R,h⟩
 |ow ds=>cases e;obtain⟨a,vs,rfl,h1,h2,h3,U,T⟩:=h;exact⟨Ir O a,Ev.sub fun b z=>z.1,R.sub h2 T,wZ h3 (fun z=>z.2 rfl) (U.ev (Ev.sub fun b z=>z.1))⟩
 |pl i=>
  have f:Rz ρ i ρ[i]? =lD (d,ρ'):=e;have y:=h;cases q:ρ[i]? with
  |none=>rw[q] at f;cases f
  |some o=>
   cases o with
   |none=>rw[q] at f;cases f
   |some x=>
    obtain⟨u,E,A⟩:=R.slot i x q;rw[y] at E;cases E;rw[q] at f;cases x with
    |fz d'=>cases f;exact⟨O,.refl,R,A⟩
    |pl j=>exact A.elim
    |ow ds=>
     cases f;obtain⟨a,vs,rfl,k1,S,Q,P⟩:=A;have n:Ev O H (Ir O a) H:=Ev.sub fun b z=>z.1;have F:=wZ Q (fun z=>z.2 rfl) (P.ev n);refine⟨Ir O a,n,⟨R.same,fun b m=>⟨R.bo b m,fun e=>R.acT S (e▸m)⟩,R.bd,fun b m z=>R.od b m z.1,by rw[Ug];exact R.len,fun j x l=> ?_,fun j k xs G w t r=> ?_⟩,F⟩
     .rcases cB l with⟨rfl,g⟩|⟨Yx,l⟩
      .cases g;exact⟨_,y,F⟩
      .obtain⟨u,C,p⟩:=R.slot j x l
       refine⟨u,C,?_⟩;cases x with
       |fz d=>exact DV.ev n p
       |pl i=>exact p
       |ow xs=>obtain⟨b,I,rfl,N,M,L,J⟩:=p;exact⟨b,I,rfl,⟨N,fun z=>Yx (R.one j i xs ds (.ref a) l q (by rw[C,z]) y)⟩,M,L,J.ev n⟩
     .rcases cB t with⟨rfl,g⟩|⟨_,t⟩
      .cases g
      .rcases cB r with⟨rfl,g⟩|⟨_,r⟩
       .cases g
       .exact R.one j k xs G w t r
end
def XOk (K:Ld) (B:cw) (H:Hp) (c:Sx) (dx:Option SI) (x:Xc):Prop:=
 (∃a,c= .ref a/\Ta K S4 x.cls=lD (lD (.ref a)))/\∃fs,(∀p,dx=lD p->H p=lD (.xd fs))/\∀f d,x.fs.lookup f=lD d->dx≠Sw/\∃v,fs.lookup f=lD v/\DV B K H v d
def XE (K:Ld) (B:cw) (a:Hp) (E:XK) (x:Xc):Prop:=∀c dx H',UP a H'->XOk K B H' c dx x->E c dx H'
def WR (K:Ld) (E:XK) (B:cw) (b:Hp) (P:α->Prop):Res α->Prop
 | .ok a=>P a
 | .er x=>XE K B b E x
 | .bad=>False
section
variable {K:Ld} {E:XK} {B:cw} {Z:Hp}
theorem WR.bind (h:WR K E B Z P (r.bind k)):WR K E B Z (fun a=>WR K E B Z P (k a)) r:=by cases r<;>exact h
theorem WR.TX (h:WR K E B Z P ((Res.TX o).bind k)):∃a,o=lD a/\WR K E B Z P (k a):=by
 cases o with
 |none=>exact h.elim
 |some a=>exact⟨a,rfl,h⟩
theorem WR.imp (h:WR K E B Z P r) (g:∀a,P a->P' a):WR K E B Z P' r:=by
 cases r with
 |ok a=>exact g a h
 |er x=>exact h
 |bad=>exact h
end
abbrev FE:=bq->Res (PV×bq)
abbrev FT:=bq->Res (Bool×bq)
abbrev FA:=bq->Res (List PV×bq)
def EO (K:Ld) (E:XK) (t:TE) (f:FE):Prop:=
 ∀(B:cw) (b:Hp) (O:cw) (a:St) (H:Hp) (ρ:bq) (Q:VK),Rl K B b O a H ρ->WR K E B b (fun r=>∀O' v H',Ev O H O' H'->Rl K B b O' a H' r.2->XG K b O' a H' r.2 v r.1->Q v H') (f ρ)->t a H Q
def TTO (K:Ld) (E:XK) (t:TT) (f:FT):Prop:=
 ∀(B:cw) (b:Hp) (O:cw) (a:St) (H:Hp) (ρ:bq) (Q:Bool->Hp->Prop),Rl K B b O a H ρ->WR K E B b (fun r=>∀O' H',Ev O H O' H'->Rl K B b O' a H' r.2->Q r.1 H') (f ρ)->t a H Q
def AO (K:Ld) (E:XK) (t:TA) (f:FA):Prop:=
 ∀(B:cw) (b:Hp) (O:cw) (a:St) (H:Hp) (ρ:bq) (Q:List V->Hp->Prop),Rl K B b O a H ρ->WR K E B b (fun r=>∀O' vs H',Ev O H O' H'->Rl K B b O' a H' r.2->Paired (fun v pv=>XG K b O' a H' r.2 v pv/\mj pv) vs r.1->Q vs H') (f ρ)->t a H Q
inductive RV where
 |fz (d:D)
 |ow (ds:List D)
def RV.pv:RV->PV
 | .fz d=> .fz d
 | .ow ds=> .ow ds
def Fin (O:cw) (K:Ld) (H:Hp) (Q:VK):RV->Prop
 | .fz d=>∀v H',UP H H'->DV O K H' v d->Q v H'
 | .ow ds=>∀p vs H',UP H H'->H p=Sw->H' p=lD (.lst vs)->US (de O p) K H' vs ds->Q (.ref p) H'
def qL (O:cw) (H:Hp):Prop:=∀a,H a=Sw->¬O a
section
variable {K:Ld} {E:XK} {B O X:cw} {Y H H':Hp} {Z:St} {ρ ρ':bq} {v:V}
theorem nO (R:Rl K B Y O Z H ρ) (h:∀X v H',Ev O H X H'->Rl K B Y X Z H' ρ->XG K Y X Z H' ρ v rv.pv->Q v H'):Fin O K H Q rv:=by
 cases rv with
 |fz d=>exact fun v H' s f=>h O v H' (Ev.grow s) (R.grow s) f
 |ow ds=>intro p vs H' s b e f;refine h (de O p) (.ref p) H' (Ev.add s b) (R.add s b (by rw[e];simp)) ⟨p,vs,rfl,.inr rfl,R.adh b,e,f,fun i r hi z=> ?_⟩;obtain⟨u,g,a,m,l,q,o,j,n⟩:=R.slot i _ hi;rw[z] at g;cases g;cases l;rw[b] at j;cases j
theorem Fin.new (hd:US O K H vs ds) (h:Fin O K H Q (.ow ds)):∀p,H p=Sw->Q (.ref p) (bJ H p (.lst vs)):=fun p a=>
 h p vs _ (cy a _) a aR (hd.ev (Ev.add (cy a _) a))
theorem Fin.acL (hd:US O K H vs ds) (b:qL O H) (h:Fin O K H Q (.fz (.tuple ds))):∀p,H p=Sw->Q (.ref p) (bJ H p (.tup vs)):=fun p a=>
 h (.ref p) _ (cy a _) (.tup ⟨Xa.of aR,fun z=>absurd z (b p a)⟩ (hd.ev (Ev.grow (cy a _))))
theorem Fin.at (h:Fin O K H Q (.fz d)) (a:DV O K H v d):Q v H:=h v H (UP.refl H) a
def BV (ρ:bq) (i:Nat):Option (Option PV)->Res (PV×bq)
 |some (lD (.fz d))=> .ok (.fz d,ρ)
 |some (lD (.ow _))=> .ok (.pl i,ρ)
 |_=> .bad
def aa (i:Nat):FE:=fun ρ=>BV ρ i ρ[i]?
theorem au:EO K E (zM i) (aa i):=by
 intro B Y O Z H ρ Q R w;unfold aa at w;cases q:ρ[i]? with
 |none=>rw[q] at w;exact w.elim
 |some o=>
  cases o with
  |none=>rw[q] at w;exact w.elim
  |some x=>
   rw[q] at w;obtain⟨v,a,b⟩:=R.slot i x q;cases x with
   |fz d=>exact⟨v,a,w O v H .refl R b⟩
   |ow ds=>exact⟨v,a,w O v H .refl R a⟩
   |pl j=>exact w.elim
def pC (d:D):FE:=fun ρ=> .ok (.fz d,ρ)
theorem Ab (h:∀O H,DV O K H v d):EO K E (tC v) (pC d):=fun B Y O Z H ρ Q R w=>w O v H .refl R (h O H)
theorem bx:EO K E (tC (.int i)) (pC (.int i)):=Ab fun _ _=> .int i
theorem GY:EO K E (tC (.bl b)) (pC (.bool b)):=Ab fun _ _=> .bl b
theorem pW:EO K E (tC (.str x)) (pC (.str x)):=Ab fun _ _=> .str x
theorem sB:EO K E (tC .Vh) (pC .none):=Ab fun _ _=> .Vh
def oi (K:Ld) (r:R2) (f:D->D->Option RV):Prop:=∀(O:cw) (H:Hp) (x y:V) (dx a:D) (rv:RV) (Q:VK),qL O H->DX O K H x dx->DX O K H y a->f dx a=lD rv->Fin O K H Q rv->r x y H Q
def aN (f:D->D->Option RV) (fa fb:FE):FE:=fun ρ=>(fa ρ).bind fun a=>(fb a.2).bind fun b=>(Res.TX (uA b.2 (cZ a.1))).bind fun dx=>(Res.TX (uA b.2 b.1)).bind fun e=>(Res.TX (f dx e)).bind fun rv=> .ok (rv.pv,b.2)
theorem b5 (u:oi K r f) (ha:EO K E ta fa) (z:EO K E tb fb):EO K E (PH r ta tb) (aN f fa fb):=by intro B Y O Z H ρ Q R w;refine ha B Y O Z H ρ _ R (w.bind.imp fun a j U x T F J t=> ?_);obtain⟨N,C,R2,q⟩:=iA J t;refine z B Y N Z T a.2 _ R2 (j.bind.imp fun b e M y S i g p=> ?_);have h:=q.keep (oz a.1) i (ρ':=b.2);obtain⟨dx,m,e⟩:=e.TX;obtain⟨G,l,e⟩:=e.TX;obtain⟨rv,n,e⟩:=e.TX;refine u M S x y dx G rv Q g.od (kI g h m) (kI g p l) n (nO g fun L v P A I o=> ?_);exact e L v P (F.trans (C.trans (i.trans A))) I o
def RL (K:Ld) (r:V->Hp->VK->Prop) (f:D->Option RV):Prop:=∀(O:cw) (H:Hp) (x:V) (dx:D) (rv:RV) (Q:VK),qL O H->DX O K H x dx->f dx=lD rv->Fin O K H Q rv->r x H Q
def EZ (f:D->Option RV) (fa:FE):FE:=fun ρ=>(fa ρ).bind fun a=>(Res.TX (uA a.2 a.1)).bind fun dx=>(Res.TX (f dx)).bind fun rv=> .ok (rv.pv,a.2)
theorem FJ (l:RL K r f) (ha:EO K E ta fa):EO K E (RT r ta) (EZ f fa):=by intro B Y O Z H ρ Q R w;refine ha B Y O Z H ρ _ R (w.bind.imp fun a b q x u n e j=> ?_);obtain⟨dx,g,b⟩:=b.TX;obtain⟨rv,h,b⟩:=b.TX;exact l q u x dx rv Q e.od (kI e j g) h (nO e fun p v t m o i=>b p v t (n.trans m) o i)
def RB:D->Option Bool
 | .bool b=>lD b
 |_=>Sw
theorem Oj (h:DX O K H x d) (e:RB d=lD b):x= .bl b:=by cases d<;>cases e;cases h;rfl
def aJ (fa:FE):bq->Res (Bool×bq):=fun ρ=>(fa ρ).bind fun a=>(Res.TX (uA a.2 a.1)).bind fun d=>(Res.TX (RB d)).bind fun b=> .ok (b,a.2)
theorem iS (ha:EO K E ta fa):TTO K E (C7 ta) (aJ fa):=by intro B Y O Z H ρ Q R w;refine ha B Y O Z H ρ _ R (w.bind.imp fun a e l x m j f i=> ?_);obtain⟨d,g,e⟩:=e.TX;obtain⟨b,h,e⟩:=e.TX;exact⟨b,Oj (kI f i g) h,e l m j f⟩
theorem Ds (ha:EO K E ta fa):TTO K E (tB ta) (aJ fa):=iS ha
def AC (fa fb:FT):FT:=fun ρ=>(fa ρ).bind fun a=>if a.1=Sz then fb a.2 else .ok (SN,a.2)
def z8 (fa fb:FT):FT:=fun ρ=>(fa ρ).bind fun a=>if a.1=Sz then .ok (Sz,a.2) else fb a.2
def nw (fa:FT):FT:=fun ρ=>(fa ρ).bind fun a=> .ok (!a.1,a.2)
theorem TTO.next (h:TTO K E t f) (R:Rl K B Y O1 Z H1 ρ) (a:Ev O H O1 H1) (w:WR K E B Y (fun r=>∀X H',Ev O H X H'->Rl K B Y X Z H' r.2->Q r.1 H') (f ρ)):t Z H1 Q:=
 h B Y O1 Z H1 ρ Q R (w.imp fun r q X H' b e=>q X H' (a.trans b) e)
theorem EO.next (h:EO K E t f) (R:Rl K B Y O1 Z H1 ρ) (b:Ev O H O1 H1) (w:WR K E B Y (fun r=>∀X v H',Ev O H X H'->Rl K B Y X Z H' r.2->XG K Y X Z H' r.2 v r.1->Q v H') (f ρ)):t Z H1 Q:=
 h B Y O1 Z H1 ρ Q R (w.imp fun r q X v H' e g a=>q X v H' (b.trans e) g a)
theorem K6 (m:TTO K E t f) (l:TTO K E u g):TTO K E (OY t u) (AC f g):=by
 intro B Y O Z H ρ Q R w;refine m B Y O Z H ρ _ R (w.bind.imp fun a e n o h i=> ?_);obtain⟨b,j⟩:=a;cases b with
 |true=>exact l.next i h e
 |false=>exact e n o h i
theorem Ay (m:TTO K E t f) (l:TTO K E u g):TTO K E (RD t u) (z8 f g):=by
 intro B Y O Z H ρ Q R w;refine m B Y O Z H ρ _ R (w.bind.imp fun a e n o h i=> ?_);obtain⟨b,j⟩:=a;cases b with
 |true=>exact e n o h i
 |false=>exact l.next i h e
theorem wT (e:TTO K E t f):TTO K E (Nq t) (nw f):=by intro B Y O Z H ρ Q R w;exact e B Y O Z H ρ _ R (w.bind.imp fun a b i j g h=>b i j g h)
def cV:FT:=fun ρ=> .ok (Sz,ρ)
theorem dH:TTO K E IL cV:=fun B Y O Z H ρ Q R w=>w O H .refl R
def xK (fa fb:FE):FE:=fun ρ=>(aJ fa ρ).bind fun a=>if a.1=Sz then fb a.2 else .ok (.fz (.bool SN),a.2)
theorem xB (ha:EO K E ta fa) (j:EO K E tb fb):EO K E (Gp ta tb) (xK fa fb):=by
 intro B Y O Z H ρ Q R w;refine iS ha B Y O Z H ρ (fun c e=>if c=Sz then tb Z e Q else Q (.bl SN) e) R (w.bind.imp fun a f l e g h=> ?_);obtain⟨b,i⟩:=a;cases b with
 |true=>exact j.next h g f
 |false=>exact f l _ e g h (.bl SN)
def tV (f g:D->D->Option RV) (fa fb h:FE):FE:=fun ρ=>(fa ρ).bind fun a=>(fb a.2).bind fun b=>(Res.TX (uA b.2 (cZ a.1))).bind fun dx=>(Res.TX (uA b.2 (cZ b.1))).bind fun j=>
 (Res.TX (f dx j)).bind fun rv=>match rv with
  | .fz (.bool Sz)=>(h b.2).bind fun c=>(Res.TX (uA c.2 (cZ b.1))).bind fun e=>(Res.TX (uA c.2 c.1)).bind fun i=>(Res.TX (g e i)).bind fun rv=> .ok (rv.pv,c.2)
  | .fz (.bool SN)=> .ok (.fz (.bool SN),b.2)
  |_=> .bad
theorem yz (hr:oi K r f) (q:oi K r' g) (ha:EO K E ta fa) (hb:EO K E tb fb) (hc:EO K E tc fc):EO K E (G9 r r' ta tb tc) (tV f g fa fb fc):=by
 intro B Y O Z H ρ Q R w;refine ha B Y O Z H ρ _ R (w.bind.imp fun a N O1 x H1 J R1 p1=> ?_);obtain⟨O2,I,R2,p2⟩:=iA R1 p1;refine hb B Y O2 Z H1 a.2 _ R2 (N.bind.imp fun b e O3' y M u C o=> ?_);obtain⟨j,i,m,F⟩:=iA C o;have i:=u.trans i;have p:=p2.keep (oz a.1) i (ρ':=b.2);obtain⟨dx,T,e⟩:=e.TX;obtain⟨dy,S,e⟩:=e.TX;obtain⟨rv,qf,e⟩:=e.TX;refine hr j M x y dx dy rv _ m.od (kI m p T) (kI m F S) qf ?_;cases rv with
 |ow ds=>exact e.elim
 |fz d=>
  intro v H' s dv;cases dv with
  |bl k=>
   refine⟨k,rfl,?_⟩;have L:=m.grow s;have t:Ev j M j H':=Ev.grow s;cases k with
   |false=>exact e j _ H' (J.trans (I.trans (i.trans t))) L (.bl SN)
   |true=>rw[if_pos rfl];refine hc B Y j Z H' b.2 _ L (WR.imp (WR.bind e) fun c h O5 z H5 G l p5=> ?_);obtain⟨A,n,h⟩:=h.TX;obtain⟨dz,P,h⟩:=h.TX;obtain⟨rv,U,h⟩:=h.TX;refine q O5 H5 y z A dz rv Q l.od (kI l (F.keep (oz b.1) (t.trans G)) n) (kI l p5 P) U (nO l fun O6 v H6 e6 R6 p6=> ?_);exact h O6 v H6 (J.trans (I.trans (i.trans (t.trans (G.trans e6))))) R6 p6
  |_=>exact e.elim
def ay:FA:=fun ρ=> .ok ([],ρ)
def ae (fa:FE) (e:FA):FA:=fun ρ=>(fa ρ).bind fun a=>(e a.2).bind fun b=> .ok (cZ a.1::b.1,b.2)
theorem bp:AO K E lY ay:=fun B Y O Z H ρ Q R w=>w O [] H .refl R .nil
theorem aH (ha:EO K E ta fa) (m:AO K E tr fr):AO K E (gP ta tr) (ae fa fr):=by intro B Y O Z H ρ Q R w;refine ha B Y O Z H ρ _ R (w.bind.imp fun a h z x y o q l=> ?_);obtain⟨t,n,R2,j⟩:=iA q l;refine m B Y t Z y a.2 _ R2 (h.bind.imp fun b g r f u e p i=> ?_);exact g r (x::f) u (o.trans (n.trans e)) p (.cons ⟨j.keep (oz a.1) e,oz a.1⟩ i)
def yA (ρ:bq):List PV->Option (List D)
 |[]=>lD []
 |p::r=>match uA ρ p with
  |some d=>(match yA ρ r with
   |some ds=>lD (d::ds)
   |none=>Sw)
  |none=>Sw
theorem Bl (R:Rl K B Y O Z H ρ):∀{vs:List V} {ps:List PV} {ds:List D},Paired (fun v pv=>XG K Y O Z H ρ v pv/\mj pv) vs ps->yA ρ ps=lD ds->Paired (DX O K H) vs ds
 |_,_,_,.nil,e=>by cases e;exact .nil
 |_,_,_,.cons (l₂:=ps) (b:=p) h t,e=>by
  unfold yA at e;cases q:uA ρ p with
  |none=>rw[q] at e;cases e
  |some d=>
   rw[q] at e;dsimp only at e;cases q2:yA ρ ps with
   |none=>rw[q2] at e;cases e
   |some a=>rw[q2] at e;cases e;exact .cons (kI R h.1 q) (Bl R t q2)
def rm (ρ:bq):List PV->Option (List D×bq)
 |[]=>lD ([],ρ)
 |p::r=>match yM ρ p with
  |some (d,ρ1)=>(match rm ρ1 r with
   |some (ds,ρ2)=>lD (d::ds,ρ2)
   |none=>Sw)
  |none=>Sw
theorem tY:∀{vs:List V} {ps:List PV} {ds:List D} {O:cw} {ρ ρ':bq},Rl K B Y O Z H ρ->Paired (fun v pv=>XG K Y O Z H ρ v pv/\mj pv) vs ps->rm ρ ps=lD (ds,ρ')->∃X,Ev O H X H/\Rl K B Y X Z H ρ'/\US X K H vs ds
 |_,_,_,O,_,_,R,.nil,e=>by cases e;exact⟨O,.refl,R,.nil⟩
 |_,_,_,O,ρ,ρ',R,.cons (l₁:=vs) (l₂:=ps) (b:=p) h t,e=>by
  unfold rm at e;cases q:yM ρ p with
  |none=>rw[q] at e;cases e
  |some r=>
   obtain⟨d,a⟩:=r;rw[q] at e;dsimp only at e;cases q2:rm a ps with
   |none=>rw[q2] at e;cases e
   |some m=>obtain⟨o,j⟩:=m;rw[q2] at e;cases e;obtain⟨A,i,y,w⟩:=u8 R h.1 q;have l:Paired (fun v pv=>XG K Y A Z H a v pv/\mj pv) vs ps:=Paired.W0 t fun v pv ⟨n,f⟩=>⟨n.keep f i,f⟩;obtain⟨z,g,R2,u⟩:=tY y l q2;exact⟨z,i.trans g,R2,.cons (w.ev g) u⟩
abbrev FN:=List D->Res RV
def qM (K:Ld) (n:Nat) (F:FN):Sp:=fun vs H Q E=>vs.length=n/\∃(B:cw) (ds:List D),(∀a,B a->H a≠Sw)/\US B K H vs ds/\WR K E B H (Fin B K H Q) (F ds)
def cP (fa:FA):FE:=fun ρ=>(fa ρ).bind fun a=>(Res.TX (rm a.2 a.1)).bind fun b=>if b.1.length<=1000 then .ok (.fz (.tuple b.1),b.2) else .bad
def di (fa:FA):FE:=fun ρ=>(fa ρ).bind fun a=>(Res.TX (rm a.2 a.1)).bind fun b=>if b.1.length<=1000 then .ok (.ow b.1,b.2) else .bad
theorem AQ (h:n<=1000):n<=SY:=TJ h (by decide)
theorem xZ (ha:AO K E ta fa):EO K E (Og ta) (cP fa):=by
 intro B Y O Z H ρ Q R w;refine ha B Y O Z H ρ _ R (w.bind.imp fun a g u vs y m o i=> ?_);obtain⟨⟨ds,f⟩,q,b⟩:=g.TX;obtain⟨t,l,R2,e⟩:=tY o i q;dsimp only at b;by_cases hn:ds.length<=1000
 .rw[if_pos hn] at b;refine⟨by rw[e.length];exact AQ hn,Fin.acL e R2.od (nO R2 fun p v r j n h=>b p v r (m.trans (l.trans j)) n h)⟩
 .rw[if_neg hn] at b;exact b.elim
theorem jV (ha:AO K E ta fa):EO K E (QD ta) (di fa):=by
 intro B Y O Z H ρ Q R w;refine ha B Y O Z H ρ _ R (w.bind.imp fun a g u vs y m o i=> ?_);obtain⟨⟨ds,f⟩,q,b⟩:=g.TX;obtain⟨t,l,R2,e⟩:=tY o i q;dsimp only at b;by_cases hn:ds.length<=1000
 .rw[if_pos hn] at b;refine⟨by rw[e.length];exact AQ hn,Fin.new e (nO R2 fun p v r j n h=>b p v r (m.trans (l.trans j)) n h)⟩
 .rw[if_neg hn] at b;exact b.elim
def G5 (K:Ld) (r:List V->Hp->VK->Prop) (f:List D->Option RV):Prop:=∀(O:cw) (H:Hp) (xs:List V) (ds:List D) (rv:RV) (Q:VK),qL O H->Paired (DX O K H) xs ds->f ds=lD rv->Fin O K H Q rv->r xs H Q
def fq (f:List D->Option RV) (fa:FA):FE:=fun ρ=>(fa ρ).bind fun a=>(Res.TX (yA a.2 a.1)).bind fun ds=>(Res.TX (f ds)).bind fun rv=> .ok (rv.pv,a.2)
theorem gx (l:G5 K r f) (ha:AO K E ta fa):EO K E (GV r ta) (fq f fa):=by intro B Y O Z H ρ Q R w;refine ha B Y O Z H ρ _ R (w.bind.imp fun a g t vs y n e j=> ?_);obtain⟨ds,q,b⟩:=g.TX;obtain⟨rv,h,b⟩:=b.TX;exact l t y vs ds rv Q e.od (Bl e j q) h (nO e fun p v u m o i=>b p v u (n.trans m) o i)
end
theorem xF {l:List α} (h:(l.set i x)[i]? =lD y):i<l.length:=by
 rw[Uk] at h;rw[if_pos rfl] at h;split at h
 .assumption
 .cases h
section
variable {K:Ld} {E:XK} {B O U:cw} {Z H H':Hp} {Y:St} {ρ ρ':bq} {v:V}
theorem Rl.mut {i:Nat} {ds g:List D} {a:SI} {f:List V} (R:Rl K B Z O Y H ρ) (hi:ρ[i]? =lD (lD (.ow ds))) (I:Y[i]? =lD (lD (.ref a))) (J:O a) (L:Z a=Sw) (hd:US O K H f g):
  Rl K B Z O Y (bJ H a (.lst f)) (ρ.set i (lD (.ow g))):=by
 have ev:Ev O H O (bJ H a (.lst f)):=Ev.mut J _;refine⟨fun b o e=>by rw[aD (b7 e L)];exact R.same b o e,R.bo,R.bd,fun b m=> ?_,by rw[Ug];exact R.len,fun j x l=> ?_,fun j k xs F w X T y r=> ?_⟩
 .by_cases e:b=a
  .rw[e,aR] at m;cases m
  .rw[aD e] at m;exact R.od b m
 .rcases cB l with⟨rfl,ee⟩|⟨Yx,l⟩
  .cases ee;exact⟨_,I,a,f,rfl,J,L,aR,hd.ev ev⟩
  .obtain⟨u,G,q⟩:=R.slot j x l
   refine⟨u,G,?_⟩;cases x with
   |fz d=>exact DV.ev ev q
   |pl i=>exact q
   |ow xs=>obtain⟨b,M,rfl,S,Q,P,N⟩:=q;have C:b≠a:=fun z=>Yx (R.one j i xs ds (.ref a) l hi (by rw[G,z]) I);exact⟨b,M,rfl,S,Q,by rw[aD C];exact P,N.ev ev⟩
 .have own:∀{j:Nat} {xs:List D},(ρ.set i (lD (.ow g)))[j]? =lD (lD (.ow xs))->∃F,ρ[j]? =lD (lD (.ow F)):=fun{j xs} h=>by
   rcases cB h with⟨rfl,_⟩|⟨_,h⟩
   .exact⟨_,hi⟩
   .exact⟨_,h⟩
  obtain⟨p,A⟩:=own X;obtain⟨n,t⟩:=own T;exact R.one j k p n w A t y r
theorem ut (h:n<1000000):n<SY:=Tf h (by decide)
def GH:Option (Option PV)->Option (List D)
 |some (lD (.ow ds))=>lD ds
 |_=>Sw
theorem Dl (h:GH o=lD ds):o=lD (lD (.ow ds)):=by
 unfold GH at h;split at h
 .cases h;rfl
 .cases h
def EL (i:Nat) (fe:FE):FE:=fun ρ=>(Res.TX (GH ρ[i]?)).bind fun _=>(fe ρ).bind fun a=>(Res.TX (yM a.2 a.1)).bind fun b=>(Res.TX (GH b.2[i]?)).bind fun ds=>
 if ds.length<1000000 then .ok (.fz .none,b.2.set i (lD (.ow (ds++[b.1])))) else .bad
theorem Jo (z:EO K E te fe):EO K E (Q0 K "list" wQ (zM i) (gP te lY)) (EL i fe):=by
 intro B Z O Y H ρ Q R w;obtain⟨J,q,w⟩:=w.TX;obtain⟨v,j,a,vs,rfl,T,S,A,P⟩:=R.slot i _ (Dl q);refine⟨_,j,.inl ⟨rfl,_,Xp.of A⟩,?_⟩;refine z B Z O Y H ρ _ R (w.bind.imp fun b e O1 y H1 F L r=> ?_);obtain⟨⟨d,o⟩,p,e⟩:=e.TX;obtain⟨M,C,R2,I⟩:=u8 L r p;obtain⟨ds,f,e⟩:=e.TX;have f:=Dl f;obtain⟨N,n,X,g,G,m,u,t,l⟩:=R2.slot i _ f;subst G;rw[j] at n;cases n;dsimp only at e;by_cases h:ds.length<1000000
 .rw[if_pos h] at e;refine⟨a,g,y,rfl,rfl,t,ut (by rw[l.length];exact h),?_⟩;exact e M .Vh _ (F.trans (C.trans (Ev.mut m _))) (R2.mut f j m u (l.append (.cons I .nil))) .Vh
 .rw[if_neg h] at e;exact e.elim
abbrev FG:=PV->bq->Res bq
abbrev P8:=List D->bq->Res bq
def GO (K:Ld) (E:XK) (g:TG) (f:FG):Prop:=
 ∀(B:cw) (Z:Hp) (O:cw) (Y:St) (H:Hp) (ρ:bq) (v:V) (pv:PV) (Q:St->Hp->Prop),Rl K B Z O Y H ρ->XG K Z O Y H ρ v pv->WR K E B Z (fun ρ'=>∀U σ' H',Ev O H U H'->Rl K B Z U σ' H' ρ'->Q σ' H') (f pv ρ)->g v Y H Q
def Q6 (K:Ld) (E:XK) (g:Oc) (f:P8):Prop:=
 ∀(B:cw) (Z:Hp) (O:cw) (Y:St) (H:Hp) (ρ:bq) (vs:List V) (ds:List D) (Q:St->Hp->Prop),Rl K B Z O Y H ρ->US O K H vs ds->WR K E B Z (fun ρ'=>∀U σ' H',Ev O H U H'->Rl K B Z U σ' H' ρ'->Q σ' H') (f ds ρ)->g vs Y H Q
theorem Rl.afD (R:Rl K B Z O Y H ρ) (h:DV O K H v d):Rl K B Z O (Y.set i (lD v)) H (ρ.set i (lD (.fz d))):=by
 refine⟨R.same,R.bo,R.bd,R.od,by rw[Ug,Ug];exact R.len,fun j x f=> ?_,fun j k xs n w l g b a=> ?_⟩
 .rcases cB f with⟨rfl,e⟩|⟨t,f⟩
  .cases e;have:=xF f;exact⟨v,by rw[Uk,if_pos rfl,if_pos (by rw[R.len];exact this)],h⟩
  .obtain⟨u,r,q⟩:=R.slot j x f;exact⟨u,by rw[Uk,if_neg (fun z=>t z.symm)];exact r,q⟩
 .rcases cB l with⟨rfl,m⟩|⟨p,l⟩
  .cases m
  .rcases cB g with⟨rfl,m⟩|⟨o,g⟩
   .cases m
   .rw[Uk,if_neg (fun z=>p z.symm)] at b;rw[Uk,if_neg (fun z=>o z.symm)] at a;exact R.one j k xs n w l g b a
theorem Rl.ahG (R:Rl K B Z O Y H ρ) (h:XG K Z O Y H ρ v (.ow ds)):Rl K B Z O (Y.set i (lD v)) H (ρ.set i (lD (.ow ds))):=by
 obtain⟨a,vs,rfl,I,G,F,C,p⟩:=h;refine⟨R.same,R.bo,R.bd,R.od,by rw[Ug,Ug];exact R.len,fun j x m=> ?_,fun j k xs o w A l f b=> ?_⟩
 .rcases cB m with⟨rfl,e⟩|⟨M,m⟩
  .cases e;have:=xF m;exact⟨.ref a,by rw[Uk,if_pos rfl,if_pos (by rw[R.len];exact this)],a,vs,rfl,I,G,F,C⟩
  .obtain⟨u,t,r⟩:=R.slot j x m;exact⟨u,by rw[Uk,if_neg (fun z=>M z.symm)];exact t,r⟩
 .rcases cB A with⟨rfl,L⟩|⟨q,g⟩
  .rcases cB l with⟨rfl,J⟩|⟨n,l⟩
   .rfl
   .rw[Uk,if_neg (fun z=>n z.symm)] at b
    rcases cB f with⟨_,e⟩|⟨z,_⟩
    .cases e;exact absurd b (p k o l)
    .exact absurd rfl z
  .have y:=g
   rw[Uk,if_neg (fun z=>q z.symm)] at f;rcases cB l with⟨rfl,L⟩|⟨n,l⟩
   .rcases cB b with⟨_,e⟩|⟨z,_⟩
    .cases e;exact absurd f (p j xs g)
    .exact absurd rfl z
   .rw[Uk,if_neg (fun z=>n z.symm)] at b;exact R.one j k xs o w g l f b
def gN (i:Nat):FG:=fun pv ρ=>match pv with
 | .ow ds=> .ok (ρ.set i (lD (.ow ds)))
 | .fz d=> .ok (ρ.set i (lD (.fz d)))
 | .pl j=>(Res.TX (yM ρ (.pl j))).bind fun b=> .ok (b.2.set i (lD (.fz b.1)))
theorem bM:GO K E (vM i) (gN i):=by
 intro B Z O Y H ρ v pv Q R p w;cases pv with
 |ow ds=>exact w O _ H .refl (R.ahG p)
 |fz d=>exact w O _ H .refl (R.afD p)
 |pl j=>obtain⟨⟨d,a⟩,q,w⟩:=WR.TX (show WR K E B Z _ ((Res.TX (yM ρ (.pl j))).bind fun b=> .ok (b.2.set i (lD (.fz b.1)))) from w);obtain⟨g,e,R2,f⟩:=u8 R p q;exact w g _ H e (R2.afD f)
def Q2:P8:=fun ds ρ=>match ds with
 |[]=> .ok ρ
 |_=> .bad
def PL (f:FG) (g:P8):P8:=fun ds ρ=>match ds with
 |[]=> .bad
 |d::r=>(f (.fz d) ρ).bind fun a=>g r a
theorem Hl:Q6 K E NK Q2:=by
 intro B Z O Y H ρ vs ds Q R a w;cases a with
 |nil=>exact⟨rfl,w O Y H .refl R⟩
 |cons _ _=>exact w.elim
theorem xf (o:GO K E t f) (n:Q6 K E u g):Q6 K E (Fd t u) (PL f g):=by
 intro B Z O Y H ρ vs ds Q R r w;cases r with
 |nil=>exact w.elim
 |cons m l=>rename_i v vs d ds;refine⟨_,_,rfl,o B Z O Y H ρ _ (.fz d) _ R m (WR.imp (WR.bind w) fun e j A b F h y=> ?_)⟩;exact n B Z A b F e _ _ Q y (l.ev h) (j.imp fun i q z a C p R2=>q z a C (h.trans p) R2)
def RQ:D->Option (List D)
 | .tuple ds=>lD ds
 |_=>Sw
theorem Fq (h:DX O K H x d) (e:RQ d=lD ds):∃a xs,x= .ref a/\XA O K H a xs/\US O K H xs ds:=by
 cases d<;>cases e;cases h with
 |tup h b=>exact⟨_,_,rfl,h,b⟩
def gT (n:Nat) (f:P8):FG:=fun pv ρ=>(Res.TX (uA ρ pv)).bind fun d=>(Res.TX (RQ d)).bind fun ds=>if ds.length=n then f ds ρ else .bad
theorem Hg (h:Q6 K E t f):GO K E (OZ K n t) (gT n f):=by
 intro B Z O Y H ρ v pv Q R p w;obtain⟨d,g,w⟩:=w.TX;obtain⟨ds,e,w⟩:=w.TX;obtain⟨a,xs,rfl,i,b⟩:=Fq (kI R p g) e;by_cases hn:ds.length=n
 .rw[if_pos hn] at w;exact⟨a,xs,rfl,i.1,b.length.trans hn,h B Z O Y H ρ xs ds Q R b w⟩
 .rw[if_neg hn] at w;exact w.elim
inductive Fl where
 |nx (ρ:bq)
 |rt (rv:RV)
 |bk (ρ:bq)
 |ct (ρ:bq)
abbrev FS:=bq->Res Fl
def abz (K:Ld) (B:cw) (Z:Hp) (O:cw) (H:Hp) (D:Ends):Fl->Prop
 | .nx ρ'=>∀U σ' H',Ev O H U H'->Rl K B Z U σ' H' ρ'->D.nx σ' H'
 | .bk ρ'=>∀U σ' H',Ev O H U H'->Rl K B Z U σ' H' ρ'->D.bk σ' H'
 | .ct ρ'=>∀U σ' H',Ev O H U H'->Rl K B Z U σ' H' ρ'->D.ct σ' H'
 | .rt rv=>Fin B K Z D.rt rv
def SO (K:Ld) (E:XK) (t:TS) (g:FS):Prop:=
 ∀(B:cw) (Z:Hp) (O:cw) (Y:St) (H:Hp) (ρ:bq) (D:Ends),Rl K B Z O Y H ρ->WR K E B Z (abz K B Z O H D) (g ρ)->t D Y H
theorem abz.ev {D:Ends} (e:Ev O H O1 H1) (h:abz K B Z O H D fl):abz K B Z O1 H1 D fl:=by
 cases fl with
 |nx ρ'=>exact fun U a H' b f=>h U a H' (e.trans b) f
 |bk ρ'=>exact fun U a H' b f=>h U a H' (e.trans b) f
 |ct ρ'=>exact fun U a H' b f=>h U a H' (e.trans b) f
 |rt rv=>exact h
def dB:FS:=fun ρ=> .ok (.nx ρ)
def bW (f g:FS):FS:=fun ρ=>(f ρ).bind fun a=>match a with
 | .nx ρ1=>g ρ1
 |a=> .ok a
def rZ (f:FE):FS:=fun ρ=>(f ρ).bind fun a=> .ok (.nx a.2)
def jg (f:FE) (g:FG):FS:=fun ρ=>(f ρ).bind fun a=>(g a.1 a.2).bind fun b=> .ok (.nx b)
def kO (c:FT) (f g:FS):FS:=fun ρ=>(c ρ).bind fun a=>if a.1=Sz then f a.2 else g a.2
def DQ (ρ:bq):PV->Option RV
 | .fz d=>lD (.fz d)
 | .ow ds=>lD (.ow ds)
 | .pl i=>match ρ[i]? with
  |some (lD (.fz d))=>lD (.fz d)
  |some (lD (.ow ds))=>lD (.ow ds)
  |_=>Sw
def dG (f:FE):FS:=fun ρ=>(f ρ).bind fun a=>(Res.TX (DQ a.2 a.1)).bind fun rv=> .ok (.rt rv)
theorem B8:SO K E Ie dB:=fun B Z O Y H ρ D R w=>w O Y H .refl R
theorem cF (j:SO K E t f) (i:SO K E u g):SO K E (Kt t u) (bW f g):=by
 intro B Z O Y H ρ D R w;refine j B Z O Y H ρ {D with nx:=u D} R (WR.imp (WR.bind w) fun h b=> ?_);cases h with
 |nx a=>exact fun n e o l m=>i B Z n e o a D m (WR.imp b fun h q=>q.ev l)
 |rt rv=>exact b
 |bk a=>exact b
 |ct a=>exact b
theorem CH (h:EO K E t f):SO K E (B7 t) (rZ f):=by intro B Z O Y H ρ D R w;exact h B Z O Y H ρ _ R (w.bind.imp fun a b i x j e g l=>b i Y j e g)
theorem nY (h:EO K E t f) (m:GO K E g fg):SO K E (IE t g) (jg f fg):=by intro B Z O Y H ρ D R w;refine h B Z O Y H ρ _ R (w.bind.imp fun a j r x y o p l=> ?_);exact m B Z r Y y a.2 x a.1 _ p l (j.bind.imp fun e i q b u n R2=>i q b u (o.trans n) R2)
theorem M3 (n:TTO K E c fc) (p:SO K E t f) (o:SO K E u g):SO K E (OL c t u) (kO fc f g):=by
 intro B Z O Y H ρ D R w;refine n B Z O Y H ρ _ R (w.bind.imp fun a h l m i j=> ?_);obtain⟨b,e⟩:=a;cases b with
 |true=>exact p B Z l Y m e D j (WR.imp h fun r q=>q.ev i)
 |false=>exact o B Z l Y m e D j (WR.imp h fun r q=>q.ev i)
theorem N0 {pv:PV} (R:Rl K B Z O Y H ρ) (p:XG K Z O Y H ρ v pv) (e:DQ ρ pv=lD rv) (w:Fin B K Z Q rv):Q v H:=by
 have ow:∀{a:SI} {vs:List V} {ds:List D},O a->Z a=Sw->H a=lD (.lst vs)->US O K H vs ds->Fin B K Z Q (.ow ds)->Q (.ref a) H:=fun{a vs ds} m l g f w=>
  w a vs H R.same l g (f.ev (Ev.sub fun b z=>z.elim (R.bo b) fun e=>by rw[e];exact m))
 have fz:∀{d:D},DV O K H v d->Fin B K Z Q (.fz d)->Q v H:=fun{d} h w=>w v H R.same (h.ev (Ev.sub R.bo));cases pv with
 |fz d=>cases e;exact fz p w
 |ow ds=>cases e;obtain⟨a,vs,rfl,m,l,g,f,y⟩:=p;exact ow m l g f w
 |pl i=>
  have t:=p;unfold DQ at e;dsimp only at e;cases q:ρ[i]? with
  |none=>rw[q] at e;cases e
  |some o=>
   cases o with
   |none=>rw[q] at e;cases e
   |some x=>
    obtain⟨u,r,n⟩:=R.slot i x q;rw[t] at r;cases r;rw[q] at e;cases x with
    |fz d=>cases e;exact fz n w
    |ow ds=>cases e;obtain⟨a,vs,rfl,m,l,g,f⟩:=n;exact ow m l g f w
    |pl j=>exact n.elim
theorem iZ (h:EO K E t f):SO K E (Ou t) (dG f):=by intro B Z O Y H ρ D R w;refine h B Z O Y H ρ _ R (w.bind.imp fun a b j x l i g e=> ?_);obtain⟨rv,q,b⟩:=b.TX;exact N0 g e q b
def Ah (K:Ld) (J:It) (O:cw) (H:Hp) (ds:List D):Prop:=∀U H',Ev O H U H'->qL U H'->
 (∀i,i<ds.length->J.go i H'/\∀x H'',J.yld i H' x H''->UP H' H''/\∃d,ds[i]? =lD d/\DV U K H'' x d)/\J.stop ds.length H'
abbrev FI:=bq->Res (List D×bq)
def IO (K:Ld) (E:XK) (b:TI) (e:FI):Prop:=
 ∀(B:cw) (Z:Hp) (O:cw) (Y:St) (H:Hp) (ρ:bq) (a:It->Hp->Prop),Rl K B Z O Y H ρ->WR K E B Z (fun r=>∀U J H',Ev O H U H'->Rl K B Z U Y H' r.2->Ah K J U H' r.1->a J H') (e ρ)->b Y H a
def rj (gt:FG) (b:FS):List D->FS
 |[],ρ=> .ok (.nx ρ)
 |d::r,ρ=>(gt (.fz d) ρ).bind fun a=>(b a).bind fun e=>match e with
  | .nx ρ2=>rj gt b r ρ2
  | .ct ρ2=>rj gt b r ρ2
  | .bk ρ2=> .ok (.nx ρ2)
  | .rt rv=> .ok (.rt rv)
def pQ (e:FI) (gt:FG) (b:FS):FS:=fun ρ=>(e ρ).bind fun a=>rj gt b a.1 a.2
theorem wI (hi:IO K E wi fi) (hg:GO K E g gt) (hb:SO K E tb b):SO K E (OA wi g tb) (pQ fi gt b):=by
 intro B Z O Y H ρ D R w;refine hi B Z O Y H ρ _ R (w.bind.imp fun a N G J X S T Q=> ?_);obtain⟨ds,F⟩:=a;dsimp only at N Q T;refine⟨fun i m f H'=>m=ds.length - i/\i<=ds.length/\∃O2 ρ2,Ev G X O2 H'/\Rl K B Z O2 f H' ρ2/\WR K E B Z (abz K B Z O H D) (rj gt b (ds.drop i) ρ2),⟨_,rfl,T5 _,G,F,.refl,T,N⟩,?_⟩;rintro i m n M ⟨rfl,hi,O2,ρ2,e2,R2,w2⟩;obtain⟨go,o⟩:=Q O2 M e2 R2.od;by_cases z:i<ds.length
 .obtain⟨g1,g2⟩:=go i z
  refine .inr ⟨g1,fun f H'=>i+1<=ds.length/\∃O2 ρ2,Ev G X O2 H'/\Rl K B Z O2 f H' ρ2/\WR K E B Z (abz K B Z O H D) (rj gt b (ds.drop (i+1)) ρ2),fun f H' ⟨h1,h2⟩=>⟨ds.length - (i+1),by omega,rfl,h1,h2⟩,fun x L y=> ?_⟩;obtain⟨P,d,hd,dv⟩:=g2 x L y;have ed:ds.drop i=d::ds.drop (i+1):=by obtain⟨_,q⟩:=SD.mp hd;rw[VD z,q]
  rw[ed] at w2;have e3:Ev O2 M O2 L:=Ev.grow P;refine hg B Z O2 n L ρ2 x (.fz d) _ (R2.grow P) dv (WR.imp (WR.bind w2) fun C w3 O4 A H4 e4 R4=> ?_);have l:=e2.trans (e3.trans e4);refine hb B Z O4 A H4 C _ R4 (WR.imp (WR.bind w3) fun fl u=> ?_);cases fl with
  |nx h=>exact fun t j I p r=>⟨z,t,h,l.trans p,r,u⟩
  |ct h=>exact fun t j I p r=>⟨z,t,h,l.trans p,r,u⟩
  |bk h=>exact fun t j I p r=>u t j I (S.trans (l.trans p)) r
  |rt rv=>exact u
 .have e:i=ds.length:=by omega
  subst e;rw[V1 (SU _)] at w2;exact .inl ⟨o,w2 O2 n M (S.trans e2) R2⟩
def fP:D->Option (List D)
 | .tuple ds=>lD ds
 | .list ds=>lD ds
 |_=>Sw
def FU (K:Ld) (e:TE):TI:=fun Y H R=>e Y H fun x b=>∃a,x= .ref a/\(((∃xs,Xp K b a xs)/\R (Ru K a) b)\/((∃xs,Xa K b a xs)/\R (RK K a) b))
theorem dQ (y:PE X l tl):PI X tg l (FU X.K tl):=by
 intro i s Y H R I h;refine cO (y i s Y H _ I h) fun v g ⟨x,r,f,t,u⟩=> ?_;obtain⟨a,e,q⟩:=u;subst e;cases t;rcases q with⟨⟨xs,j⟩,q⟩|⟨⟨xs,j⟩,q⟩
 .obtain⟨n,rv,p,w⟩:=f.list j
  refine WM p.isList ?_;refine⟨g.heap.objs.size,[g.heap.objs.size],_,_,r,rfl,f.kept fun b o e=>Heap.get?_push_of_some _ e,EA a _,⟨_,Heap.get?_push_size _ rfl,rfl,rfl⟩,fun b m=> ?_,q⟩;have e:b=g.heap.objs.size:=by simpa using m
  subst e;exact f.ZO (SU _) (f.Up.fresh (SU _))
 .obtain⟨n,rv,p,w⟩:=f.tuple j
  refine Yn (show g.heap.IsTuple a n.toArray from p) ?_;refine⟨g.heap.objs.size,[g.heap.objs.size],_,_,r,rfl,f.kept fun b o e=>Heap.get?_push_of_some _ e,Aj a _,⟨_,Heap.get?_push_size _ rfl,rfl,rfl⟩,fun b m=> ?_,q⟩;have e:b=g.heap.objs.size:=by simpa using m
  subst e;exact f.ZO (SU _) (f.Up.fresh (SU _))
theorem Cp (h:Y1 O K H a xs) (hd:US O K H xs ds):Ah K (Ru K a) O H ds:=by intro U H' e n;have f:=h.ev e;have b:=hd.ev e;refine⟨fun i hi=> ?_,⟨xs,f.1.sq,by rw[hd.length];exact SU _⟩⟩;obtain⟨x,l,_⟩:=b.get (SM hi);refine⟨⟨xs,x,f.1.sq,l⟩,?_⟩;rintro y m ⟨rfl,hy⟩;obtain⟨d,j,g⟩:=b.adJ (hy xs f.1.sq);exact⟨UP.refl _,d,j,g⟩
theorem HB (h:XA O K H a xs) (hd:US O K H xs ds):Ah K (RK K a) O H ds:=by intro U H' e n;have f:=h.ev e;have b:=hd.ev e;refine⟨fun i hi=> ?_,⟨xs,f.1,by rw[hd.length];exact SU _⟩⟩;obtain⟨x,l,_⟩:=b.get (SM hi);refine⟨⟨xs,x,f.1,l⟩,?_⟩;rintro y m ⟨rfl,hy⟩;obtain⟨d,j,g⟩:=b.adJ (hy xs f.1);exact⟨UP.refl _,d,j,g⟩
def fu (fe:FE):FI:=fun ρ=>(fe ρ).bind fun a=>(Res.TX (yM a.2 a.1)).bind fun b=>(Res.TX (fP b.1)).bind fun ds=> .ok (ds,b.2)
theorem fL (h:EO K E tl fe):IO K E (FU K tl) (fu fe):=by
 intro B Z O Y H ρ r R w;refine h B Z O Y H ρ _ R (w.bind.imp fun a b t x l i p n=> ?_);obtain⟨⟨d,m⟩,q,b⟩:=b.TX;obtain⟨j,g,R2,o⟩:=u8 p n q;obtain⟨ds,e,b⟩:=b.TX;dsimp only at e;cases o with
 |tup h f=>cases e;exact⟨_,rfl,.inr ⟨⟨_,h.1⟩,b j _ l (i.trans g) R2 (HB h f)⟩⟩
 |lst h f=>cases e;exact⟨_,rfl,.inl ⟨⟨_,h.1.sq⟩,b j _ l (i.trans g) R2 (Cp h f)⟩⟩
 |_=>cases e
def gf (lo:Int) (n:Nat):List D:=(SJ n).map fun(k:Nat)=> .int (lo+(k:Int))
theorem zx:Ah K (QW lo n) O H (gf lo n):=by
 intro U H' e f;have a:(gf lo n).length=n:=by unfold gf;rw[Sy,S0]
 refine⟨fun i hi=> ?_,by show n<=_;rw[a];exact SU _⟩;rw[a] at hi;refine⟨hi,?_⟩;rintro x b ⟨rfl,rfl⟩;exact⟨UP.refl _,.int (lo+i),by unfold gf;rw[SX,abm hi];rfl,.int _⟩
def ku (i:Int):Prop:= -(2^62)<=i/\i<2^62
noncomputable instance (i:Int):Decidable (ku i):=by unfold ku;infer_instance
def ip:List D->Option (List D)
 |[.int j]=>if ku j then lD (gf 0 j.toNat) else Sw
 |_=>Sw
def n9 (f:List D->Option (List D)) (fa:FA):FI:=fun ρ=>(fa ρ).bind fun a=>(Res.TX (yA a.2 a.1)).bind fun ds=>(Res.TX (f ds)).bind fun xs=> .ok (xs,a.2)
theorem jv (h:AO K E ta fa):IO K E (Jx ta) (n9 ip fa):=by
 intro B Z O Y H ρ t R w;refine h B Z O Y H ρ _ R (w.bind.imp fun a e p vs r o g l=> ?_);obtain⟨ds,q,e⟩:=e.TX;obtain⟨xs,b,e⟩:=e.TX;have i:=Bl g l q;unfold ip at b;split at b
 .rename_i j
  split at b
  .rename_i f
   cases b;cases i with
   |cons n m=>cases m;cases n;exact⟨j,rfl,f.1,f.2,e p _ r o g zx⟩
  .cases b
 .cases b
end
section
variable {K:Ld} {E:XK} {B O Y:cw} {X H H':Hp} {Z:St} {ρ ρ':bq} {v:V}
def HJ:Option PV->Option PV
 |some (.fz d)=>lD (.fz d)
 |_=>Sw
def dI (ρ:bq):bq:=ρ.map HJ
theorem Ad {i:Nat} (h:(dI ρ)[i]? =lD (lD x)):∃d,x= .fz d/\ρ[i]? =lD (lD (.fz d)):=by
 unfold dI at h;rw[SX] at h;cases q:ρ[i]? with
 |none=>rw[q] at h;cases h
 |some o=>
  rw[q] at h;have a:=S7 h;unfold HJ at a;split at a
  .cases a;exact⟨_,rfl,rfl⟩
  .cases a
def vE (ρ:bq):List Nat->Option (List D×bq)
 |[]=>lD ([],ρ)
 |j::r=>match yM ρ (.pl j) with
  |some (d,ρ1)=>(match vE ρ1 r with
   |some (c,ρ2)=>lD (d::c,ρ2)
   |none=>Sw)
  |none=>Sw
theorem Es (R:Rl K B X O Z H ρ) (h:yM ρ (.pl i)=lD (d,ρ')):∃v,Z[i]? =lD (lD v):=by
 have a:Rz ρ i ρ[i]? =lD (d,ρ'):=h;cases q:ρ[i]? with
 |none=>rw[q] at a;cases a
 |some o=>
  cases o with
  |none=>rw[q] at a;cases a
  |some x=>obtain⟨v,b,_⟩:=R.slot i x q;exact⟨v,b⟩
theorem zt:∀{f:List Nat} {ds:List D} {O:cw} {ρ ρ':bq},Rl K B X O Z H ρ->vE ρ f=lD (ds,ρ')->∃Y vs,Ev O H Y H/\Rl K B X Y Z H ρ'/\US Y K H vs ds/\f.map (fun j=>(Z[j]?).join)=vs.map lD
 |[],_,O,_,_,R,e=>by cases e;exact⟨O,[],.refl,R,.nil,rfl⟩
 |j::r,_,O,ρ,ρ',R,e=>by
  unfold vE at e;cases q:yM ρ (.pl j) with
  |none=>rw[q] at e;cases e
  |some p=>
   obtain⟨d,a⟩:=p;rw[q] at e;dsimp only at e;cases q2:vE a r with
   |none=>rw[q2] at e;cases e
   |some i=>obtain⟨c,h⟩:=i;rw[q2] at e;cases e;obtain⟨v,b⟩:=Es R q;obtain⟨w,m,t,o⟩:=u8 (pv:= .pl j) R b q;obtain⟨u,vs,g,R2,n,l⟩:=zt t q2;exact⟨u,v::vs,m.trans g,R2,.cons (o.ev g) n,by rw[S6,S6,l,b];rfl⟩
def dU (gt:FG) (ft:FT) (fe:FE):List D->bq->List D->Res (List D)
 |[],_,acc=> .ok acc
 |d::r,ρ,acc=>(gt (.fz d) ρ).bind fun e=>(ft e).bind fun b=>if b.1=Sz then(fe b.2).bind fun a=>(Res.TX (yM a.2 a.1)).bind fun x=>
   if acc.length<1000000 then dU gt ft fe r (dI x.2) (acc++[x.1]) else .bad
  else dU gt ft fe r (dI b.2) acc
def kR:Res α->Res α
 | .er _=> .bad
 |r=>r
def dX (n:Nat) (b:List Nat) (e:FI) (gt:FG) (ft:FT) (fe:FE):FE:=fun ρ=>(e ρ).bind fun a=>(Res.TX (vE a.2 b)).bind fun c=>
 (kR (dU gt ft fe a.1 (SS n Sw++c.1.map fun d=>lD (.fz d)) [])).bind fun xs=> .ok (.ow xs,c.2)
theorem Cm {own:List Str} (h:own.length=n):own.map (fun _=>(Sw:Option V))=SS n Sw:=by
 subst h
 induction own with
 |nil=>rfl
 |cons x r a=>rw[S6,a,S3,Ub]
theorem Cg (h:WR K E B X P (kR r)):∃a,r= .ok a/\P a:=by
 cases r with
 |ok a=>exact⟨a,rfl,h⟩
 |er x=>exact h.elim
 |bad=>exact h.elim
def Qm (K:Ld) (J:It) (O:cw) (H:Hp) (ds:List D):Prop:=∀Y H',Ev O H Y H'->UP H H'->qL Y H'->
 (∀i,i<ds.length->J.go i H'/\∀x H'',J.yld i H' x H''->UP H' H''/\∃d,ds[i]? =lD d/\DV Y K H'' x d)/\J.stop ds.length H'
def RY (K:Ld) (E:XK) (b:TI) (e:FI):Prop:=
 ∀(B:cw) (X:Hp) (O:cw) (Z:St) (H:Hp) (ρ:bq) (a:It->Hp->Prop),Rl K B X O Z H ρ->WR K E B X (fun r=>∀Y J H',Ev O H Y H'->Rl K B X Y Z H' r.2->Qm K J Y H' r.1->a J H') (e ρ)->b Z H a
theorem IO.s (h:IO K E wi fi):RY K E wi fi:=fun B X O Z H ρ f R w=>h B X O Z H ρ f R (w.imp fun r q Y J H' e R a=>q Y J H' e R fun g i b _ n=>a g i b n)
theorem Gk (hn:own.length=n) (hf:fv.map (·.2)=fj)
  (hi:RY K E wi fi) (hg:GO K E0 g gt) (ht:TTO K E0 tc ft) (he:EO K E0 te fe):EO K E (sH own fv wi g tc te) (dX n fj fi gt ft fe):=by
 intro B X O Z H ρ Q R w;refine hi B X O Z H ρ _ R (w.bind.imp fun a w1 O1 J H1 e1 R1 it=> ?_);obtain⟨ds,ρ1⟩:=a;obtain⟨⟨cs,ρ2⟩,qc,w1⟩:=w1.TX;dsimp only at qc it;obtain⟨I,vs,e2,R2,dvs,hvs⟩:=zt R1 qc;obtain⟨xs,qx,w1⟩:=Cg (WR.bind w1);intro l F;have hB:∀{H':Hp},UP H1 H'->H' l≠Sw->∀a,de I l a->H' a≠Sw:=fun{H'} s nd a h z=>h.elim (fun q=>R2.od a (s.free z) q) fun e=>nd (by rw[<-e];exact z);refine⟨fun i m L H'=>m=ds.length - i/\i<=ds.length/\∃(A:List D) (G:List V) (t:bq),UP H1 H'/\H' l=lD (.lst G)/\US (de I l) K H' G A/\L.length=t.length/\(∀(j:Nat) (x:PV),t[j]? =lD (lD x)->∃d u,x=PV.fz d/\L[j]? =lD (lD u)/\DV (de I l) K H' u d)/\dU gt ft fe (ds.drop i) t A= .ok xs,
  ⟨_,rfl,T5 _,[],[],_,cy F _,aR,.nil,?_,fun j x M=> ?_,qx⟩,?_⟩
 .unfold jy;rw[SH,SH,Sy,Sy,TB,Sy,hn,<-dvs.length];have:=congrArg XU hvs;rw[Sy,Sy,<-hf,Sy] at this;omega
 .have hm:fv.map (fun p=>(Z[p.2]?).join)=vs.map lD:=by rw[<-hvs,<-hf,Tj];rfl
  unfold jy;rw[Cm hn,hm];by_cases hj:j<n
  .rw[S1 (by rw[TB];exact hj),Vb,if_pos hj] at M;cases M
  .rw[TC (by rw[TB];omega),TB,SX] at M⊢
   cases qd:cs[j - n]? with
   |none=>rw[qd] at M;cases M
   |some d=>rw[qd] at M;cases M;obtain⟨u,hu,du⟩:=dvs.get qd;exact⟨d,u,rfl,by rw[hu];rfl,du.ev (Ev.add (cy F _) F)⟩
 .rintro i m L H' ⟨rfl,hi,A,G,t,s,hD,dys,hl,hsl,f⟩
  have nD:H' l≠Sw:=by rw[hD];simp
  have no':=fun a z h=>hB s nD a h z;have ev1:=e2.trans (Ev.add s F);obtain⟨go,stop⟩:=it (de I l) H' ev1 s no';by_cases WO:i<ds.length
  .obtain⟨g1,g2⟩:=go i WO
   refine .inr ⟨g1,fun C N=>i+1<=ds.length/\∃(A:List D) (G:List V) (t:bq),UP H1 N/\N l=lD (.lst G)/\US (de I l) K N G A/\C.length=t.length/\(∀(j:Nat) (x:PV),t[j]? =lD (lD x)->∃d u,x=PV.fz d/\C[j]? =lD (lD u)/\DV (de I l) K N u d)/\dU gt ft fe (ds.drop (i+1)) t A= .ok xs,
    fun C N ⟨U,h2⟩=>⟨ds.length - (i+1),by omega,rfl,U,h2⟩,fun x H3 y=> ?_⟩
   obtain⟨s3,d,hd,dv⟩:=g2 x H3 y;have ed:ds.drop i=d::ds.drop (i+1):=by obtain⟨_,q⟩:=SD.mp hd;rw[VD WO,q]
   rw[ed] at f;have hD3:=s3 _ _ hD;have nD3:H3 l≠Sw:=by rw[hD3];simp
   have sv:=s.trans s3;have RC:Rl K (de I l) H3 (de I l) L H3 t:=⟨UP.refl _,fun _ h=>h,hB sv nD3,fun a z h=>hB sv nD3 a h z,hl,fun j x M=>by obtain⟨d,u,rfl,U,h2⟩:=hsl j x M;exact⟨u,U,h2.ev (Ev.grow s3)⟩,fun j k xs G w hj=>by obtain⟨d,u,e,_⟩:=hsl j _ hj;cases e⟩;unfold dU at f;have back:∀{O5:cw} {C:St} {N:Hp} {P:bq} {H6:Hp},Rl K (de I l) H3 O5 C N P->(∀b o,b≠l->N b=lD o->H6 b=lD o)->C.length=(dI P).length/\∀(j:Nat) (x:PV),(dI P)[j]? =lD (lD x)->∃d u,x=PV.fz d/\C[j]? =lD (lD u)/\DV (de I l) K H6 u d:=fun{O5 C N P H6} T k=>by refine⟨by unfold dI;rw[Sy];exact T.len,fun j x M=> ?_⟩;obtain⟨d,rfl,hxx⟩:=Ad M;obtain⟨u,U,h2⟩:=T.slot j _ hxx;refine⟨d,u,rfl,U,DV.ev (fun b o h n=>⟨k b o (fun e=>n (.inr e)) h,n⟩) (DV.ev (Ev.sub T.bo) h2)⟩
   refine hg _ _ _ L H3 t x (.fz d) _ RC dv ?_;cases qg:gt (.fz d) t with
   |er z=>rw[qg] at f;cases f
   |bad=>rw[qg] at f;cases f
   |ok ρ3=>
    rw[qg,Res.bind_ok] at f;intro O4 σ4 H4 e4 R4;refine ht _ _ _ σ4 H4 ρ3 _ R4 ?_;cases qt:ft ρ3 with
    |er z=>rw[qt] at f;cases f
    |bad=>rw[qt] at f;cases f
    |ok b=>
     obtain⟨b,ρ4⟩:=b;rw[qt,Res.bind_ok] at f;intro O5 N e5 T;cases b with
     |false=>rw[if_neg S9] at f⊢;obtain⟨l5,k5⟩:=back T fun b o _ h=>h;refine⟨WO,A,G,dI ρ4,sv.trans T.same,T.same _ _ hD3,?_,l5,k5,f⟩;exact dys.ev (Ev.grow (s3.trans T.same))
     |true=>
      rw[if_pos rfl] at f⊢;refine he _ _ _ σ4 N ρ4 _ T ?_;cases qe:fe ρ4 with
      |er z=>rw[qe] at f;cases f
      |bad=>rw[qe] at f;cases f
      |ok r=>
       rw[qe,Res.bind_ok] at f;intro O6 yv H6 e6 R6 p6;cases q7:yM r.2 r.1 with
       |none=>rw[q7] at f;cases f
       |some xr=>
        obtain⟨xd,ρ7⟩:=xr;rw[q7] at f;obtain⟨O7,e7,R7,dv7⟩:=u8 R6 p6 q7;have hD7:=R7.same _ _ hD3;have S:(if A.length<1000000 then dU gt ft fe (ds.drop (i+1)) (dI ρ7) (A++[xd]) else .bad)= .ok xs:=f;by_cases hl6:A.length<1000000
        .rw[if_pos hl6] at S
         have up:∀b o,b≠l->H6 b=lD o->bJ H6 l (.lst (G++[yv])) b=lD o:=fun b o hb h=>by rw[aD hb];exact h
         have gv:Ev (de I l) H6 (de I l) (bJ H6 l (.lst (G++[yv]))):=fun b o h n=>⟨up b o (fun e=>n (.inr e)) h,n⟩;have aiO:=dys.ev (Ev.grow (s3.trans R7.same));obtain⟨l5,k5⟩:=back R7 up;refine⟨G,hD7,ut (by rw[dys.length];exact hl6),WO,A++[xd],G++[yv],dI ρ7,fun b o h=> ?_,aR,?_,l5,k5,S⟩
         .rw[aD (b7 h F)];exact R7.same _ _ (sv _ _ h)
         .exact(aiO.append (.cons (DV.ev (Ev.sub R7.bo) dv7) .nil)).ev gv
        .rw[if_neg hl6] at S;cases S
  .have e:i=ds.length:=by omega
   subst e;rw[V1 (SU _)] at f;have f:=f;cases f;refine .inl ⟨stop,?_⟩;refine w1 (de I l) (.ref l) H' (e1.trans ev1) (R2.add s F nD) ⟨l,G,rfl,.inr rfl,R2.adh F,hD,dys,fun k es hk z=> ?_⟩;obtain⟨u,U,b,us,e2,g1,g2,g3,g4⟩:=R2.slot k _ hk;rw[z] at U;cases U;cases e2;rw[F] at g3;cases g3
theorem d4 (hn:own.length=n) (e:fv.map (·.2)=fj)
  (hi:IO K E wi fi) (b:GO K E0 g gt) (a:TTO K E0 tc ft) (f:EO K E0 te fe):EO K E (sH own fv wi g tc te) (dX n fj fi gt ft fe):=Gk hn e hi.s b a f
def fA (F:FN) (n:Nat) (fa:FA):FE:=fun ρ=>(fa ρ).bind fun a=>(Res.TX (rm a.2 a.1)).bind fun b=>if b.1.length=n then(kR (F b.1)).bind fun rv=> .ok (rv.pv,b.2) else .bad
theorem lh (ha:AO K E ta fa):EO K E (l6 (qM K n F) [] E0 ta) (fA F n fa):=by
 intro B X O Z H ρ Q R w;refine ha B X O Z H ρ _ R (w.bind.imp fun a g C vs G p t j=> ?_);obtain⟨⟨ds,f⟩,q,b⟩:=g.TX;obtain⟨y,o,R2,e⟩:=tY t j q;dsimp only at b;by_cases hn:ds.length=n
 .rw[if_pos hn] at b;obtain⟨rv,h,b⟩:=Cg (WR.bind b);rw[Tr];refine⟨e.length.trans hn,y,ds,fun a z l=>R2.od a l z,e,?_⟩;rw[h];exact nO R2 fun u v A m r i=>b u v A (p.trans (o.trans m)) r i
 .rw[if_neg hn] at b;exact b.elim
end
def gR (N:Nat) (g:FS):FN:=fun ds=>(g (ds.map (fun d=>lD (.fz d))++SS (N - ds.length) Sw)).bind fun a=>match a with
 | .rt rv=> .ok rv
 | .nx _=> .ok (.fz .none)
 |_=> .bad
theorem Hz (g:∀a,B a->H a≠Sw) (l:US B K H vs ds):Rl K B H B (L2.start N vs) H (ds.map (fun d=>lD (.fz d))++SS (N.length - ds.length) Sw):=by
 have n:=l.length;refine⟨UP.refl _,fun _ h=>h,g,fun a z h=>g a h z,?_,fun i x m=> ?_,fun i j xs r w hi=> ?_⟩
 .unfold L2.start;rw[SH,SH,Sy,Sy,TB,TB,n]
 all_goals
  have b:∀{i:Nat} {x:PV},(ds.map (fun d=>lD (PV.fz d))++SS (N.length - ds.length) Sw)[i]? =lD (lD x)->∃d,x= .fz d/\ds[i]? =lD d:=fun{i x} h=>by
   by_cases hi:i<ds.length
   .rw[S1 (by rw[Sy];exact hi),SX] at h
    cases q:ds[i]? with
    |none=>rw[q] at h;cases h
    |some d=>rw[q] at h;cases h;exact⟨d,rfl,rfl⟩
   .rw[TC (by rw[Sy];omega),Vb] at h;split at h<;>cases h
 .obtain⟨d,rfl,o⟩:=b m;obtain⟨v,f,p⟩:=l.get o;refine⟨v,?_,p⟩;have hi:=(SD.mp f).1;unfold L2.start;rw[S1 (by rw[Sy];exact hi),SX,f];rfl
 .obtain⟨d,e,_⟩:=b hi;cases e
theorem Se (F:VU K x qual st f fd) (S:Vk N ps (aA st)) (hn:ps.length=n)
  (r:∀(a:Sx) (A:Tw) (outer:List Env) (s:SK) (H:Hp) (E:XK),U7 k (A.deeper (Tn qual (aA st) s.heap.objs.size f a))->
   ∃t,YA (fV dS P w K mg base N qual (aA st) f a A outer s H E).nox (cx st) t/\SO K E t g):FnOk P w K mg base dS (k+1) f fd ps (qM K n (gR N.length g)):=by
 refine F.ok S (fun vs H Q E h=>h.1.trans hn.symm) (fun a A outer s H vs Q E l h=> ?_);obtain⟨t,i,j⟩:=r a A outer s H E l;obtain⟨v,B,ds,m,p,h⟩:=h;refine⟨t,i,j B H B _ H _ _ (Hz m p) (WR.imp (WR.bind h) fun o q=> ?_)⟩;cases o with
 |rt rv=>exact q
 |nx ρ=>exact fun y b u e R=>q .Vh u R.same .Vh
 |bk ρ=>exact q.elim
 |ct ρ=>exact q.elim
end L3
namespace L3
open PySem PySem.Spec PyProof.Rows L2
theorem OpR.or (h:OpR X f r) (h':OpR X f r'):OpR X f (fun x y H Q=>r x y H Q\/r' x y H Q):=by
 intro a s b H x y v u Q I g e q;rcases q with q|q
 .exact h a s b H x y v u Q I g e q
 .exact h' a s b H x y v u Q I g e q
theorem Nt (I:Inv X pins σ H s) (h:WC X.K H l xs):xs.length<=SY/\∃(a:List Sx) (n:Nat),Vals xs a/\xs.length=a.length/\s.heap.get? l=lD {cls:= .type "list",data:= .seq a.toArray n}:=by
 rcases h with(h|⟨o,h⟩)|⟨a,n,h1,h2,h3⟩
 .exact I.afw h
 .obtain⟨_,z,a,n,r,e⟩:=I.Up l _ h;exact⟨z,a,n,r,r.length,e⟩
 .exact⟨h2,a,n,h3,h3.length,I.Ye _ _ h1⟩
def MB (K:Ld):R2:=fun x y H Q=>∃l b xs zs,x= .ref l/\y= .ref b/\WC K H l xs/\WC K H b zs/\xs.length+zs.length<=SY/\∀p,H p=Sw->Q (.ref p) (bJ H p (.lst (xs++zs)))
theorem Lj:OpR X (UX .Add) (MB X.K):=by
 intro a s B H x y v u Q I j i h;obtain⟨l,b,xs,C,rfl,rfl,p,t,G,q⟩:=h;cases j;cases i;obtain⟨z,g,n,r,J,e⟩:=Nt I p;obtain⟨E,f,F,m,o,A⟩:=Nt I t;refine PySem.P.add_list e A ?_ (by rw[S8,S8];omega);have w:g.toArray++f.toArray=(g++f).toArray:=by simp
 rw[w];exact⟨.ref _,_,I.ae3 (r.append m) (by rw[SH];omega),rfl,q _ I.fresh⟩
def MF (K:Ld):R2:=fun x y H Q=>∃l k xs,x= .ref l/\y= .int k/\WC K H l xs/\ -(2^63)<=k/\k<2^63/\xs.length*k.toNat<=SY/\
 ∀p,H p=Sw->Q (.ref p) (bJ H p (.lst (SS k.toNat xs).flatten))
theorem LC:OpR X (UX .Mult) (MF X.K):=by
 intro p s P H x y v u Q I G E h;obtain⟨l,k,xs,rfl,rfl,L,N,M,w,q⟩:=h;cases G;obtain⟨t,rfl⟩:=E;obtain⟨z,b,n,r,J,e⟩:=Nt I L;have f:b.toArray.size*k.toNat<=SY:=by rw[S8,<-J];exact w
 have o:¬b.toArray.size*k.toNat>(2^63 - 1)/8:=by
  have:(SY:Nat)<=(2^63 - 1)/8:=by decide
  omega
 have g:¬(!Ua.List.listFitsIndex k)=Sz:=by rw[fitsIndex_both N M];exact S9
 have i:¬Ua.List.listTooLong (b.toArray.size*k.toNat)=Sz:=by rw[FQ f];exact S9
 have j:Xn (fun B A=>B++A) #[] (SS (if b.toArray.isEmpty=Sz then 0 else k.toNat) b.toArray)=(SS k.toNat b).flatten.toArray:=by
  have O:=fun m=>by have:=qG b m [];rw[VS] at this;exact this
  rw[O];cases b with
  |nil=>simp
  |cons a R=>rw[if_neg (by simp)]
 refine abd (by decide) ⟨_,e,rfl⟩ (fun C=>Y5 C k t) noFill_list_mul F.fills_int_mul F.slot_int_rmul repeat_list F.slot_int_index.lookup
  (W6 F.slot_int_rmul (Y5 s k t) F.entry_int_rmul (F.args_int_rmul_2 _ _) (int___rmul___int_list k t l b.toArray n)
   ⟨e,rfl,⟨_,e,rfl⟩,W6 F.slot_list_mul ⟨_,e,rfl⟩ F.entry_list_mul (F.args_list_mul_2 _ _) (AutoListH.list___mul___list_int_3 l b.toArray n k t g o i) ⟨e,?_⟩⟩)
 rw[j];exact⟨.ref _,_,I.ae3 (r.rep k.toNat) (by rw[BT,Nat.mul_comm];exact w),rfl,q _ I.fresh⟩
section
variable {K:Ld}
def fI (g:Int->Int->Int):D->D->Option RV
 | .int i,.int j=>lD (.fz (.int (g i j)))
 |_,_=>Sw
def fB (g:Int->Int->Bool):D->D->Option RV
 | .int i,.int j=>lD (.fz (.bool (g i j)))
 |_,_=>Sw
def NJ (C:Int->Int->Bool) (g:Int->Int->Int):D->D->Option RV
 | .int i,.int j=>if C i j=Sz then lD (.fz (.int (g i j))) else Sw
 |_,_=>Sw
theorem Gs (h:fI g dx dy=lD rv):∃i j,dx= .int i/\dy= .int j/\rv= .fz (.int (g i j)):=by
 unfold fI at h;split at h
 .cases h;exact⟨_,_,rfl,rfl,rfl⟩
 .cases h
theorem MJ:oi K (x8 fun i j=> .int (g i j)) (fI g):=by intro O H x y dx f rv Q n b a e q;obtain⟨i,j,rfl,rfl,rfl⟩:=Gs e;cases b;cases a;exact⟨i,j,rfl,rfl,q.at (.int _)⟩
theorem BG:oi K (x8 fun i j=> .bl (g i j)) (fB g):=by
 intro O H x y dx f rv Q n b a e q;unfold fB at e;split at e
 .cases e;cases b;cases a;exact⟨_,_,rfl,rfl,q.at (.bl _)⟩
 .cases e
theorem sD (h:∀i j,C i j=Sz->C' i j):oi K (rI C' fun i j=> .int (g i j)) (NJ C g):=by
 intro O H x y dx l rv Q n b a e q;unfold NJ at e;split at e
 .split at e
  .rename_i f;cases e;cases b;cases a;exact⟨_,_,rfl,rfl,h _ _ f,q.at (.int _)⟩
  .cases e
 .cases e
theorem Er (h:DX O K H x (.list ds)):∃a xs,x= .ref a/\WC K H a xs/\US O K H xs ds:=h
theorem JE (h:DX O K H x (.tuple ds)):∃a xs,x= .ref a/\XA O K H a xs/\US O K H xs ds:=Fq h rfl
def MC (K:Ld):R2:=fun x y H Q=>x8 (fun i j=> .int (i+j)) x y H Q\/MB K x y H Q\/Nb K x y H Q
theorem oG:OpR X (UX .Add) (MC X.K):=OpR.or PF (OpR.or Lj Kh)
def d5:D->D->Option RV
 | .int i,.int j=>lD (.fz (.int (i+j)))
 | .list xs,.list ys=>if xs.length+ys.length<=1000000 then lD (.ow (xs++ys)) else Sw
 | .tuple xs,.tuple ys=>if xs≠[]/\xs.length+ys.length<=1000000 then lD (.fz (.tuple (xs++ys))) else Sw
 |_,_=>Sw
theorem CQ (h:n<=1000000):n<=SY:=TJ h (by decide)
theorem US.ne (h:US O K H vs ds):vs=[]↔ds=[]:=by cases h<;>simp
theorem pd:oi K (MC K) d5:=by
 intro O H x y dx r rv Q n m l e q;unfold d5 at e;split at e
 .cases e;cases m;cases l;exact .inl ⟨_,_,rfl,rfl,q.at (.int _)⟩
 .split at e
  .rename_i h;cases e;obtain⟨a,xs,rfl,i,f⟩:=Er m;obtain⟨b,j,rfl,o,g⟩:=Er l;exact .inr (.inl ⟨a,b,xs,j,rfl,rfl,i,o,CQ (by rw[f.length,g.length];exact h),Fin.new (f.append g) q⟩)
  .cases e
 .split at e
  .rename_i h;cases e;obtain⟨a,xs,rfl,i,f⟩:=JE m;obtain⟨b,j,rfl,o,g⟩:=JE l;refine .inr (.inr ⟨a,b,xs,j,rfl,rfl,i.1,o.1,fun z=>h.1 (f.ne.mp z),CQ (by rw[f.length,g.length];exact h.2),fun z=> ?_,fun _=>Fin.acL (f.append g) n q⟩);have p:=g.ne.mp z;subst p;rw[Tr] at q;exact q.at (.tup i f)
  .cases e
 .cases e
def Io (K:Ld):R2:=fun x y H Q=>rI acW (fun i j=> .int (i*j)) x y H Q\/MF K x y H Q
theorem KB:OpR X (UX .Mult) (Io X.K):=OpR.or OJ LC
def hG (i:Int):Bool:=decide (-(2^64)<i/\i<2^64)
theorem sF (h:hG i=Sz): -(2^64)<i/\i<2^64:=of_decide_eq_true h
def Bo:D->D->Option RV
 | .int i,.int j=>if(hG i||hG j)=Sz then lD (.fz (.int (i*j))) else Sw
 | .list xs,.int k=>if xs.length*k.toNat<=1000000/\ -(2^63)<=k/\k<2^63 then lD (.ow (SS k.toNat xs).flatten) else Sw
 |_,_=>Sw
theorem L5:oi K (Io K) Bo:=by
 intro O H x y dx j rv Q n g f e q;unfold Bo at e;split at e
 .split at e
  .rename_i b
   cases e;cases g;cases f;refine .inl ⟨_,_,rfl,rfl,?_,q.at (.int _)⟩;rcases(Wt _ _).mp b with z|z
   .exact .inl (sF z)
   .exact .inr (sF z)
  .cases e
 .split at e
  .rename_i b;cases e;cases f;obtain⟨a,xs,rfl,i,h⟩:=Er g;exact .inr ⟨a,_,xs,rfl,rfl,i,b.2.1,b.2.2,CQ (by rw[h.length];exact b.1),Fin.new (h.flat _) q⟩
  .cases e
 .cases e
def uO:=fI fun i j=>i - j
theorem JF:oi K (x8 fun i j=> .int (i - j)) uO:=MJ
def NG (_ j:Int):Bool:=decide (0<j)
def sA:=NJ NG fun i j=>i % j
theorem JX:oi K (rI (fun _ j=>0<j) fun i j=> .int (i % j)) sA:=sD fun i j h=>of_decide_eq_true h
def OM (_ j:Int):Bool:=decide (0<j/\j<2^128)
def EE:=NJ OM fun i j=>i/j
theorem J6:oi K (rI (fun _ j=>0<j/\j.natAbs.log2<9000) fun i j=> .int (i/j)) EE:=sD fun i j h=>by
 have a:=of_decide_eq_true h;refine⟨a.1,?_⟩;have b:j.natAbs<2^128:=by have:=a.2;omega
 have e:=(Nat.log2_lt (by omega)).mpr b;omega
def zj (i j:Int):Bool:=decide (0<=j/\j<=1000000/\i.natAbs<2^64)
theorem C9 (i j:Int) (h:zj i j=Sz):II i j:=by unfold zj at h;exact(show 0<=j/\j<=1000000/\i.natAbs<2^64 from of_decide_eq_true h)
def Kg:=NJ zj fun i j=>i^j.toNat
theorem Km:oi K (rI II fun i j=> .int (i^j.toNat)) Kg:=sD C9
def Pm:=NJ zj fun i j=>i*2^j.toNat
theorem C6:oi K (rI II fun i j=> .int (i*2^j.toNat)) Pm:=sD C9
def RE (_ j:Int):Bool:=decide (0<=j)
def K9:=NJ RE fun i j=>i/2^j.toNat
theorem CO:oi K (rI (fun _ j=>0<=j) fun i j=> .int (i/2^j.toNat)) K9:=sD fun i j h=>of_decide_eq_true h
def Cw:=fI fun i j=>Ua.bitAnd i j
theorem B6:oi K (x8 fun i j=> .int (Ua.bitAnd i j)) Cw:=MJ
def My:=fB fun i j=>decide (i<j)
def Pb:=fB fun i j=>decide (i<=j)
def GC:=fB fun i j=>decide (j<i)
def PO:=fB fun i j=>decide (j<=i)
theorem Fg:oi K (x8 fun i j=> .bl (decide (i<j))) My:=BG
theorem OD:oi K (x8 fun i j=> .bl (decide (i<=j))) Pb:=BG
theorem A6:oi K (x8 fun i j=> .bl (decide (j<i))) GC:=BG
theorem Ff:oi K (x8 fun i j=> .bl (decide (j<=i))) PO:=BG
def m9 (d:D):Bool:=d.canLay0&&decide (d.depth<=64)
def dC (d e:D):Option RV:=if(m9 d&&e.canLay0)=Sz then lD (.fz (.bool (SG.eqv d e))) else Sw
def uB (d e:D):Option RV:=if(m9 d&&e.canLay0)=Sz then lD (.fz (.bool (!SG.eqv d e))) else Sw
theorem ki:oi K (Mb K SN) dC:=by
 intro O H x y dx g rv Q n f b e q;unfold dC at e;split at e
 .rename_i a;cases e;unfold m9 at a;simp only[Ts,decide_eq_true_eq] at a;exact⟨dx,g,f.plain,b.plain,a.1.1,a.2,a.1.2,q.at (.bl _)⟩
 .cases e
theorem FB:oi K (Mb K Sz) uB:=by
 intro O H x y dx g rv Q n f b e q;unfold uB at e;split at e
 .rename_i a;cases e;unfold m9 at a;simp only[Ts,decide_eq_true_eq] at a;exact⟨dx,g,f.plain,b.plain,a.1.1,a.2,a.1.2,q.at (.bl _)⟩
 .cases e
def uH:D->D->Option RV
 | .none,.none=>lD (.fz (.bool Sz))
 |_,.none=>lD (.fz (.bool SN))
 |_,_=>Sw
def tE:D->D->Option RV
 | .none,.none=>lD (.fz (.bool SN))
 |_,.none=>lD (.fz (.bool Sz))
 |_,_=>Sw
theorem IV (h:DX O K H x d) (hd:d≠ .none):x≠ .Vh:=by
 cases d with
 |none=>exact absurd rfl hd
 |list ds=>obtain⟨a,xs,rfl,_⟩:=Er h;simp
 |tuple ds=>obtain⟨a,xs,rfl,_⟩:=JE h;simp
 |bool b=>cases h;simp
 |int b=>cases h;simp
 |str b=>cases h;simp
 |dict b=>cases h
theorem K7:oi K (fun x y H Q=>y= .Vh/\Q (.bl (decide (x= .Vh))) H) uH:=by
 intro O H x y dx g rv Q n b a e q;unfold uH at e;split at e
 .cases e;cases b;cases a;exact⟨rfl,q.at (.bl _)⟩
 .rename_i f;cases e;cases a;refine⟨rfl,?_⟩;rw[decide_eq_false (IV b f)];exact q.at (.bl _)
 .cases e
theorem BM:oi K (fun x y H Q=>y= .Vh/\Q (.bl (!decide (x= .Vh))) H) tE:=by
 intro O H x y dx g rv Q n b a e q;unfold tE at e;split at e
 .cases e;cases b;cases a;exact⟨rfl,q.at (.bl _)⟩
 .rename_i f;cases e;cases a;refine⟨rfl,?_⟩;rw[decide_eq_false (IV b f)];exact q.at (.bl _)
 .cases e
def LH (K:Ld) (neg:Bool):R2:=fun x y H Q=>∃d ds,L2.DV K H x d/\(L2.DV K H y (.list ds)\/L2.DV K H y (.tuple ds))/\d.canLay0=Sz/\SG.canLayAll0 ds=Sz/\d.depth<=64/\Q (.bl (if neg then !(ds.any fun e=>SG.eqv e d) else ds.any fun e=>SG.eqv e d)) H
theorem wq (p:X.A.units+65<cLine):OpR X (UJ .In) (LH X.K SN):=by
 intro g s o H x y v u Q I l e h;obtain⟨d,ds,n,a,j,i,m,q⟩:=h;obtain⟨r,f⟩:=n.reads I l;have hm:min (SG.depthAll ds) d.depth<=64:=TJ (acC _ _) m;rcases a with a|a
 .obtain⟨bs,b⟩:=a.reads I e;exact agZ b f i j (by omega) ⟨.bl _,H,I,rfl,q⟩
 .obtain⟨bs,b⟩:=a.reads I e;exact ag0 b f i j (by omega) ⟨.bl _,H,I,rfl,q⟩
theorem Kf (p:X.A.units+65<cLine):OpR X (UJ .NotIn) (LH X.K Sz):=by
 intro g s o H x y v u Q I l e h;obtain⟨d,ds,n,a,j,i,m,q⟩:=h;obtain⟨r,f⟩:=n.reads I l;have hm:min (SG.depthAll ds) d.depth<=64:=TJ (acC _ _) m;rcases a with a|a
 .obtain⟨bs,b⟩:=a.reads I e;exact ag1 b f i j (by omega) ⟨.bl _,H,I,rfl,q⟩
 .obtain⟨bs,b⟩:=a.reads I e;exact ag2 b f i j (by omega) ⟨.bl _,H,I,rfl,q⟩
def K8 (d e:D):Option RV:=match fP e with
 |some ds=>if(m9 d&&SG.canLayAll0 ds)=Sz then lD (.fz (.bool (ds.any fun e=>SG.eqv e d))) else Sw
 |none=>Sw
def xI (d e:D):Option RV:=match fP e with
 |some ds=>if(m9 d&&SG.canLayAll0 ds)=Sz then lD (.fz (.bool (!ds.any fun e=>SG.eqv e d))) else Sw
 |none=>Sw
theorem E8 (a:DX O K H y e) (h:fP e=lD ds):L2.DV K H y (.list ds)\/L2.DV K H y (.tuple ds):=by
 unfold fP at h;split at h
 .cases h;exact .inr a.plain
 .cases h;exact .inl a.plain
 .cases h
theorem wR:oi K (LH K SN) K8:=by
 intro O H x y dx h rv Q n f b e q;unfold K8 at e;split at e
 .rename_i ds g
  split at e
  .rename_i a;cases e;unfold m9 at a;simp only[Ts,decide_eq_true_eq] at a;exact⟨dx,ds,f.plain,E8 b g,a.1.1,a.2,a.1.2,q.at (.bl _)⟩
  .cases e
 .cases e
theorem Lp:oi K (LH K Sz) xI:=by
 intro O H x y dx h rv Q n f b e q;unfold xI at e;split at e
 .rename_i ds g
  split at e
  .rename_i a;cases e;unfold m9 at a;simp only[Ts,decide_eq_true_eq] at a;exact⟨dx,ds,f.plain,E8 b g,a.1.1,a.2,a.1.2,q.at (.bl _)⟩
  .cases e
 .cases e
def bw (d e:D):Option RV:=match fP d,e with
 |some ds,.int i=>(mX ds i).map .fz
 |_,_=>Sw
theorem Hh (h:US O K H xs ds) (e:mX ds i=lD d):∃v,mX xs i=lD v/\DV O K H v d:=by
 unfold mX at e⊢;rw[h.length];cases q:Jz ds.length i with
 |none=>rw[q] at e;cases e
 |some j=>rw[q] at e;exact h.get e
theorem cR:oi K (Rb K) bw:=by
 intro O H x y dx o rv Q n l m e q;unfold bw at e;split at e
 .rename_i ds i b
  cases m;cases qa:mX ds i with
  |none=>rw[qa] at e;cases e
  |some d=>
   rw[qa] at e;cases e;unfold fP at b;split at b
   .cases b;obtain⟨a,xs,rfl,h,g⟩:=JE l;obtain⟨v,f,j⟩:=Hh g qa;exact .inr (.inl ⟨a,xs,i,v,rfl,rfl,h.1,f,q.at j⟩)
   .cases b;obtain⟨a,xs,rfl,h,g⟩:=Er l;obtain⟨v,f,j⟩:=Hh g qa;exact .inl ⟨a,xs,i,v,rfl,rfl,h.sq,f,q.at j⟩
   .cases b
 .cases e
def tG:D->Option RV
 | .int i=>lD (.fz (.int (-i)))
 |_=>Sw
theorem wD:RL K (rU fun i=> .int (-i)) tG:=by
 intro O H x dx rv Q n a e q;unfold tG at e;split at e
 .cases e;cases a;exact⟨_,rfl,q.at (.int _)⟩
 .cases e
def b4:List D->Option RV
 |[d]=>(match fP d with
  |some ds=>lD (.fz (.int ds.length))
  |none=>Sw)
 |_=>Sw
theorem gb:G5 K (fun xs H Q=>∃x n,xs=[x]/\Ky K x H n/\Q (.int n) H) b4:=by
 intro O H xs ds rv Q n h e q;unfold b4 at e;split at e
 .split at e
  .rename_i i f
   cases e;cases h with
   |cons b g=>
    cases g;unfold fP at f;split at f
    .cases f;obtain⟨a,xs,rfl,b,g⟩:=JE b;exact⟨_,xs.length,rfl,.inr ⟨xs,b.1,rfl⟩,by rw[g.length];exact q.at (.int _)⟩
    .cases f;obtain⟨a,xs,rfl,b,g⟩:=Er b;exact⟨_,xs.length,rfl,.inl ⟨xs,b.sq,rfl⟩,by rw[g.length];exact q.at (.int _)⟩
    .cases f
  .cases e
 .cases e
def fU:List D->Option RV
 |[.tuple ds]=>lD (.fz (.tuple ds))
 |[.list ds]=>lD (.fz (.tuple ds))
 |_=>Sw
theorem eP:G5 K (fun xs H Q=>∃p ys,xs=[.ref p]/\((Xp K H p ys/\∀l,H l=Sw->Q (.ref l) (bJ H l (.tup ys)))\/(Xa K H p ys/\Q (.ref p) H))) fU:=by
 intro O H xs ds rv Q n g e q;unfold fU at e;split at e
 .cases e
  cases g with
  |cons b f=>cases f;obtain⟨a,xs,rfl,b,f⟩:=JE b;exact⟨a,xs,rfl,.inr ⟨b.1,q.at (.tup b f)⟩⟩
 .cases e
  cases g with
  |cons b f=>cases f;obtain⟨a,xs,rfl,b,f⟩:=Er b;exact⟨a,xs,rfl,.inl ⟨b.sq,Fin.acL f n q⟩⟩
 .cases e
def xW:List D->Option RV
 |[d]=>(fP d).map .ow
 |_=>Sw
theorem Ku:G5 K (fun xs H Q=>∃p ys,xs=[.ref p]/\(Xp K H p ys\/Xa K H p ys)/\∀l,H l=Sw->Q (.ref l) (bJ H l (.lst ys))) xW:=by
 intro O H xs ds rv Q n g e q;unfold xW at e;split at e
 .rename_i d
  cases g with
  |cons b f=>
   cases f;cases hs:fP d with
   |none=>rw[hs] at e;cases e
   |some h=>
    rw[hs] at e;cases e;unfold fP at hs;split at hs
    .cases hs;obtain⟨a,xs,rfl,b,f⟩:=JE b;exact⟨a,xs,rfl,.inr b.1,Fin.new f q⟩
    .cases hs;obtain⟨a,xs,rfl,b,f⟩:=Er b;exact⟨a,xs,rfl,.inl b.sq,Fin.new f q⟩
    .cases hs
 .cases e
def vI:List D->Option RV
 |[.int i,.int j]=>lD (.fz (.int (if j>i then j else i)))
 |_=>Sw
theorem JL:G5 K (fun xs H Q=>∃i j,xs=[.int i,.int j]/\Q (.int (if j>i then j else i)) H) vI:=by
 intro O H xs ds rv Q n b e q;unfold vI at e;split at e
 .cases e
  cases b with
  |cons g a=>
   cases a with
   |cons a f=>cases f;cases g;cases a;exact⟨_,_,rfl,q.at (.int _)⟩
 .cases e
end
end L3
namespace PySem
open Sem (wp)
open AutoSeq1 (wpAny_loadPart')
open Builtin Builtin.Str
section
variable {prog:Te} {w:TF} {A:Tw} {E:Sx->SK->Prop} {s:SK}
theorem oE (a:s.heap.IsTupleIter it t i) (j:s.heap.IsTuple t items) (h:items[i]? =lD x)
  (m:∀h',h'.IsTupleIter it t (i+1)->Heap.SameBut it s.heap h'->Q x {s with heap:=h'}):wpAny (model prog w) A (Ua.SmallTypes.nextOf (.ref it)) Q E s:=by
 obtain⟨o,e,l,b⟩:=id a;obtain⟨n,f,_,p,g⟩:=j;unfold Ua.SmallTypes.nextOf;refine Sv (Vi a.typeIs F.slot_tuple_iterator_next
  (VT F.slot_tuple_iterator_next a.typeIs F.entry_tuple_iterator_next ?_ (F.args_tuple_iterator_next_1 _)))
 show wpAny _ _ (field (.ref it) 0>>=_) _ _ s;refine Sv (TH e b rfl ?_);show wpAny _ _ (if(Sx.ref t==Sx.none)=Sz then _ else _) _ _ s;rw[if_neg (show¬((Sx.ref t==Sx.none)=Sz) from S9)];refine Sv (TH e b rfl ?_);refine Sv (UA f g ?_);simp only[Um,h];refine Sv (Uo e b (by simp) (SQ ⟨x,rfl,SQ (m _ ?_ (Heap.SameBut.update ..))⟩));exact⟨_,Heap.get?_update_self _ e (Obj.isFreed_of_fields (Obj.data_mapFields b _)),(Obj.cls_mapFields ..).trans l,by rw[Obj.data_mapFields b];simp[rawInt]⟩
theorem pH (j:A.handled=Sw) (a:s.heap.IsTupleIter it t i) (m:s.heap.IsTuple t items) (l:items[i]? =Sw)
  (n:∀h' e,Heap.ExtBut it s.heap h'->(∃o,h'.get? e=lD o/\o.cls= .type "StopIteration")->E (.ref e) {s with heap:=h'}):wpAny (model prog w) A (Ua.SmallTypes.nextOf (.ref it)) Q E s:=by
 obtain⟨o,f,r,h⟩:=id a;obtain⟨p,b,_,q,g⟩:=m;unfold Ua.SmallTypes.nextOf;refine Sv (Vi a.typeIs F.slot_tuple_iterator_next
  (VT F.slot_tuple_iterator_next a.typeIs F.entry_tuple_iterator_next ?_ (F.args_tuple_iterator_next_1 _)))
 show wpAny _ _ (field (.ref it) 0>>=_) _ _ s;refine Sv (TH f h rfl ?_);show wpAny _ _ (if(Sx.ref t==Sx.none)=Sz then _ else _) _ _ s;rw[if_neg (show¬((Sx.ref t==Sx.none)=Sz) from S9)];refine Sv (TH f h rfl ?_);refine Sv (UA b g ?_);simp only[Um,l];refine Sv (W7 (Sv (Uo f h (by simp) ?_)));refine Sv ?_;simp only[newExc,newTuple];refine Sv (UR ?_ (by size_fits));refine Sv (ZY (by first|rfl|(simp only[firstArgMember];rfl)) ?_);refine UR ?_ (by size_fits);simp only[raiseNew];refine Sv (wpAny_handled ?_)
 first|rw[show A.in1.handled=Sw from j]|rw[j]
 refine Sv (SQ (wpAny_throw ?_));exact n _ _ (((Heap.SameBut.update ..).extBut.push _).push _) ⟨_,Heap.get?_push_size _ rfl,rfl⟩
end
end PySem
namespace L3
open PySem PySem.Spec PyProof.Rows L2
theorem JV (I:Inv X pins σ H s) (l:Xa X.K H a xs) (j:Xa X.K H a ys):xs=ys:=by
 obtain⟨g,i,⟨o,m,_,n,p⟩,_⟩:=I.tuple l;obtain⟨f,h,⟨r,b,_,t,e⟩,_⟩:=I.tuple j;rw[m] at b;cases b;rw[p] at e;have:g=f:=by
  have q:g.toArray=f.toArray:=by injection e
  simpa using q
 subst this;exact i.inj h
theorem D2 {bs:List Bool} (r:Vals (bs.map V.bl) TV) {i:Nat} (h:TV[i]? =lD v):∃b,bs[i]? =lD b/\v= .bool b:=by
 have e:=r.length;rw[Sy] at e;have hi:i<bs.length:=by rw[e];exact(SD.mp h).1
 obtain⟨u,a,f⟩:=r.get (by rw[SX,SM hi];rfl);rw[h] at a;cases a;exact⟨bs[i],SM hi,f⟩
theorem Bv (bs:List Bool):((SJ bs.length).all fun i=>(bs[i]?).getD Sz)=bs.all id:=by
 rw[acD,UU,UU];constructor
 .intro h b a;obtain⟨i,hi,e⟩:=abe.mp a;have:=h i (TL.mpr hi);rw[SM hi,e] at this;exact this
 .intro h i hi;have hi:=TL.mp hi;rw[SM hi];exact h _ (Vc hi)
section
variable {X:Cx}
theorem jS (w:X.calm=Sz):Vx X (.builtin "all") (fun xs H Q=>∃(p:SI) (bs:List Bool),xs=[.ref p]/\Xp X.K H p (bs.map V.bl)/\Q (.bl (bs.all id)) H):=by
 intro f s B H xs C Q I r h;obtain⟨l,bs,rfl,n,q⟩:=h;obtain⟨u,rfl,m⟩:=kE r;cases m;obtain⟨j,rv,pl,G⟩:=I.list n;have a:=rv.length;rw[Sy] at a;have z:l<s.heap.objs.size:=by obtain⟨_,_,e,_⟩:=pl;exact Heap.lt_size e
 refine call_all_walk (WM pl.isList ?_);refine⟨s.heap.objs.size,[s.heap.objs.size,l],[s.heap.objs.size],j.toArray.size,_,_,fun i=>(bs[i]?).getD Sz,rfl,Walks.list (A:=X.A.in1) (I.ok.hd w) _ l (Th z) j.toArray,
  ⟨⟨_,Heap.get?_push_size _ rfl,rfl,rfl⟩,pl.isList.push _⟩,fun i v F L M y g=> ?_,fun J E t=> ?_⟩
 .obtain⟨b,e,rfl⟩:=D2 rv (by simpa using y);simp only[e,YL] at g;exact UQ g
 .rw[S8,<-a,Bv];refine⟨.bl _,H,I.kept fun b o e=>t b o (fun hm=> ?_) (Heap.get?_push_of_some _ e),rfl,q⟩;rw[Td.mp hm] at e;exact Ui _ (Heap.lt_size e)
end
section
variable {K:Ld}
def rC:List D->Option (List Bool)
 |[]=>lD []
 | .bool b::r=>(rC r).map (b::·)
 |_=>Sw
theorem CG:∀{xs:List V} {ds:List D} {bs:List Bool},US O K H xs ds->rC ds=lD bs->xs=bs.map V.bl
 |_,_,_,.nil,e=>by cases e;rfl
 |_,_,bs,.cons (ds:=r) h t,e=>by
  cases h with
  |bl b=>
   have a:(rC r).map (b::·)=lD bs:=e;cases q:rC r with
   |none=>rw[q] at a;cases a
   |some f=>rw[q] at a;cases a;rw[CG t q];rfl
  |_=>cases e
def sr:List D->Option RV
 |[.list ds]=>(rC ds).map fun bs=> .fz (.bool (bs.all id))
 |_=>Sw
theorem pO:G5 K (fun xs H Q=>∃(p:SI) (bs:List Bool),xs=[.ref p]/\Xp K H p (bs.map V.bl)/\Q (.bl (bs.all id)) H) sr:=by
 intro O H xs ds rv Q n g e q;unfold sr at e;split at e
 .rename_i h
  cases qs:rC h with
  |none=>rw[qs] at e;cases e
  |some bs=>
   rw[qs] at e;cases e;cases g with
   |cons f b=>cases b;obtain⟨a,i,rfl,f,b⟩:=Er f;have:=CG b qs;subst this;exact⟨a,bs,rfl,f.sq,q.at (.bl _)⟩
 .cases e
def kM:List D->Option (List Int)
 |[]=>lD []
 | .int b::r=>(kM r).map (b::·)
 |_=>Sw
theorem mH:∀{xs:List V} {ds:List D} {bs:List Int},US O K H xs ds->kM ds=lD bs->xs=bs.map V.int
 |_,_,_,.nil,e=>by cases e;rfl
 |_,_,bs,.cons (ds:=r) h t,e=>by
  cases h with
  |int b=>
   have a:(kM r).map (b::·)=lD bs:=e;cases q:kM r with
   |none=>rw[q] at a;cases a
   |some f=>rw[q] at a;cases a;rw[mH t q];rfl
  |_=>cases e
theorem iH (ns:List Int):kM (ns.map .int)=lD ns:=by
 induction ns with
 |nil=>rfl
 |cons n r a=>show(kM (r.map .int)).map (n::·)=_;rw[a];rfl
def Bj (x:Int):List Int->List Int
 |[]=>[x]
 |y::r=>if x<=y then x::y::r else y::Bj x r
def lU:List Int->List Int
 |[]=>[]
 |x::r=>Bj x (lU r)
theorem pU (x:Int):∀l,(Bj x l).Perm (x::l)
 |[]=>YV _
 |y::r=>by
  unfold Bj;split
  .exact YV _
  .exact((pU x r).cons y).trans (akt x y r)
theorem fK:∀l,(lU l).Perm l
 |[]=>YV _
 |x::r=>(pU x _).trans ((fK r).cons x)
theorem qO (x:Int):∀l:List Int,l.Pairwise (·<=·)->(Bj x l).Pairwise (·<=·)
 |[],_=>by simp[Bj]
 |y::r,h=>by
  unfold Bj;obtain⟨f,g⟩:=WI.mp h;split
  .rename_i a
   refine WI.mpr ⟨fun z b=> ?_,h⟩;rcases Tq.mp b with e|e
   .rw[e];exact a
   .have:=f z e;omega
  .rename_i a
   refine WI.mpr ⟨fun z b=> ?_,qO x r g⟩;rcases Tq.mp ((pU x r).mem_iff.mp b) with e|e
   .rw[e];omega
   .exact f z e
theorem eV:∀l,(lU l).Pairwise (·<=·)
 |[]=>Xs
 |x::r=>qO x _ (eV r)
theorem mz {l m:List Int} (e:l.Perm m) (f:l.Pairwise (·<=·)) (hm:m.Pairwise (·<=·)):l=m:=e.eq_of_pairwise (fun a b _ _ h g=>ac5 h g) f hm
def xq:List D->Option RV
 |[.list ds]=>(match kM ds with
  |some a=>if a.length<64 then lD (.ow ((lU a).map .int)) else Sw
  |none=>Sw)
 |_=>Sw
theorem ue (ns:List Int):US O K H (ns.map V.int) (ns.map .int):=by
 induction ns with
 |nil=>exact .nil
 |cons n r a=>exact .cons (.int n) a
theorem vQ:G5 K (fun xs H Q=>∃(p:SI) (ns:List Int),xs=[.ref p]/\Xp K H p (ns.map V.int)/\ns.length<64/\∀(l:SI) (b:List Int),H l=Sw->b.Perm ns->b.Pairwise (·<=·)->Q (.ref l) (bJ H l (.lst (b.map V.int)))) xq:=by
 intro O H xs ds rv Q n f e q;unfold xq at e;split at e
 .rename_i m
  cases qs:kM m with
  |none=>rw[qs] at e;cases e
  |some ns=>
   rw[qs] at e;dsimp only at e;split at e
   .rename_i g
    cases e;cases f with
    |cons i h=>cases h;obtain⟨a,r,rfl,i,h⟩:=Er i;have:=mH h qs;subst this;refine⟨a,ns,rfl,i.sq,g,fun l b g f j=> ?_⟩;have o:=mz (f.trans (fK ns).symm) j (eV ns);subst o;exact Fin.new (ue _) q l g
   .cases e
 .cases e
end
def RO (K:Ld) (H:Hp) (x:V) (t:String):Prop:=match x with
 | .Vh=>t= "NoneType"
 | .bl _=>t= "bool"
 | .int _=>t= "int"
 | .str _=>t= "str"
 | .ref a=>(t= "list"/\∃xs,Xp K H a xs)\/(t= "tuple"/\∃xs,Xa K H a xs)
 |_=>False
def M6 (K:Ld):List V->Hp->VK->Prop:=fun xs H Q=>∃x n t b,xs=[x,.ty n]/\RO K H x t/\abN K (.type t) (.type n)=lD b/\Q (.bl b) H
theorem mw {X:Cx}:Vx X (.builtin "isinstance") (M6 X.K):=by
 intro j s v H xs C Q I r h;obtain⟨x,n,t,b,rfl,ty,e,q⟩:=h;obtain⟨u,w,rfl,g,A⟩:=B1 r;obtain rfl:w=Sx.type n:=A;have f:∀l,EP X j v Q (.bool b) {s with toks:=l}:=fun l=>⟨.bl b,H,I.tok l,rfl,q⟩;cases x with
 |Vh=>cases(show t= "NoneType" from ty);cases(show u=Sx.none from g);exact VH PySem.W.kitx_none I.Ye True.intro e (fun z=>nomatch z) f
 |bl y=>cases(show t= "bool" from ty);cases(show u=Sx.bool y from g);exact VH PySem.W.kitx_bool I.Ye True.intro e (fun z=>nomatch z) f
 |int i=>cases(show t= "int" from ty);obtain⟨t,q⟩:=(show∃t,u=Sx.int i t from g);cases q;exact VH PySem.W.kitx_int I.Ye True.intro e (fun z=>nomatch z) f
 |str y=>cases(show t= "str" from ty);obtain⟨t,q⟩:=(show∃t,u=Sx.str y t from g);cases q;exact VH PySem.W.kitx_str I.Ye True.intro e (fun z=>nomatch z) f
 |ref a=>
  cases(show u=Sx.ref a from g);rcases ty with⟨rfl,xs,h⟩|⟨rfl,xs,h⟩
  .obtain⟨B,r,⟨o,k,p,m,_⟩,_⟩:=I.list h;exact VH PySem.W.kitx_list I.Ye ⟨_,p,m⟩ e (fun z=>nomatch z) f
  .obtain⟨B,r,⟨o,p,m,_⟩,_⟩:=I.tuple h;exact VH PySem.W.kitx_tuple I.Ye ⟨o,p,m⟩ e (fun z=>nomatch z) f
 |_=>exact(show False from ty).elim
section
variable {K:Ld} {E:XK} {B O O':cw} {H0 H H':Hp} {σ:L2.St} {ρ ρ':bq} {v:V}
def HX:D->Option String
 | .none=>lD "NoneType"
 | .bool _=>lD "bool"
 | .int _=>lD "int"
 | .str _=>lD "str"
 | .list _=>lD "list"
 | .tuple _=>lD "tuple"
 | .dict _=>Sw
def KG (n t:String):Bool:=n==t||(n== "int"&&t== "bool")
theorem Lw {n t:String} (hn:n= "int"\/n= "bool"\/n= "str"\/n= "list"\/n= "tuple") {d:D} (a:HX d=lD t):abN K (.type t) (.type n)=lD (KG n t):=by cases d<;>(cases a;try (rcases hn with rfl|rfl|rfl|rfl|rfl<;>rfl))
theorem QI {x:V} {d:D} {t:String} (h:DX O K H x d) (e:HX d=lD t):RO K H x t:=by
 cases d with
 |none=>cases e;cases h;rfl
 |bool b=>cases e;cases h;rfl
 |int b=>cases e;cases h;rfl
 |str b=>cases e;cases h;rfl
 |dict b=>cases e
 |list ds=>cases e;obtain⟨a,xs,rfl,f,_⟩:=Er h;exact .inl ⟨rfl,xs,f.sq⟩
 |tuple ds=>cases e;obtain⟨a,xs,rfl,f,_⟩:=JE h;exact .inr ⟨rfl,xs,f.1⟩
def mO (n:String) (fa:FE):FE:=fun ρ=>(fa ρ).bind fun a=>(Res.TX (uA a.2 a.1)).bind fun d=>(Res.TX (HX d)).bind fun t=> .ok (.fz (.bool (KG n t)),a.2)
theorem xc {n:String} {e:TE} {fa:FE} (hn:n= "int"\/n= "bool"\/n= "str"\/n= "list"\/n= "tuple") (ha:EO K E e fa):EO K E (GV (M6 K) (gP e (gP (tC (.ty n)) lY))) (mO n fa):=by intro B H0 O σ H ρ Q R w;refine ha B H0 O σ H ρ _ R (w.bind.imp fun a b j x l i g h=> ?_);obtain⟨d,q,b⟩:=b.TX;obtain⟨t,f,b⟩:=b.TX;exact⟨x,n,t,KG n t,rfl,QI (kI g h q) f,Lw hn f,b j _ l i g (.bl _)⟩
end
theorem D0 {P:Te} {w:TF} {K:Ld} {mg l:Str->Option Sx} {k:Nat} {fa a:SI} {fd:Uc} {x:Str} {F:FN} {b:SK} {vs:List Sx} {ns:List Int}
  (p:K.In b.heap) (f:b.heap.Ns S4 mg) (B:b.heap.Ns builtinsNs l) (g:∀x:Str,x≠ "__name__"->l x=Ue x) (i:b.heap.NoLimit) (A:b.gens= #[])
  (ha:b.heap.get? a=lD {cls:= .type "list",data:= .seq vs.toArray}) (hi:IntsAre vs ns) (m:ns.length<=SY) (y:U7 k callerA)
  (J:∀base:Heap,K.In base->base.Ns S4 mg->FnOk P w K mg base dS k fa fd [x] (qM K 1 F)) (j:∀(s:SK) (u:Sx),X4 s fd ⟨[u],[]⟩ [(x,u)])
  (G:F [.list (ns.map .int)]= .ok (.fz (.bool Sz))):
  codeAny (model P w) callerA (.call (.ref fa) ⟨[.ref a],[]⟩) (fun r s'=>r= .ok (.ret (.bool Sz))/\OldK b.heap s'.heap/\s'.os=b.os/\AllBare s'.gens) b:=by
 refine Jf (sp:=fun vs H Q E=>qM K 1 F vs H Q E\/(vs.length=1/\False)) p f B g i A ha hi m y (fun base t q=>(J base t q).imp fun vs H Q E h=> ?_) j (fun H L C=> ?_) fun _ _ _ h=>h
 .rcases h with h|h
  .exact h
  .exact h.2.elim
 .refine .inl ⟨rfl,noO,[.list (ns.map .int)],fun a z=>z.elim,.cons (.lst ⟨?_,fun z=>z.elim⟩ (ue ns)) .nil,?_⟩
  .rcases C with h|⟨o,TV,n,h1,h2,h3,h4,h5,h6⟩
   .exact .inl h
   .have e:=p a o h1;rw[ha] at e;cases e;cases h4;exact .inr ⟨vs,0,h1,by rw[Sy];exact m,by simpa using h6⟩
  .rw[G];exact fun v M s I=>by cases I;rfl
theorem QM {l:abD} {n k:Nat} {q:Te} {i:List Str} {N:(Str->Option Sx)->Heap->Prop} {A:TF->Heap->Prop} {d:DefRec} {K:Params->Ld} {F:FN} {x:Str}
  (hn:l.most=lD n) (m:n<=SY) (r:d.params.defaults=[]) (C:U7 k callerA)
  (J:∀(w:TF) (h:Heap),A w h->(K w.params).In h)
  (O:∀(w:TF) (mg:Str->Option Sx) (fa:SI) (h:Heap),(K w.params).In h->h.Ns S4 mg->mg d.name=lD (.ref fa)->
   ∃fd:Uc,(∀(s:SK) (u:Sx),X4 s fd ⟨[u],[]⟩ [(x,u)])/\∀base:Heap,(K w.params).In base->base.Ns S4 mg->FnOk l.prog w (K w.params) mg base dS k fa fd [x] (qM (K w.params) 1 F))
  (L:∀ns:List Int,ns.length<=n->F [.list (ns.map .int)]= .ok (.fz (.bool Sz))):
  PySem.W.WalkO q i N A l.row.toRowW d [] (fun f vs=>aeQ f vs):=by
 refine Att.attach_call hn r fun w z y mg Q fa o P U M a vs ns G Y R S H p v j e E=> ?_;have B:=J w _ Y;obtain⟨fd,I,t⟩:=O w mg fa _ B G.T.g p;exact D0 B G.T.g G.T.b G.T.builtins G.T.nolimit E v j (TJ e m) C t I (L ns e)
theorem Sc {P:Te} {w:TF} {K:Ld} {mg:Str->Option Sx} {base:Heap} {x a:Str} {b:U6} {f:SI} {fd:Uc} {N ps:List Str} {k n m:Nat} {g:FS} {h:FN} (F:VU K x a b f fd) (S:Vk N ps (aA b)) (hn:ps.length=n) (hm:N.length=m) (i:h=gR m g)
  (j:∀(e:Sx) (A:Tw) (outer:List Env) (s:SK) (H:Hp) (E:XK),U7 k (A.deeper (Tn a (aA b) s.heap.objs.size f e))->
   ∃t,YA (fV dS P w K mg base N a (aA b) f e A outer s H E).nox (cx b) t/\SO K E t g):FnOk P w K mg base dS (k+1) f fd ps (qM K n h):=by
 subst i hm;exact Se F S hn j
abbrev i8 (P:Te) (w:TF) (K:Ld) (mg:Str->Option Sx) (base:Heap) (k:Nat) (x:Str) (ps:List Str) (n:Nat) (F:FN):Prop:=yT P w K mg base k x ps (qM K n F)
end L3
namespace L3
open PySem L2
abbrev nd (n:Nat):D:= .int (n:Int)
def bV (ns:List Nat):List D:=ns.map nd
theorem ir (ns:List Nat):(bV ns).length=ns.length:=by unfold bV;rw[Sy]
theorem Lm (xs a:List Nat):bV (xs++a)=bV xs++bV a:=by unfold bV;rw[Tc]
theorem xY {i:Nat} (h:(bV ns)[i]? =lD d):∃n,ns[i]? =lD n/\d=nd n:=by
 unfold bV at h;rw[SX] at h;cases e:ns[i]? with
 |none=>rw[e] at h;cases h
 |some n=>rw[e] at h;exact⟨n,rfl,(S7 h).symm⟩
theorem aZ (a:α):Res.TX (lD a)= .ok a:=rfl
theorem yw (a:α):kR (Res.ok a)= .ok a:=rfl
theorem z9 (i:Nat) (ρ:bq):aa i ρ=BV ρ i ρ[i]? :=rfl
theorem Hw (ρ:bq) (i:Nat) (d:D):BV ρ i (lD (lD (.fz d)))= .ok (.fz d,ρ):=rfl
theorem Gu (ρ:bq) (i:Nat) (ds:List D):BV ρ i (lD (lD (.ow ds)))= .ok (.pl i,ρ):=rfl
theorem pY (ds:List D):GH (lD (lD (.ow ds)))=lD ds:=rfl
theorem Gf (i:Nat) (d:D) (ρ:bq):gN i (.fz d) ρ= .ok (ρ.set i (lD (.fz d))):=rfl
theorem zQ (b:Bool):RB (.bool b)=lD b:=rfl
theorem lV (ds:List D):b4 [.tuple ds]=lD (.fz (nd ds.length)):=rfl
theorem i4 (ds:List D):b4 [.list ds]=lD (.fz (nd ds.length)):=rfl
theorem pV (i j:Int):My (.int i) (.int j)=lD (.fz (.bool (decide (i<j)))):=rfl
theorem CF (i j:Int):GC (.int i) (.int j)=lD (.fz (.bool (decide (j<i)))):=rfl
theorem zJ (i j:Int):PO (.int i) (.int j)=lD (.fz (.bool (decide (j<=i)))):=rfl
theorem gz (i j:Int):d5 (.int i) (.int j)=lD (.fz (.int (i+j))):=rfl
theorem ul (i j:Int):uO (.int i) (.int j)=lD (.fz (.int (i - j))):=rfl
theorem wm (h:0<j):sA (.int i) (.int j)=lD (.fz (.int (i % j))):=by show(if NG i j=Sz then _ else _)=_;rw[if_pos (show NG i j=Sz from decide_eq_true h)]
theorem Jj (h:0<j/\j<2^128):EE (.int i) (.int j)=lD (.fz (.int (i/j))):=by show(if OM i j=Sz then _ else _)=_;rw[if_pos (show OM i j=Sz from decide_eq_true h)]
theorem Kp (h: -(2^64)<i/\i<2^64):Bo (.int i) (.int j)=lD (.fz (.int (i*j))):=by show(if(hG i||hG j)=Sz then _ else _)=_;rw[if_pos (by rw[show hG i=Sz from decide_eq_true h,V2])]
theorem Kd (h: -(2^64)<j/\j<2^64):Bo (.int i) (.int j)=lD (.fz (.int (i*j))):=by show(if(hG i||hG j)=Sz then _ else _)=_;rw[if_pos (by rw[show hG j=Sz from decide_eq_true h,YM])]
theorem oA (h:ku j):ip [.int j]=lD (gf 0 j.toNat):=by show(if ku j then _ else _)=_;rw[if_pos h]
theorem GG (n:Nat):gf 0 n=bV (SJ n):=by unfold gf bV;apply Uz;intro k _;rw[aeR]
theorem ma (h:n<=1000000):ip [nd n]=lD (bV (SJ n)):=by rw[oA (by unfold ku;omega),GG,Um]
theorem Ho (h:f ρ= .ok (.nx ρ1)):bW f g ρ=g ρ1:=by unfold bW;rw[h];rfl
theorem G1 (h:f ρ= .ok (.rt rv)):bW f g ρ= .ok (.rt rv):=by unfold bW;rw[h];rfl
theorem Rx (h:c ρ= .ok (Sz,ρ1)):kO c f g ρ=f ρ1:=by unfold kO;rw[h];rfl
theorem QG (h:c ρ= .ok (SN,ρ1)):kO c f g ρ=g ρ1:=by unfold kO;rw[h];rfl
theorem Al (h:fi ρ= .ok (ds,ρ1)):pQ fi gt b ρ=rj gt b ds ρ1:=by unfold pQ;rw[h];rfl
theorem Pf (h:j<=1000000/\i.natAbs<2^64):Kg (.int i) (nd j)=lD (.fz (.int (i^j))):=by show(if zj i (j:Int)=Sz then lD (RV.fz (.int (i^((j:Nat):Int).toNat))) else Sw)=_;rw[if_pos (by unfold zj;exact decide_eq_true ⟨by omega,by omega,h.2⟩),Um]
theorem MO:Kg (.int 10) (.int 18)=lD (.fz (.int (10^18))):=Pf ⟨by decide,by decide⟩
def lj (gt:FG) (ft:FT) (fe:FE) (d:D) (ρ:bq):Res (Option D×bq):=(gt (.fz d) ρ).bind fun e=>(ft e).bind fun b=>if b.1=Sz then(fe b.2).bind fun a=>(Res.TX (yM a.2 a.1)).bind fun x=> .ok (lD x.1,dI x.2) else .ok (Sw,dI b.2)
theorem uj (h:lj gt ft fe d ρ= .ok (o,ρ')) (g:acc.length<1000000):dU gt ft fe (d::r) ρ acc=dU gt ft fe r ρ' (acc++o.toList):=by
 unfold lj at h;show(gt (.fz d) ρ).bind _=_;cases q1:gt (.fz d) ρ with
 |er x=>rw[q1] at h;cases h
 |bad=>rw[q1] at h;cases h
 |ok f=>
  rw[q1,Res.bind_ok] at h;rw[Res.bind_ok];cases q2:ft f with
  |er x=>rw[q2] at h;cases h
  |bad=>rw[q2] at h;cases h
  |ok b=>
   obtain⟨b,e⟩:=b;rw[q2,Res.bind_ok] at h;rw[Res.bind_ok];cases b with
   |false=>rw[if_neg S9] at h⊢;cases h;rw[abf,Tr]
   |true=>
    rw[if_pos rfl] at h⊢;cases q3:fe e with
    |er x=>rw[q3] at h;cases h
    |bad=>rw[q3] at h;cases h
    |ok a=>
     rw[q3,Res.bind_ok] at h;rw[Res.bind_ok];cases q4:yM a.2 a.1 with
     |none=>rw[q4] at h;cases h
     |some x=>rw[q4] at h;cases h;show(if acc.length<1000000 then _ else _)=_;rw[if_pos g];rfl
theorem Mc (c:Nat) (h:c<=1000):Pm (.int 1) (nd c)=lD (.fz (nd (2^c))):=by show(if zj 1 (c:Int)=Sz then lD (RV.fz (.int (1*2^((c:Nat):Int).toNat))) else Sw)=_;rw[if_pos (by unfold zj;exact decide_eq_true ⟨by omega,by omega,by decide⟩),Int.one_mul,Um];congr 3
theorem IT (a b:Nat):decide ((a:Int)=(b:Int))=decide (a=b):=by
 by_cases h:a=b
 .rw[decide_eq_true h,decide_eq_true (by rw[h])]
 .rw[decide_eq_false h,decide_eq_false (by omega)]
theorem Jd (a b:Nat):SG.eqv (nd a) (nd b)=decide (a=b):=IT a b
theorem jj (a b:Int):dC (.int a) (.int b)=lD (.fz (.bool (decide (a=b)))):=by rfl
theorem v4 (a b:Int):uB (.int a) (.int b)=lD (.fz (.bool (!decide (a=b)))):=by rfl
theorem Aw (a b:Nat):dC (nd a) (nd b)=lD (.fz (.bool (decide (a=b)))):=by rw[jj,IT]
theorem jY:∀ns:List Nat,SG.canLayAll0 (bV ns)=Sz
 |[]=>rfl
 |n::r=>by show(SG.canLay0 (nd n)&&SG.canLayAll0 (bV r))=Sz;rw[jY r];rfl
theorem jZ:∀ns:List Nat,SG.depthAll (bV ns)=0
 |[]=>rfl
 |n::r=>by show max (SG.depth (nd n)) (SG.depthAll (bV r))=0;rw[jZ r];rfl
theorem Dx:∀xs ys:List Nat,SG.eqvAll (bV xs) (bV ys)=decide (xs=ys)
 |[],[]=>rfl
 |[],_::_=>rfl
 |_::_,[]=>rfl
 |n::r,m::t=>by show(SG.eqv (nd n) (nd m)&&SG.eqvAll (bV r) (bV t))=_;rw[Dx r t,Jd];rw[acD];simp
theorem OV (ns:List Nat):m9 (.list (bV ns))=Sz:=by show(SG.canLayAll0 (bV ns)&&decide (SG.depthAll (bV ns)+1<=64))=Sz;rw[jY,jZ];rfl
theorem xJ (xs a:List Nat):dC (.list (bV xs)) (.list (bV a))=lD (.fz (.bool (decide (xs=a)))):=by unfold dC;rw[OV,show SG.canLay0 (.list (bV a))=Sz from jY a,Vl,if_pos rfl,show SG.eqv (.list (bV xs)) (.list (bV a))=_ from Dx xs a]
theorem Lb (x:Nat) (xs:List Nat):((bV xs).any fun e=>SG.eqv e (nd x))=decide (x∈xs):=by
 induction xs with
 |nil=>rfl
 |cons y r a=>
  show(SG.eqv (nd y) (nd x)||(bV r).any fun e=>SG.eqv e (nd x))=_;rw[a,Jd];by_cases h:y=x
  .rw[decide_eq_true h,decide_eq_true (show x∈y::r by rw[h];exact S5),V2]
  .rw[decide_eq_false h,W4]
   by_cases g:x∈r
   .rw[decide_eq_true g,decide_eq_true (S2 _ g)]
   .rw[decide_eq_false g,decide_eq_false (fun z=>(Tq.mp z).elim (fun e=>h e.symm) g)]
theorem xP (x:Nat) (xs:List Nat):K8 (nd x) (.tuple (bV xs))=lD (.fz (.bool (decide (x∈xs)))):=by show(if(m9 (nd x)&&SG.canLayAll0 (bV xs))=Sz then _ else _)=_;rw[jY,show m9 (nd x)=Sz from rfl,Vl,if_pos rfl,Lb]
theorem Bq {i:Nat} (h:xs[i]? =lD v):mX xs (i:Int)=lD v:=Dg h
theorem M8 (h:ds[i]? =lD d):bw (.tuple ds) (nd i)=lD (.fz d):=by show(mX ds (i:Int)).map RV.fz=_;rw[Bq h];rfl
theorem yc (h:ds[i]? =lD d):bw (.list ds) (nd i)=lD (.fz d):=by show(mX ds (i:Int)).map RV.fz=_;rw[Bq h];rfl
section
variable {ρ ρ1 ρ2 ρ3:bq} {fa fb fc fe:FE} {pa pb pv:PV} {dx dy d:D} {rv:RV} {ps:List PV} {ds:List D}
theorem ag (h:ρ[i]? =lD (lD (.fz d))):aa i ρ= .ok (.fz d,ρ):=by rw[z9,h,Hw]
theorem lz (h:ρ[i]? =lD (lD (.ow ds))):aa i ρ= .ok (.pl i,ρ):=by rw[z9,h,Gu]
theorem aL:pC d ρ= .ok (.fz d,ρ):=rfl
theorem aK (ha:fa ρ= .ok (pa,ρ1)) (g:fb ρ1= .ok (pb,ρ2)) (b:uA ρ2 (cZ pa)=lD dx) (a:uA ρ2 pb=lD dy) (e:f dx dy=lD rv):aN f fa fb ρ= .ok (rv.pv,ρ2):=by unfold aN;rw[ha,Res.bind_ok,g,Res.bind_ok,b,aZ,Res.bind_ok,a,aZ,Res.bind_ok,e,aZ,Res.bind_ok]
theorem Cc (ha:fa ρ= .ok (pa,ρ1)) (a:uA ρ1 pa=lD dx) (b:f dx=lD rv):EZ f fa ρ= .ok (rv.pv,ρ1):=by unfold EZ;rw[ha,Res.bind_ok,a,aZ,Res.bind_ok,b,aZ,Res.bind_ok]
theorem a9 (ha:fa ρ= .ok (pa,ρ1)) (a:uA ρ1 pa=lD (.bool b)):aJ fa ρ= .ok (b,ρ1):=by unfold aJ;rw[ha,Res.bind_ok,a,aZ,Res.bind_ok,zQ,aZ,Res.bind_ok]
theorem xz (ha:f ρ= .ok (a,ρ1)) (e:a=Sz->g ρ1= .ok (b,ρ1)):AC f g ρ= .ok (a&&b,ρ1):=by
 unfold AC;rw[ha,Res.bind_ok];cases a with
 |true=>rw[if_pos rfl,e rfl,Yo]
 |false=>rw[if_neg S9,WE]
theorem jb (ha:f ρ= .ok (a,ρ1)) (e:a=SN->g ρ1= .ok (b,ρ1)):z8 f g ρ= .ok (a||b,ρ1):=by
 unfold z8;rw[ha,Res.bind_ok];cases a with
 |true=>rw[if_pos rfl,V2]
 |false=>rw[if_neg S9,e rfl,W4]
theorem fF (ha:f ρ= .ok (a,ρ1)):nw f ρ= .ok (!a,ρ1):=by unfold nw;rw[ha,Res.bind_ok]
theorem oo (ha:aJ fa ρ= .ok (a,ρ1)) (e:a=Sz->fb ρ1= .ok (.fz (.bool b),ρ1)):xK fa fb ρ= .ok (.fz (.bool (a&&b)),ρ1):=by
 unfold xK;rw[ha,Res.bind_ok];cases a with
 |true=>rw[if_pos rfl,e rfl,Yo]
 |false=>rw[if_neg S9,WE]
theorem aG:ay ρ= .ok ([],ρ):=rfl
theorem am (ha:fa ρ= .ok (pa,ρ1)) (a:fr ρ1= .ok (ps,ρ2)):ae fa fr ρ= .ok (cZ pa::ps,ρ2):=by unfold ae;rw[ha,Res.bind_ok,a,Res.bind_ok]
theorem cD (ha:fr ρ= .ok (ps,ρ1)) (hd:yA ρ1 ps=lD ds) (a:f ds=lD rv):fq f fr ρ= .ok (rv.pv,ρ1):=by unfold fq;rw[ha,Res.bind_ok,hd,aZ,Res.bind_ok,a,aZ,Res.bind_ok]
theorem dr (ha:fr ρ= .ok (ps,ρ1)) (hd:rm ρ1 ps=lD (ds,ρ2)) (hn:ds.length=n) (a:F ds= .ok rv):fA F n fr ρ= .ok (rv.pv,ρ2):=by unfold fA;rw[ha,Res.bind_ok,hd,aZ,Res.bind_ok];dsimp only;rw[if_pos hn,a,yw,Res.bind_ok]
theorem iJ (ha:fr ρ= .ok (ps,ρ1)) (hd:rm ρ1 ps=lD (ds,ρ2)) (hn:ds.length<=1000):cP fr ρ= .ok (.fz (.tuple ds),ρ2):=by unfold cP;rw[ha,Res.bind_ok,hd,aZ,Res.bind_ok];dsimp only;rw[if_pos hn]
theorem tU (ha:fr ρ= .ok (ps,ρ1)) (hd:rm ρ1 ps=lD (ds,ρ2)) (hn:ds.length<=1000):di fr ρ= .ok (.ow ds,ρ2):=by unfold di;rw[ha,Res.bind_ok,hd,aZ,Res.bind_ok];dsimp only;rw[if_pos hn]
theorem iY (ha:fa ρ= .ok (pa,ρ1)) (a:uA ρ1 pa=lD dx) (b:HX dx=lD t):mO n fa ρ= .ok (.fz (.bool (KG n t)),ρ1):=by unfold mO;rw[ha,Res.bind_ok,a,aZ,Res.bind_ok,b,aZ,Res.bind_ok]
theorem A3 (g:ρ[i]? =lD (lD (.ow es))) (ha:fe ρ= .ok (pa,ρ1)) (b:yM ρ1 pa=lD (d,ρ2)) (f:ρ2[i]? =lD (lD (.ow ds))) (e:ds.length<1000000) (a:ρ2.set i (lD (.ow (ds++[d])))=x):EL i fe ρ= .ok (.fz .none,x):=by unfold EL;rw[g,pY,aZ,Res.bind_ok,ha,Res.bind_ok,b,aZ,Res.bind_ok];dsimp only;rw[f,pY,aZ,Res.bind_ok,if_pos e,a]
theorem ei (hi:fi ρ= .ok (ds,ρ1)) (b:vE ρ1 fv=lD (cs,ρ2)) (a:kR (dU gt ft fe ds (SS n Sw++cs.map fun d=>lD (.fz d)) [])= .ok xs):dX n fv fi gt ft fe ρ= .ok (.ow xs,ρ2):=by unfold dX;rw[hi,Res.bind_ok];dsimp only;rw[b,aZ,Res.bind_ok];dsimp only;rw[a,Res.bind_ok]
theorem jO:bw (.tuple (a::r)) (.int 0)=lD (.fz a):=M8 rfl
theorem kP:bw (.tuple (a::b::r)) (.int 1)=lD (.fz b):=M8 rfl
theorem sO:bw (.tuple (a::b::c::r)) (.int 2)=lD (.fz c):=M8 rfl
theorem Ot (b:k<=1000) (a:xs.length<=1000):Bo (.list xs) (nd k)=lD (.ow (SS k xs).flatten):=by show(if xs.length*((k:Nat):Int).toNat<=1000000/\ -(2^63)<=(k:Int)/\(k:Int)<2^63 then lD (RV.ow (SS ((k:Nat):Int).toNat xs).flatten) else Sw)=_;rw[Um,if_pos ⟨TJ (X8 a b) (by decide),by omega,by omega⟩]
theorem eX (ha:fe ρ= .ok (pa,ρ1)) (a:yM ρ1 pa=lD (d,ρ2)) (b:fP d=lD es):fu fe ρ= .ok (es,ρ2):=by unfold fu;rw[ha,Res.bind_ok,a,aZ,Res.bind_ok];dsimp only;rw[b,aZ,Res.bind_ok]
theorem xQ (ha:fr ρ= .ok (ps,ρ1)) (hd:yA ρ1 ps=lD ds) (a:f ds=lD es):n9 f fr ρ= .ok (es,ρ1):=by unfold n9;rw[ha,Res.bind_ok,hd,aZ,Res.bind_ok,a,aZ,Res.bind_ok]
theorem AW (b:fe ρ= .ok (pv,ρ1)) (a:g pv ρ1= .ok ρ2) (hn:ρ2=ρ3):jg fe g ρ= .ok (.nx ρ3):=by unfold jg;rw[b,Res.bind_ok];dsimp only;rw[a,Res.bind_ok,hn]
theorem DA (a:fe ρ= .ok (pv,ρ1)):rZ fe ρ= .ok (.nx ρ1):=by unfold rZ;rw[a,Res.bind_ok]
theorem qv (b:fe ρ= .ok (pv,ρ1)) (a:DQ ρ1 pv=lD rv):dG fe ρ= .ok (.rt rv):=by unfold dG;rw[b,Res.bind_ok];dsimp only;rw[a,aZ,Res.bind_ok]
theorem JS (e:gt (.fz d) ρ= .ok ρ1) (b:ft ρ1= .ok (Sz,ρ2)) (g:fe ρ2= .ok (pv,ρ3)) (a:yM ρ3 pv=lD (x,ρ4)) (f:dI ρ4=ρ5):lj gt ft fe d ρ= .ok (lD x,ρ5):=by unfold lj;rw[e,Res.bind_ok,b,Res.bind_ok,if_pos rfl,g,Res.bind_ok,a,aZ,Res.bind_ok,f]
theorem Qw (b:gt (.fz d) ρ= .ok ρ1) (a:ft ρ1= .ok (SN,ρ2)) (e:dI ρ2=ρ5):lj gt ft fe d ρ= .ok (Sw,ρ5):=by unfold lj;rw[b,Res.bind_ok,a,Res.bind_ok,if_neg S9,e]
end
end L3
namespace PySem
open Sem (wp)
open Builtin
open AutoSeq1 (wpAny_loadPart')
theorem pL:fillsNumberSlot (.type "tuple") "mul"=pure SN:=
 fillsNumberSlot_seq F.slot_tuple_mul.lookup (by left) F.slot_tuple_rmul.lookup (by left)
theorem wv:seqRepeat? (.type "tuple")=pure (lD (.builtin "tuple.__mul__")):=by unfold seqRepeat?;rw[seqSlot_of (name:= "__mul__") F.slot_tuple_mul.lookup (by left),seqSlot_of (name:= "__rmul__") F.slot_tuple_rmul.lookup (by left)];rfl
theorem sN (a:Int) (t:Tok) (l:SI) (b:Array Sx) (n:Nat) (Yu:Option SI) (f:Array (Option Sx)):
  Meets (Ua.«int.__rmul__» ⟨[.int a t,.ref l],[]⟩) (fun _ R s=>s.heap.get? l=lD {cls:= .type "tuple",dict:=Yu,data:= .seq b n,slots:=f}/\R (.ok (.ret Sx.notImplemented)) s):=
 .of_wp fun e w A R s h=>by obtain⟨m,g,d,i,j⟩:=s;obtain⟨o,h⟩:=h;wp_walk;exact⟨_,rfl,h⟩
theorem yI (l:SI) (a:Array Sx) (n:Nat) (Yu:Option SI) (e:Array (Option Sx)) (u:Tok):
  Meets (Ua.«tuple.__mul__» ⟨[.ref l,.int 1 u],[]⟩) (fun _ R s=>s.heap.get? l=lD {cls:= .type "tuple",dict:=Yu,data:= .seq a n,slots:=e}/\R (.ok (.ret (Sx.ref l))) s):=
 .of_wp fun b w A R s h=>by
  obtain⟨j,g,d,f,i⟩:=s;obtain⟨m,h⟩:=h
  wp_walk
  exact⟨_,rfl,h⟩
theorem yj (l:SI) (a:Array Sx) (n:Nat) (Yu:Option SI) (j:Array (Option Sx)) (x:Int) (u:Tok) (I:2<=x) (r:x<=1000) (i:a.isEmpty=SN) (hz:a.size<=1000):
  Meets (Ua.«tuple.__mul__» ⟨[.ref l,.int x u],[]⟩) (fun _ R s=>s.heap.get? l=lD {cls:= .type "tuple",dict:=Yu,data:= .seq a n,slots:=j}/\R (.ok (.ret (Sx.ref s.heap.objs.size))) {s with heap:=s.heap.push {cls:=Sx.type "tuple",data:=Data.seq (Xn (fun x1 x2=>x1++x2) #[] (SS x.toNat a))},toks:=s.toks}):=
 .of_wp fun e w A R s h=>by
  obtain⟨G,g,d,E,F⟩:=s;obtain⟨q,h⟩:=h;have C:¬(decide (x< -(2^63))||decide (x≥2^63))=Sz:=by simp;omega
  have B:(x==1)=SN:=by simp;omega
  have z:decide (x<=0)=SN:=by simp;omega
  have K:(a.isEmpty||x==1)=SN:=by rw[i,B];rfl
  have J:(decide (x<=0)||a.isEmpty)=SN:=by rw[i,z];rfl
  have f:(a.size:Int)*x<=1000000:=by have:(a.size:Int)*x<=1000*1000:=Int.mul_le_mul (by omega) r (by omega) (by omega);omega
  have y:¬(a.size:Int)*x>(2^63 - 1)/8:=by omega
  have v:¬Tuple.tupleTooMany ((a.size:Int)*x)=Sz:=by
   unfold Tuple.tupleTooMany;simp;have:(SY:Nat)=16777216:=by decide
   omega
  wp_walk
  rw[if_neg C]
  wp_walk using wpAny_loadPart' q
  rw[if_neg y];dsimp only;rw[if_neg v];have p:(Xn (fun x1 x2=>x1++x2) #[] (SS x.toNat a)).size<=SY:=by
   have t:∀(m:Nat) (b:Array Sx),(Xn (fun x1 x2=>x1++x2) b (SS m a)).size=b.size+m*a.size:=by
    intro m
    induction m with
    |zero=>intro b;simp
    |succ m o=>intro b;rw[Ub,Xr,o,Array.size_append,aeP];omega
   rw[t];have H:x.toNat*a.size<=1000*1000:=X8 (by omega) hz;have:(SY:Nat)=16777216:=by decide
   simp;omega
  wp_walk
  exact⟨_,rfl,h⟩
end PySem
namespace L3
open PySem PySem.Spec PyProof.Rows L2
def MQ (K:Ld):R2:=fun x y H Q=>∃(a:SI) (k:Nat) (xs:List V),x= .ref a/\y= .int (k:Int)/\Xa K H a xs/\xs≠[]/\1<=k/\k<=1000/\xs.length<=1000/\
 (k=1->Q (.ref a) H)/\(2<=k->∀p,H p=Sw->Q (.ref p) (bJ H p (.tup (SS k xs).flatten)))
theorem Mq:OpR X (UX .Mult) (MQ X.K):=by
 intro i s R H x y v u Q I B A h;obtain⟨a,k,xs,rfl,rfl,G,P,Y,N,L,E,C⟩:=h;cases B;obtain⟨t,rfl⟩:=A;obtain⟨f,r,J,U⟩:=I.tuple G;obtain⟨⟨cls,dd,o,g⟩,e,m,n,l⟩:=id J;simp only at m l;subst m l;have j:=r.length;refine abd (by decide) ⟨_,e,rfl⟩ (fun z=>Y5 z k t) pL F.fills_int_mul F.slot_int_rmul wv F.slot_int_index.lookup
  (W6 F.slot_int_rmul (Y5 s k t) F.entry_int_rmul (F.args_int_rmul_2 _ _) (sN k t a f.toArray n dd g) ⟨e,rfl,⟨_,e,rfl⟩,?_⟩)
 by_cases M:k=1
 .subst M;exact W6 F.slot_tuple_mul ⟨_,e,rfl⟩ F.entry_tuple_mul (F.args_tuple_mul_2 _ _) (yI a f.toArray n dd g t) ⟨e,⟨.ref a,H,I,rfl,E rfl⟩⟩
 .refine W6 F.slot_tuple_mul ⟨_,e,rfl⟩ F.entry_tuple_mul (F.args_tuple_mul_2 _ _) (yj a f.toArray n dd g k t (by omega) (by omega) ?_ (by rw[S8];omega)) ⟨e,?_⟩
  .cases f with
   |nil=>cases r;exact absurd rfl P
   |cons y S=>rfl
  .have O:Xn (fun w p=>w++p) #[] (SS ((k:Nat):Int).toNat f.toArray)=(SS k f).flatten.toArray:=by
    have:=qG f k [];rw[VS] at this;rw[Um];exact this
   rw[O];refine⟨.ref s.heap.objs.size,_,I.laid (fun b T q=>Heap.get?_push_of_some _ q) (SU _) ?_,rfl,C (by omega) _ (I.Up.fresh (SU _))⟩;refine⟨?_,_,r.rep k,Zi.new _ _⟩;rw[BT];exact TJ (X8 N L) (by decide)
def MM (K:Ld):R2:=fun x y H Q=>Io K x y H Q\/MQ K x y H Q
theorem BJ:OpR X (UX .Mult) (MM X.K):=OpR.or KB Mq
def i7:D->D->Option RV
 | .tuple xs,.int k=>if xs≠[]/\1<=k/\k<=1000/\xs.length<=1000 then lD (.fz (.tuple (SS k.toNat xs).flatten)) else Sw
 |d,e=>Bo d e
theorem yR {K:Ld}:oi K (MM K) i7:=by
 intro O H x y dx l rv Q n g f e q;unfold i7 at e;split at e
 .rename_i ds k
  split at e
  .rename_i h
   cases e;cases f;obtain⟨a,xs,rfl,i,b⟩:=JE g;obtain⟨m,rfl⟩:∃m:Nat,k=(m:Int):=⟨k.toNat,by omega⟩;rw[Um] at q;refine .inr ⟨a,m,xs,rfl,rfl,i.1,fun z=>h.1 (b.ne.mp z),by omega,by omega,by rw[b.length];exact h.2.2.2,fun e=> ?_,fun _=>Fin.acL (b.flat m) n q⟩;subst e;have j:(SS 1 ds).flatten=ds:=by simp
   rw[j] at q;exact q.at (.tup i b)
  .cases e
 .exact .inl (L5 O H x y dx l rv Q n g f e q)
theorem z4 (i j:Int):i7 (.int i) (.int j)=Bo (.int i) (.int j):=rfl
theorem oO (h: -(2^64)<i/\i<2^64):i7 (.int i) (.int j)=lD (.fz (.int (i*j))):=(z4 i j).trans (Kp h)
theorem IK (h: -(2^64)<j/\j<2^64):i7 (.int i) (.int j)=lD (.fz (.int (i*j))):=(z4 i j).trans (Kd h)
end L3
namespace PySem
open Sem (wp)
open Builtin Builtin.Str
def itAt:Bool->Heap->SI->SI->Nat->Prop
 |true,h,it,a,i=>h.IsTupleIter it a i
 |false,h,it,a,i=>h.IsListIter it a i
def sqAt:Bool->Heap->SI->Array Sx->Prop
 |true,h,a,xs=>h.IsTuple a xs
 |false,h,a,xs=>h.IsList a xs
def yY:Bool->String
 |true=> "tuple_iterator"
 |false=> "list_iterator"
theorem itAt.ext (x:itAt b h it a i) (e:Heap.ExtBut c h h') (n:it≠c):itAt b h' it a i:=by
 cases b with
 |true=>exact Heap.IsTupleIter.extBut x e n
 |false=>exact Heap.IsListIter.extBut x e n
theorem itAt.to (x:itAt b h it a i) (e:∀o,h.get? it=lD o->h'.get? it=lD o):itAt b h' it a i:=by
 cases b with
 |true=>exact Heap.IsTupleIter.at x e
 |false=>exact Heap.IsListIter.at x e
theorem itAt.live (x:itAt b h it a i):∃o,h.get? it=lD o/\∀v,o.data≠ .cell v:=by
 cases b with
 |true=>obtain⟨o,e,_,d⟩:=(show h.IsTupleIter it a i from x);exact⟨o,e,fun v z=>by rw[d] at z;cases z⟩
 |false=>obtain⟨o,e,_,d⟩:=(show h.IsListIter it a i from x);exact⟨o,e,fun v z=>by rw[d] at z;cases z⟩
theorem sqAt.ext (x:sqAt b h a xs) (e:Heap.ExtBut c h h') (n:a≠c):sqAt b h' a xs:=by
 cases b with
 |true=>exact Heap.IsTuple.extBut x e n
 |false=>exact Heap.IsList.extBut x e n
theorem sqAt.psh (x:sqAt b h a xs) (o:Obj):sqAt b (h.push o) a xs:=by
 cases b with
 |true=>exact Heap.IsTuple.push x o
 |false=>exact Heap.IsList.push x o
theorem sqAt.lt (x:sqAt b h a xs):a<h.objs.size:=by
 cases b with
 |true=>obtain⟨o,e,_⟩:=(show h.IsTuple a xs from x);exact Heap.lt_size e
 |false=>obtain⟨o,e,_⟩:=(show h.IsList a xs from x);exact Heap.lt_size e
section
variable {prog:Te} {w:TF} {A:Tw} {E:Sx->SK->Prop} {s:SK}
theorem wk (hi:itAt b s.heap it l i) (e:sqAt b s.heap l xs) (a:xs[i]? =lD x)
  (q:∀h',itAt b h' it l (i+1)->Heap.SameBut it s.heap h'->Q x {s with heap:=h'}):wpAny (model prog w) A (SmallTypes.nextOf (.ref it)) Q E s:=by
 cases b with
 |true=>exact oE hi e a q
 |false=>exact wpAny_nextOf_list_item hi e a q
theorem B9 (g:A.handled=Sw) (hi:itAt b s.heap it l i) (f:sqAt b s.heap l xs) (a:xs[i]? =Sw)
  (q:∀h' e,Heap.ExtBut it s.heap h'->(∃o,h'.get? e=lD o/\o.cls= .type "StopIteration")->E (.ref e) {s with heap:=h'}):wpAny (model prog w) A (SmallTypes.nextOf (.ref it)) Q E s:=by
 cases b with
 |true=>exact pH g hi f a q
 |false=>exact wpAny_nextOf_list_end g hi f a q
theorem BI (a:sqAt b s.heap l xs)
  (q:Q (.ref s.heap.objs.size) {s with heap:=s.heap.push {cls:= .type (yY b),data:= .fields #[.ref l,.int 0 0]}}):wpAny (model prog w) A (pyIter (.ref l)) Q E s:=by
 cases b with
 |true=>exact Yn a q
 |false=>exact WM a q
theorem Ej {Q:Sx->SK->Prop} (D:Zo z TI TO i1 i2 l1 l2) (hz:aaK s.heap z TI TO .none)
  (hTI:IsPair s.heap TI (.ref i1) (.ref i2)) (hTO:IsPair s.heap TO a b) (h1:itAt b1 s.heap i1 l1 n) (h2:itAt b2 s.heap i2 l2 n) (hl1:sqAt b1 s.heap l1 xs) (hl2:sqAt b2 s.heap l2 ys) (hx:xs[n]? =lD x) (hy:ys[n]? =lD y)
  (q:∀h',aaK h' z TI TO (rawInt s.heap.objs.size)->IsPair h' TO x y->itAt b1 h' i1 l1 (n+1)->itAt b2 h' i2 l2 (n+1)->IsPair h' s.heap.objs.size x y->h'.objs.size=s.heap.objs.size+1->
   (∀c o,c≠z->c≠TO->c≠i1->c≠i2->s.heap.get? c=lD o->h'.get? c=lD o)->Q (.ref s.heap.objs.size) {s with heap:=h'}):
  wpAny (model prog w) A (Ua.«zip.__next__» ⟨[.ref z],[]⟩) (fun fin s'=>∃v,fin= .done (.ret v)/\Q v s') E s:=by
 show wpAny _ _ (field (.ref z) 2>>=_) _ _ _;refine Sv (TH hz rfl rfl ?_);show wpAny _ _ (field (.ref z) 3>>=_) _ _ _;refine Sv (TH hz rfl rfl ?_);refine Sv (UA hTI rfl ?_);show wpAny _ _ (SmallTypes.ownedTupleIsFree (.ref z)>>=_) _ _ _;refine Sv ?_;unfold SmallTypes.ownedTupleIsFree;refine Sv (TH hz rfl rfl (SQ ?_));simp only[if_true];refine Sv (W7 ?_);refine Sv (TH hz rfl rfl ?_);refine Sv (Vo hz (by simp) fun k₁ t g=> ?_);have ac4:=t;clear t;refine Sv ?_;simp only[acp,acE,Xt,ZA];refine Sv (Sv (Y2 ?_));show wpAny _ _ (SmallTypes.nextOf (.ref i1)>>=_) _ _ _;refine Sv (wk (h1.ext g.extBut D.i1z) (hl1.ext g.extBut D.l1z) hx fun k₂ Y i=>SQ ?_);have J:=i.extBut _ _ D.TOi1 (g.extBut _ _ D.TOz hTO);refine Sv (UA J rfl ?_);refine Sv (YD J fun k₃ I h=> ?_);have M:=I;clear I;refine Sv (VN (SQ ?_));refine Sv (Sv (Y2 ?_));show wpAny _ _ (SmallTypes.nextOf (.ref i2)>>=_) _ _ _;refine Sv (wk (((h2.ext g.extBut D.i2z).ext i.extBut D.i12.symm).ext h.extBut D.TOi2.symm) (((hl2.ext g.extBut D.l2z).ext i.extBut D.l2i1).ext h.extBut D.l2TO) hy fun k₄ X l=>SQ ?_);have H:=l.extBut _ _ D.TOi2 M;refine Sv (UA H rfl ?_);refine Sv (YD H fun f G j=> ?_);have p:IsPair f TO x y:=G;clear G;refine Sv (VN (SQ (SQ ?_)));refine Sv (UA p rfl ?_);refine Sv (wpAny_newTuple ?_);have U:f.objs.size=s.heap.objs.size:=by rw[j.1,l.1,h.1,i.1,g.1]
 have C:=j.extBut _ _ D.TOz.symm (l.extBut _ _ D.i2z.symm (h.extBut _ _ D.TOz.symm (i.extBut _ _ D.i1z.symm ac4)));have kp:∀c o,c≠z->c≠TO->c≠i1->c≠i2->s.heap.get? c=lD o->f.get? c=lD o:=fun c o N Z c3 c4 e=>
  j.extBut _ _ Z (l.extBut _ _ c4 (h.extBut _ _ Z (i.extBut _ _ c3 (g.extBut _ _ N e))))
 have T:=((Y.ext h.extBut D.TOi1.symm).ext l.extBut D.i12).ext j.extBut D.TOi1.symm;have S:=X.ext j.extBut D.TOi2.symm;have WO:=Heap.lt_size C;show wpAny _ _ (SmallTypes.ownedTupleHandOut (.ref z) (.ref f.objs.size)>>=_) _ _ _;refine Sv ?_;unfold SmallTypes.ownedTupleHandOut;have R:aaK (f.push {cls:= .type "tuple",data:= .seq #[x,y]}) z TI TO .ellipsis:=Heap.get?_push_of_some _ C;refine Sv (Vo R (by simp) fun k₇ P B=> ?_);have L:=P;refine Vo L (by simp) fun r O u=> ?_;have m:=O;have up:∀c o,c≠z->f.get? c=lD o->r.get? c=lD o:=fun c o N e=>u.extBut _ _ N (B.extBut _ _ N (Heap.get?_push_of_some _ e));have F:=u.extBut _ _ (Ul WO) (B.extBut _ _ (Ul WO) (Heap.get?_push_size _ rfl));have K:r.objs.size=f.objs.size+1:=by rw[u.1,B.1,Heap.size_push]
 rw[U] at m F K;refine SQ ⟨_,rfl,?_⟩;rw[U];exact q r m (up _ _ D.TOz p) (T.to fun o e=>up _ o D.i1z e) (S.to fun o e=>up _ o D.i2z e) F K fun c o N Z c3 c4 e=>up c o N (kp c o N Z c3 c4 e)
theorem G8 (T:A.handled=Sw) (D:Zo z TI TO i1 i2 l1 l2) (hz:aaK s.heap z TI TO .none)
  (M:IsPair s.heap TI (.ref i1) (.ref i2)) (L:IsPair s.heap TO a b) (U:itAt b1 s.heap i1 l1 n) (Z:itAt b2 s.heap i2 l2 n) (F:sqAt b1 s.heap l1 xs) (J:sqAt b2 s.heap l2 ys) (O:xs[n]? =Sw\/ys[n]? =Sw)
  (q:∀h' e,(∀c o,c≠z->c≠TO->c≠i1->c≠i2->s.heap.get? c=lD o->h'.get? c=lD o)->(∃o,h'.get? e=lD o/\o.cls= .type "StopIteration")->E (.ref e) {s with heap:=h'}):
  wpAny (model prog w) A (Ua.«zip.__next__» ⟨[.ref z],[]⟩) Q E s:=by
 show wpAny _ _ (field (.ref z) 2>>=_) _ _ _;refine Sv (TH hz rfl rfl ?_);show wpAny _ _ (field (.ref z) 3>>=_) _ _ _;refine Sv (TH hz rfl rfl ?_);refine Sv (UA M rfl ?_);show wpAny _ _ (SmallTypes.ownedTupleIsFree (.ref z)>>=_) _ _ _;refine Sv ?_;unfold SmallTypes.ownedTupleIsFree;refine Sv (TH hz rfl rfl (SQ ?_));simp only[if_true];refine Sv (W7 ?_);refine Sv (TH hz rfl rfl ?_);refine Sv (Vo hz (by simp) fun S y f=> ?_);have H:=y;refine Sv ?_;simp only[acp,acE,Xt,ZA];refine Sv (Sv (Y2 ?_));show wpAny _ _ (SmallTypes.nextOf (.ref i1)>>=_) _ _ _;cases hx:xs[n]? with
 |none=>
  refine Sv (B9 T (U.ext f.extBut D.i1z) (F.ext f.extBut D.l1z) hx fun C e g K=> ?_);obtain⟨I,i,j⟩:=K;have m:=g _ _ D.i1z.symm H;have ne:e≠z:=fun t=>by subst t;rw[m] at i;cases i;simp at j
  exact Vo m (by simp) fun r _ h=>q r e (fun c o G _ N _ t=>h.extBut _ _ G (g _ _ N (f.extBut _ _ G t))) ⟨I,h.extBut _ _ ne i,j⟩
 |some x=>
  have Y:ys[n]? =Sw:=by
   rcases O with t|t
   .rw[hx] at t;cases t
   .exact t
  refine Sv (wk (U.ext f.extBut D.i1z) (F.ext f.extBut D.l1z) hx fun C X g=>SQ ?_);have p:=g.extBut _ _ D.TOi1 (f.extBut _ _ D.TOz L);refine Sv (UA p rfl ?_);refine Sv (YD p fun r P h=> ?_);refine Sv (VN (SQ ?_));refine Sv (Sv (Y2 ?_));show wpAny _ _ (SmallTypes.nextOf (.ref i2)>>=_) _ _ _;refine Sv (B9 T (((Z.ext f.extBut D.i2z).ext g.extBut D.i12.symm).ext h.extBut D.TOi2.symm) (((J.ext f.extBut D.l2z).ext g.extBut D.l2i1).ext h.extBut D.l2TO) Y fun R e v K=> ?_);obtain⟨I,i,j⟩:=K;have l:=v _ _ D.i2z.symm (h.extBut _ _ D.TOz.symm (g.extBut _ _ D.i1z.symm H));have ne:e≠z:=fun t=>by subst t;rw[l] at i;cases i;simp at j
  exact Vo l (by simp) fun B _ u=>q B e (fun c o G c2 N c4 t=>u.extBut _ _ G (v _ _ c4 (h.extBut _ _ c2 (g.extBut _ _ N (f.extBut _ _ G t))))) ⟨I,u.extBut _ _ ne i,j⟩
end
section
variable {prog:Te} {w:TF} {A:Tw} {E:Sx->SK->Prop} {s:SK}
theorem yX (D:Zo z TI TO i1 i2 l1 l2) (hz:aaK s.heap z TI TO .none)
  (h:IsPair s.heap TI (.ref i1) (.ref i2)) (g:IsPair s.heap TO a b) (p:itAt b1 s.heap i1 l1 n) (m:itAt b2 s.heap i2 l2 n) (f:sqAt b1 s.heap l1 xs) (e:sqAt b2 s.heap l2 ys) (l:xs[n]? =lD x) (j:ys[n]? =lD y)
  (q:∀h',aaK h' z TI TO (rawInt s.heap.objs.size)->IsPair h' TO x y->itAt b1 h' i1 l1 (n+1)->itAt b2 h' i2 l2 (n+1)->IsPair h' s.heap.objs.size x y->h'.objs.size=s.heap.objs.size+1->
   (∀c o,c≠z->c≠TO->c≠i1->c≠i2->s.heap.get? c=lD o->h'.get? c=lD o)->Q (lD (.ref s.heap.objs.size)) {s with heap:=h'}):
  wpAny (model prog w) A (pyNext (.ref z)) Q E s:=by
 have i:s.TypeIs (.ref z) "zip":=⟨_,hz,rfl⟩;unfold pyNext;refine Sv (ai5 (Vi i F.slot_zip_next ?_));exact VT F.slot_zip_next i F.entry_zip_next (Ej D hz h g p m f e l j fun h' G C B v u t r=>SQ (q h' G C B v u t r)) (F.args_zip_next_1 _)
theorem zB (r:A.handled=Sw) (D:Zo z TI TO i1 i2 l1 l2) (hz:aaK s.heap z TI TO .none)
  (i:IsPair s.heap TI (.ref i1) (.ref i2)) (h:IsPair s.heap TO a b) (y:itAt b1 s.heap i1 l1 n) (v:itAt b2 s.heap i2 l2 n) (g:sqAt b1 s.heap l1 xs) (f:sqAt b2 s.heap l2 ys) (j:xs[n]? =Sw\/ys[n]? =Sw)
  (q:∀h',(∀c o,c≠z->c≠TO->c≠i1->c≠i2->s.heap.get? c=lD o->h'.get? c=lD o)->Q Sw {s with heap:=h'}):wpAny (model prog w) A (pyNext (.ref z)) Q E s:=by
 have l:s.TypeIs (.ref z) "zip":=⟨_,hz,rfl⟩;unfold pyNext;refine Sv (ai5 (Vi l F.slot_zip_next ?_));refine VT F.slot_zip_next l F.entry_zip_next (G8 r D hz i h y v g f j fun h' e p t=> ?_) (F.args_zip_next_1 _);obtain⟨o,m,u⟩:=t;exact Sv (ZI ⟨o,m,u⟩ isSubtype_stop (SQ (q _ p)))
end
abbrev QA (h:Heap) (b:Bool) (a:SI):Heap:=h.push {cls:= .type (yY b),data:= .fields #[.ref a,.int 0 0]}
abbrev Qk (h:Heap) (f e:Bool) (b a:SI):Heap:=(QA h f b).push {cls:= .type (yY e),data:= .fields #[.ref a,.int 0 0]}
abbrev QB (h:Heap) (b f:Bool) (a e:SI):Heap:=(Qk h b f a e).push {cls:= .type "tuple",data:= .seq #[.ref h.objs.size,.ref (QA h b a).objs.size]}
abbrev PM (h:Heap) (f e:Bool) (b a:SI):Heap:=(QB h f e b a).push {cls:= .type "tuple",data:= .seq #[.none,.none]}
abbrev Rq (h:Heap) (f e:Bool) (b a:SI):Heap:=(PM h f e b a).push {cls:= .type "zip",data:= .fields #[.none,.bool SN,.bool SN,.ref (Qk h f e b a).objs.size,.ref (QB h f e b a).objs.size]}
theorem se (e f:Bool) (a b:SI) (xs n:Array Sx):
  Meets (Ua.«zip.__new__» ⟨[.type "zip",.ref a,.ref b],[]⟩) (fun _ R s=>sqAt e s.heap a xs/\sqAt f s.heap b n/\R (.ok (.ret (.ref (PM s.heap e f a b).objs.size))) {s with heap:=Rq s.heap e f a b}):=
 .of_wp fun p w A R s h=>by
  obtain⟨r,g,d,o,q⟩:=s;obtain⟨j,i,h⟩:=h;have t:=sub_zip;have m:sqAt e (SK.heap ⟨r,g,d,o,q⟩) a xs:=j;have l:sqAt f (SK.heap ⟨r.push {cls:= .type (yY e),data:= .fields #[.ref a,.int 0 0]},g,d,o,q⟩) b n:=sqAt.psh i _
  wp_walk using BI m,BI l
  exact⟨_,rfl,h⟩
section
variable {prog:Te} {w:TF} {A:Tw} {E:Sx->SK->Prop} {s:SK}
theorem GL (e:h.get? it=lD {cls:= .type (yY b),data:= .fields #[.ref l,.int 0 0]}):itAt b h it l 0:=by
 cases b with
 |true=>exact⟨_,e,rfl,rfl⟩
 |false=>exact⟨_,e,rfl,rfl⟩
theorem EJ (l:sqAt b1 s.heap l1 xs) (j:sqAt b2 s.heap l2 ys)
  (q:∀h',aaK h' (s.heap.objs.size+4) (s.heap.objs.size+2) (s.heap.objs.size+3) .none->IsPair h' (s.heap.objs.size+2) (.ref s.heap.objs.size) (.ref (s.heap.objs.size+1))->
   IsPair h' (s.heap.objs.size+3) .none .none->itAt b1 h' s.heap.objs.size l1 0->itAt b2 h' (s.heap.objs.size+1) l2 0->(∀c o,s.heap.get? c=lD o->h'.get? c=lD o)->Q (.ref (s.heap.objs.size+4)) {s with heap:=h'}):
  wpAny (model prog w) A (call (.type "zip") [.ref l1,.ref l2]) Q E s:=by
 refine callType_new F.called_zip (by decide) (F.typeCall_zip_2 _ _) (F.newCall_zip_2 _ _) (fun obj=>F.args_object_init_3 obj _ _) F.entry_zip_new (se b1 b2 l1 l2 xs ys) ⟨l,j,?_⟩;have i:(QA s.heap b1 l1).objs.size=s.heap.objs.size+1:=Heap.size_push ..;have h:(Qk s.heap b1 b2 l1 l2).objs.size=s.heap.objs.size+2:=by rw[Heap.size_push,i]
 have g:(QB s.heap b1 b2 l1 l2).objs.size=s.heap.objs.size+3:=by rw[Heap.size_push,h]
 have p:(PM s.heap b1 b2 l1 l2).objs.size=s.heap.objs.size+4:=by rw[Heap.size_push,g]
 have v:∀c o,s.heap.get? c=lD o->(QA s.heap b1 l1).get? c=lD o:=fun c o e=>Heap.get?_push_of_some _ e;have n:∀c o,(QA s.heap b1 l1).get? c=lD o->(Qk s.heap b1 b2 l1 l2).get? c=lD o:=fun c o e=>Heap.get?_push_of_some _ e;have f:∀c o,(Qk s.heap b1 b2 l1 l2).get? c=lD o->(QB s.heap b1 b2 l1 l2).get? c=lD o:=fun c o e=>Heap.get?_push_of_some _ e;have b:∀c o,(QB s.heap b1 b2 l1 l2).get? c=lD o->(PM s.heap b1 b2 l1 l2).get? c=lD o:=fun c o e=>Heap.get?_push_of_some _ e;have a:∀c o,(PM s.heap b1 b2 l1 l2).get? c=lD o->(Rq s.heap b1 b2 l1 l2).get? c=lD o:=fun c o e=>Heap.get?_push_of_some _ e;have m:(Rq s.heap b1 b2 l1 l2).get? (PM s.heap b1 b2 l1 l2).objs.size=lD _:=Heap.get?_push_size _ rfl;have r:=a _ _ (Heap.get?_push_size _ rfl);have t:=a _ _ (b _ _ (Heap.get?_push_size _ rfl));have u:=a _ _ (b _ _ (f _ _ (Heap.get?_push_size _ rfl)));have y:=a _ _ (b _ _ (f _ _ (n _ _ (Heap.get?_push_size _ rfl))));rw[h,g,p] at m;rw[i,h] at t;rw[g] at r;rw[i] at u;rw[p];exact⟨⟨_,m,rfl⟩,q _ m t r (GL y) (GL u) fun c o e=>a _ _ (b _ _ (f _ _ (n _ _ (v _ _ e))))⟩
end
end PySem
namespace L3
open PySem PySem.Spec PyProof.Rows L2
def E1 (b:Bool) (K:Ld) (H:Hp) (a:SI) (xs:List V):Prop:=match b with
 |true=>Xa K H a xs
 |false=>Xp K H a xs
def RH (K:Ld) (e b:Bool) (a c:SI):It:=
 ⟨fun i H=>∃xs ys x y,E1 e K H a xs/\E1 b K H c ys/\xs[i]? =lD x/\ys[i]? =lD y,
  fun i H v f=>∃p x y,H p=Sw/\v= .ref p/\(∀xs,E1 e K H a xs->xs[i]? =lD x)/\(∀ys,E1 b K H c ys->ys[i]? =lD y)/\f=bJ H p (.tup [x,y]),
  fun i H=>∃xs ys,E1 e K H a xs/\E1 b K H c ys/\(xs.length<=i\/ys.length<=i)⟩
theorem J0 (I:Inv X pins σ H s) (j:Xp X.K H a xs) (i:Xp X.K H a ys):xs=ys:=by
 obtain⟨f,h,⟨o,k,l,_,n,p⟩,_⟩:=I.list j;obtain⟨e,g,⟨r,u,b,_,t,m⟩,_⟩:=I.list i;rw[l] at b;cases b;have:f=e:=by
  have q:f.toArray=e.toArray:=by injection p.symm.trans m
  simpa using q
 subst this;exact h.inj g
theorem p7 (I:Inv X pins σ H s) (h:E1 b X.K H a xs):∃TV,Vals xs TV/\sqAt b s.heap a TV.toArray:=by
 cases b with
 |true=>obtain⟨TV,rv,p,e⟩:=I.tuple h;exact⟨TV,rv,p⟩
 |false=>obtain⟨TV,rv,p,e⟩:=I.list h;exact⟨TV,rv,p.isList⟩
theorem CN (I:Inv X pins σ H s) (f:E1 b X.K H a xs) (e:E1 b X.K H a ys):xs=ys:=by
 cases b with
 |true=>exact JV I f e
 |false=>exact J0 I f e
theorem DT {ch:List SI} (I:Inv X pins σ H s) (g:∀b∈ch,pT X pins H b)
  (k:∀b u,b∉ch->s.heap.get? b=lD u->h'.get? b=lD u):Inv X pins σ H {s with heap:=h',toks:=t'}:=by
 have f:∀b u,H b=lD u->b∉ch:=fun b u e z=>by rw[(g b z).1] at e;cases e
 refine I.step (fun b j=> ?_) (fun b u _ _ a e _=>k b u a e) (fun b u _ _ a e _=>⟨u.slots,k b u a e⟩) (fun _ _ _ _ n=>n)
  (fun b u a e=>⟨u,k b u a e⟩) (fun _ _ e=>e) (fun _ _ _ e=>e) (fun b ps e=>⟨#[],by rw[e];simp⟩) (fun m hm=> ?_) (fun b u e=> ?_) I.bare
 .obtain⟨_,t,_,p,o,l⟩:=g b j;exact⟨p,t,o,l⟩
 .obtain⟨h,w,y,i,r⟩:=hm;exact⟨h,w,y,k _ h (fun z=>(g _ z).2.1 rfl) i,r⟩
 .refine(I.Up b u e).WY (fun c v a q=>k c v ?_ q) (fun _ q=>q) fun _ _ q=>q
  rcases a with z|z
  .rw[z];exact f b u e
  .exact f c _ z
theorem Il {K:Ld} {kk} (b1 b2:Bool) (z TI F B A Y U:SI) (D:Zo z TI F B A Y U):
  Turn P w K (.Tuple elts kk tp) (RH K b1 b2 Y U) [z,TI,F,B,A] z (fun i h=>aaK h z TI F .none/\IsPair h TI (.ref B) (.ref A)/\(∃a b,IsPair h F a b)/\itAt b1 h B Y i/\itAt b2 h A U i) where
 mem:=by simp
 obj:=fun i h f b e=>by
  obtain⟨l,g,⟨a,c,m⟩,r,p⟩:=f;simp only[Tq,UE,or_false] at e;rcases e with rfl|rfl|rfl|rfl|rfl
  .exact⟨_,l,fun v q=>by cases(show Data.fields _=Data.cell v from q)⟩
  .exact⟨_,g,fun v q=>by cases(show Data.seq _ _=Data.cell v from q)⟩
  .exact⟨_,m,fun v q=>by cases(show Data.seq _ _=Data.cell v from q)⟩
  .exact r.live
  .exact p.live
 keep:=fun i h h' f k=>by obtain⟨l,g,⟨a,c,m⟩,r,p⟩:=f;exact⟨k z (by simp) _ l,k TI (by simp) _ g,⟨a,c,k F (by simp) _ m⟩,r.to fun o q=>k B (by simp) o q,p.to fun o q=>k A (by simp) o q⟩
 item:=by
  intro X hP hw hK hc i j s σ H E I N f hg;subst hP hw hK;obtain⟨l,g,⟨a,c,m⟩,r,p⟩:=f;obtain⟨xs,ys,x,y,L,J,hx,hy⟩:=hg;obtain⟨TV,R,T⟩:=p7 I L;obtain⟨G,Q,S⟩:=p7 I J;obtain⟨u,hu,ru⟩:=R.get hx;obtain⟨t,ht,rt⟩:=Q.get hy;refine yX D l g m r p T S (by simpa using hu) (by simpa using ht) fun k z1 o1 g1 g2 pr sz M=>⟨_,rfl,?_⟩;refine wpAny_letOwnedTupleGo_zip z1 fun C z2 e2=> ?_;have Z:=Heap.lt_size l;have hIl:=Heap.lt_size g;have hOl:=Heap.lt_size m;have h1l:B<s.heap.objs.size:=by obtain⟨_,q,_⟩:=r.live;exact Heap.lt_size q
  have h2l:A<s.heap.objs.size:=by obtain⟨_,q,_⟩:=p.live;exact Heap.lt_size q
  have hn:=I.Up.fresh (SU _);have kk:∀b o,b∉[z,TI,F,B,A]->s.heap.get? b=lD o->C.get? b=lD o:=fun b o e q=>by simp only[Tq,UE,or_false,not_or] at e;exact(e2.2 b e.1).trans (M b o e.1 e.2.2.1 e.2.2.2.1 e.2.2.2.2 q)
  have hT2:=(e2.2 _ (Ul Z)).trans pr
  have I2:Inv X j σ (bJ H s.heap.objs.size (.tup [x,y])) {s with heap:=C}:=
   I.aa3 N kk (SU _) ⟨by show 2<=SY;decide,[u,t],.cons ru (.cons rt .nil),⟨_,hT2,⟨rfl,_,rfl⟩,rfl⟩⟩
  have O:∀b o,b≠z->k.get? b=lD o->C.get? b=lD o:=fun b o n q=>(e2.2 b n).trans q;refine⟨.ref s.heap.objs.size,_,I2,rfl,⟨_,x,y,hn,rfl,fun zs hs=>by rw[CN I hs L];exact hx,fun zs hs=>by rw[CN I hs J];exact hy,rfl⟩,
   ⟨z2,O _ _ D.TIz (M _ _ D.TIz D.TITO D.TIi1 D.TIi2 g),⟨_,_,O _ _ D.TOz o1⟩,g1.to fun o q=>O _ _ D.i1z q,g2.to fun o q=>O _ _ D.i2z q⟩,fun b e=> ?_⟩
  have hb2:b<s.heap.objs.size:=by simp only[Tq,UE,or_false] at e;rcases e with rfl|rfl|rfl|rfl|rfl<;>assumption
  rw[aD (Th hb2)];exact(N b e).1
 done:=by
  intro X hP hw hK hc i j s σ H E I N f hg;subst hP hw hK;obtain⟨l,g,⟨a,c,m⟩,r,p⟩:=f;obtain⟨xs,ys,L,J,hxy⟩:=hg;obtain⟨TV,R,T⟩:=p7 I L;obtain⟨G,Q,S⟩:=p7 I J;have hl1:=R.length;have hl2:=Q.length;have hd:TV.toArray[i]? =Sw\/G.toArray[i]? =Sw:=by
   rcases hxy with q|q
   .exact .inl (by simp;omega)
   .exact .inr (by simp;omega)
  refine zB (I.ok.hd hc) D l g m r p T S hd fun k M=>⟨rfl,?_⟩;exact DT I N fun b o e q=>by simp only[Tq,UE,or_false,not_or] at e;exact M b o e.1 e.2.2.1 e.2.2.2.1 e.2.2.2.2 q
 self:=fun _ _ _ _ _ f h=>aeS f.1 h
theorem EW (n b a:Nat) (f:b<n) (e:a<n):Zo (n+4) (n+2) (n+3) n (n+1) b a:=by constructor<;>(show(_:Nat)≠_;omega)
def Np (K:Ld) (f:TA):TI:=fun e H R=>f e H fun vs b=>∃a c b1 b2,vs=[.ref a,.ref c]/\(∃xs,E1 b1 K b a xs)/\(∃ys,E1 b2 K b c ys)/\R (RH K b1 b2 a c) b
theorem Jt:Ue "zip"=lD (.type "zip"):=by left
theorem GW {kk} (Q:Gl X "zip") (hm:X.mg "zip"=Sw) (ha:PA X [l,m] ta) (N:To [l,m] X.env=(SN,eval l X.env)::To [m] X.env:=by rfl) (O:(backTo pos (To [m] X.env)).any (·.1)=SN:=by rfl):
  PI X (.Tuple elts kk tp) (.Call (.Name "zip" p) [l,m] [] pos) (Np X.K ta):=by
 intro f s y H R I h;refine Call_ (pR I Q hm Jt (Wb (cO (ha pos f s y H _ I h) fun us g ⟨vs,w,j,F,G⟩=> ?_) N O));obtain⟨a,c,Y,U,e,⟨xs,C⟩,⟨Z,B⟩,q⟩:=G;subst e;obtain⟨u,t,rfl,E,rt⟩:=B1 F;cases E;cases rt;obtain⟨TV,rx,r⟩:=p7 j C;obtain⟨M,ry,o⟩:=p7 j B;have T:∀b∈[g.heap.objs.size+4,g.heap.objs.size+2,g.heap.objs.size+3,g.heap.objs.size,g.heap.objs.size+1],pT X f w b:=fun b v=>by
  have i:g.heap.objs.size<=b:=by simp only[Tq,UE,or_false] at v;have S:=v;omega
  exact j.ZO i (j.Up.fresh i)
 refine EJ r o fun h1 n L J A z P=> ?_;refine aeS n ?_;exact⟨g.heap.objs.size+4,_,_,_,w,rfl,j.kept P,Il Y U _ _ _ _ _ a c (EW _ _ _ r.lt o.lt),⟨n,L,⟨_,_,J⟩,A,z⟩,T,q⟩
def QQ:T4->Bool
 | .Starred _ _=>Sz
 |_=>SN
theorem ve (e:T4) (es:List T4) (env:Env) (h:QQ e=SN):To (e::es) env=(SN,eval e env)::To es env:=by cases e<;>first|rfl|cases h
def k6:List D->List D->List D
 |x::r,y::q=> .tuple [x,y]::k6 r q
 |_,_=>[]
theorem yQ:∀(xs a:List D),(k6 xs a).length=min xs.length a.length
 |[],_=>by simp[k6]
 |_::_,[]=>by simp[k6]
 |_::r,_::q=>by simp only[k6,S3,yQ r q];omega
theorem yL:∀(xs a:List D) (i:Nat),(k6 xs a)[i]? =(xs[i]?).bind fun x=>(a[i]?).map fun y=> .tuple [x,y]
 |[],_,_=>by simp[k6]
 |x::r,[],i=>by cases i<;>simp[k6]
 |x::r,y::q,0=>by simp[k6]
 |x::r,y::q,i+1=>by simp only[k6,aag];exact yL r q i
section
variable {K:Ld} {E:XK} {B O Z:cw} {H0 H H':Hp} {σ:L2.St} {ρ ρ':bq} {v:V}
def aat (b:Bool) (O:cw) (K:Ld) (H:Hp) (a:SI) (xs:List V):Prop:=match b with
 |true=>XA O K H a xs
 |false=>Y1 O K H a xs
theorem aat.ev (h:aat b O K H a xs) (e:Ev O H Z H'):aat b Z K H' a xs:=by
 cases b with
 |true=>exact XA.ev h e
 |false=>exact Y1.ev h e
theorem aat.at (h:aat b O K H a xs):E1 b K H a xs:=by
 cases b with
 |true=>exact(show XA O K H a xs from h).1
 |false=>exact(show Y1 O K H a xs from h).1.sq
theorem Oy (h:aat b1 O K H a xs) (hd:US O K H xs ds) (g:aat b2 O K H c ys) (C:US O K H ys es):Ah K (RH K b1 b2 a c) O H (k6 ds es):=by
 intro Z H' e n;have j:=h.ev e;have f:=hd.ev e;have m:=g.ev e;have l:=C.ev e;rw[yQ];refine⟨fun i hi=> ?_,⟨xs,ys,j.at,m.at,?_⟩⟩
 .have w:i<ds.length:=by omega
  have u:i<es.length:=by omega
  obtain⟨x,A,dx⟩:=f.get (SM w);obtain⟨y,z,F⟩:=l.get (SM u);refine⟨⟨xs,ys,x,y,j.at,m.at,A,z⟩,?_⟩;rintro t G ⟨p,J,I,b,rfl,hx',hy',rfl⟩;have r:=hx' xs j.at;have o:=hy' ys m.at;rw[A] at r;rw[z] at o;cases r;cases o;refine⟨cy b _,.tuple [ds[i],es[i]],?_,.tup ⟨Xa.of aR,fun q=>absurd q (n p b)⟩ (.cons (dx.ev (Ev.grow (cy b _))) (.cons (F.ev (Ev.grow (cy b _))) .nil))⟩;rw[yL,SM w,SM u];rfl
 .rw[hd.length,C.length];omega
theorem MU (h:DV O K H v d) (q:fP d=lD ds):∃b a xs,v= .ref a/\aat b O K H a xs/\US O K H xs ds:=by
 cases h with
 |tup h e=>cases q;exact⟨Sz,_,_,rfl,h,e⟩
 |lst h e=>cases q;exact⟨SN,_,_,rfl,h,e⟩
 |_=>cases q
def zL (fa:FA):FI:=fun ρ=>(fa ρ).bind fun a=>(Res.TX (rm a.2 a.1)).bind fun b=>match b.1 with
 |[d,e]=>(Res.TX (fP d)).bind fun ds=>(Res.TX (fP e)).bind fun f=> .ok (k6 ds f,b.2)
 |_=> .bad
theorem FV (h:AO K E ta fa):IO K E (Np K ta) (zL fa):=by
 intro B H0 O σ H ρ N R w;refine h B H0 O σ H ρ _ R (w.bind.imp fun a b P vs J r G m=> ?_);obtain⟨⟨ds,i⟩,q,b⟩:=b.TX;obtain⟨I,p,R2,t⟩:=tY G m q;dsimp only at b;cases t with
 |nil=>exact b.elim
 |cons o e=>
  cases e with
  |nil=>exact b.elim
  |cons e n=>
   cases n with
   |cons _ _=>exact b.elim
   |nil=>obtain⟨M,l,b⟩:=WR.TX b;obtain⟨fs,j,b⟩:=WR.TX b;obtain⟨A,F,xs,rfl,g,y⟩:=MU o l;obtain⟨z,C,L,rfl,f,u⟩:=MU e j;exact⟨F,C,A,z,rfl,⟨_,g.at⟩,⟨_,f.at⟩,b I _ J (r.trans p) R2 (Oy g y f u)⟩
def g6 (d e:D):Option RV:=match d,e with
 | .str z,.int i=>if z.length<=1000000 then(mX z.cps.toList i).map fun c=> .fz (.str ⟨#[c]⟩) else Sw
 |_,_=>Sw
theorem wj:oi K (Rb K) g6:=by
 intro O H x y dx g rv Q n b a e q;unfold g6 at e;split at e
 .split at e
  .rename_i z i f
   cases qa:mX z.cps.toList i with
   |none=>rw[qa] at e;cases e
   |some c=>rw[qa] at e;cases e;cases b;cases a;exact .inr (.inr ⟨z,i,c,rfl,rfl,CQ f,qa,q.at (.str _)⟩)
  .cases e
 .cases e
end
end L3
namespace L3
open PySem L2
def RM (N C:bq->Prop) (T:RV->Prop):Res Fl->Prop
 | .ok (.nx ρ)=>N ρ
 | .ok (.ct ρ)=>C ρ
 | .ok (.rt v)=>T v
 |_=>False
structure Go (r:Res Fl) (N C:bq->Prop) (T:RV->Prop):Prop where
 out:RM N C T r
section
variable {ρ ρ1 ρ2 ρ3:bq} {f g:FS} {fe:FE} {pv:PV} {d:D} {rv:RV} {ds:List D} {N C:bq->Prop} {T:RV->Prop}
theorem Go.eq (e:r=r') (h:Go r' N C T):Go r N C T:=by rw[e];exact h
theorem Go.imp (h:Go r N C T) (b:∀ρ,N ρ->N' ρ) (e:∀ρ,C ρ->C' ρ) (a:∀v,T v->T' v):Go r N' C' T':=by
 refine⟨?_⟩;have h:=h.out;cases r with
 |bad=>exact h
 |er x=>exact h
 |ok i=>
  cases i with
  |nx r=>exact b _ h
  |ct r=>exact e _ h
  |rt v=>exact a _ h
  |bk r=>exact h
theorem Ga (h:Go (f ρ) (fun r=>Go (g r) N C T) C T):Go (bW f g ρ) N C T:=by
 refine⟨?_⟩;have h:=h.out;unfold bW;cases q:f ρ with
 |bad=>rw[q] at h;exact h.elim
 |er x=>rw[q] at h;exact h.elim
 |ok a=>
  rw[q] at h;cases a with
  |nx r=>exact(show Go (g r) N C T from h).out
  |ct r=>exact h
  |rt v=>exact h
  |bk r=>exact h.elim
theorem HD (h:c ρ= .ok (b,ρ1)) (a:b=Sz->Go (f ρ1) N C T) (e:b=SN->Go (g ρ1) N C T):Go (kO c f g ρ) N C T:=by
 unfold kO;rw[h,Res.bind_ok];cases b with
 |true=>exact a rfl
 |false=>exact e rfl
theorem Hs (b:fe ρ= .ok (pv,ρ1)) (a:gt pv ρ1= .ok ρ2) (h:N ρ2):Go (jg fe gt ρ) N C T:= .eq (AW b a rfl) ⟨h⟩
theorem wV (a:fe ρ= .ok (pv,ρ1)) (h:N ρ1):Go (rZ fe ρ) N C T:= .eq (DA a) ⟨h⟩
theorem gA (b:fe ρ= .ok (pv,ρ1)) (a:DQ ρ1 pv=lD rv) (h:T rv):Go (dG fe ρ) N C T:= .eq (qv b a) ⟨h⟩
theorem wc (h:N ρ):Go (dB ρ) N C T:=⟨h⟩
theorem B3 (I:Nat->bq->Prop):∀(ds:List D) (k:Nat) (ρ:bq),I k ρ->(∀i d ρ,ds[i]? =lD d->I (k+i) ρ->∃ρ1,gt (.fz d) ρ= .ok ρ1/\Go (b ρ1) (I (k+i+1)) (I (k+i+1)) T)->Go (rj gt b ds ρ) (I (k+ds.length)) C T
 |[],k,ρ,h0,_=>⟨h0⟩
 |d::r,k,ρ,h0,hs=>by
  obtain⟨ρ1,o,a⟩:=hs 0 d ρ rfl h0;have a:=a.out;have l:∀j,I (k+1) j->Go (rj gt b r j) (I (k+(r.length+1))) C T:=fun j h=>by
   have e:k+(r.length+1)=k+1+r.length:=by omega
   rw[e];refine B3 I r (k+1) j h fun i t m hi n=> ?_;have e:k+1+i=k+(i+1):=by omega
   rw[e] at n⊢;exact hs (i+1) t m (by simpa using hi) n
  refine⟨?_⟩;show RM _ _ _ ((gt (.fz d) ρ).bind _);rw[o,Res.bind_ok];cases q:b ρ1 with
  |bad=>rw[q] at a;exact a.elim
  |er x=>rw[q] at a;exact a.elim
  |ok p=>
   rw[q] at a;cases p with
   |nx r=>exact(l _ a).out
   |ct r=>exact(l _ a).out
   |rt v=>exact a
   |bk r=>exact a.elim
theorem GQ (I:Nat->bq->Prop) (hi:fi ρ= .ok (ds,ρ1)) (j:I 0 ρ1) (a:∀i d ρ,ds[i]? =lD d->I i ρ->∃ρ1,gt (.fz d) ρ= .ok ρ1/\Go (b ρ1) (I (i+1)) (I (i+1)) T) (e:∀ρ',I ds.length ρ'->N ρ'):Go (pQ fi gt b ρ) N C T:=by have:=B3 (C:=C) I ds 0 ρ1 j (by simpa using a);rw[Ud] at this;exact .eq (Al hi) (this.imp e (fun _ h=>h) fun _ h=>h)
theorem sK (a:ds.map (fun d=>lD (.fz d))++SS (n - ds.length) Sw=ρ) (h:Go (g ρ) (fun _=>T (.fz .none)) (fun _=>False) T):∃rv,gR n g ds= .ok rv/\T rv:=by
 have h:=h.out;unfold gR;rw[a];cases q:g ρ with
 |bad=>rw[q] at h;exact h.elim
 |er x=>rw[q] at h;exact h.elim
 |ok b=>
  rw[q] at h;cases b with
  |nx r=>exact⟨_,rfl,h⟩
  |ct r=>exact h.elim
  |rt v=>exact⟨_,rfl,h⟩
  |bk r=>exact h.elim
theorem ja (a:ds.map (fun d=>lD (.fz d))++SS (n - ds.length) Sw=ρ) (h:Go (g ρ) (fun _=>RV.fz .none=v) (fun _=>False) (fun r=>r=v)):gR n g ds= .ok v:=by obtain⟨rv,e,b⟩:=sK (T:=fun r=>r=v) a h;rw[e,b]
theorem fW (b:fe ρ= .ok (pv,ρ1)) (a:gt pv ρ1= .ok ρ2) (hn:ρ2=ρ3) (h:Go (g ρ3) N C T):Go (bW (jg fe gt) g ρ) N C T:= .eq (Ho (AW b a hn)) h
theorem jB (b:fe ρ= .ok (pv,ρ1)) (a:DQ ρ1 pv=lD rv) (h:T rv):Go (bW (dG fe) g ρ) N C T:= .eq (G1 (qv b a)) ⟨h⟩
theorem dZ (h:Go (g ρ) N C T):Go (bW dB g ρ) N C T:= .eq rfl h
theorem DS:bW (bW f1 f2) g ρ=bW f1 (bW f2 g) ρ:=by
 unfold bW;cases f1 ρ with
 |bad=>rfl
 |er x=>rfl
 |ok a=>cases a<;>rfl
theorem FD (h:Go (bW f1 (bW f2 g) ρ) N C T):Go (bW (bW f1 f2) g ρ) N C T:= .eq DS h
theorem jx (i:c ρ= .ok (b,ρ1)) (a:b=Sz->Go (bW f1 g ρ1) N C T) (h:b=SN->Go (bW f2 g ρ1) N C T):Go (bW (kO c f1 f2) g ρ) N C T:=by
 have e:bW (kO c f1 f2) g ρ=if b=Sz then bW f1 g ρ1 else bW f2 g ρ1:=by unfold bW kO;rw[i,Res.bind_ok];cases b<;>rfl
 refine .eq e ?_;cases b with
 |true=>exact a rfl
 |false=>exact h rfl
theorem uv (I:Nat->bq->Prop) (hi:fi ρ= .ok (ds,ρ1)) (h:I 0 ρ1) (a:∀i d ρ,ds[i]? =lD d->I i ρ->∃ρ1,gt (.fz d) ρ= .ok ρ1/\Go (b ρ1) (I (i+1)) (I (i+1)) T) (e:∀ρ',I ds.length ρ'->Go (g ρ') N C T):Go (bW (pQ fi gt b) g ρ) N C T:=
 Ga (GQ I hi h a e)
theorem u9 (I:bq->Prop) (P:Nat->D->Prop):∀(ds:List D) (k:Nat) (ρ:bq) (a:List D),I ρ->a.length+ds.length<=1000000->(∀i d,ds[i]? =lD d->∀ρ,I ρ->∃x ρ',lj gt ft fe d ρ= .ok (lD x,ρ')/\I ρ'/\P (k+i) x)->
  ∃xs,dU gt ft fe ds ρ a= .ok (a++xs)/\xs.length=ds.length/\∀i x,xs[i]? =lD x->P (k+i) x
 |[],k,ρ,a,_,_,_=>⟨[],by show Res.ok a=_;simp,rfl,fun i x h=>by simp at h⟩
 |d::r,k,ρ,a,h0,hl,hs=>by
  obtain⟨x,ρ',o,n,m⟩:=hs 0 d rfl ρ h0;rw[S3] at hl;obtain⟨xs,t,q,p⟩:=u9 I P r (k+1) ρ' (a++[x]) n (by rw[SH];simp;omega) fun i u hi b l=>by
   have e:k+1+i=k+(i+1):=by omega
   rw[e];exact hs (i+1) u (by simpa using hi) b l
  refine⟨x::xs,?_,by rw[S3,q,S3],fun i y j=> ?_⟩
  .rw[uj o (by omega)];show dU gt ft fe r ρ' (a++[x])=_;rw[t,Tg];rfl
  .cases i with
   |zero=>cases(show lD x=lD y from j);exact m
   |succ i=>
    have e:k+(i+1)=k+1+i:=by omega
    rw[e];exact p i y (by simpa using j)
theorem yD (I:bq->Prop) (P:Nat->D->Prop) (e:I ρ) (b:ds.length<=1000000) (a:∀i d,ds[i]? =lD d->∀ρ,I ρ->∃x ρ',lj gt ft fe d ρ= .ok (lD x,ρ')/\I ρ'/\P i x):
  ∃xs,kR (dU gt ft fe ds ρ [])= .ok xs/\xs.length=ds.length/\∀i x,xs[i]? =lD x->P i x:=by
 obtain⟨xs,l,j,h⟩:=u9 I P ds 0 ρ [] e (by simpa using b) (by simpa using a);exact⟨xs,by rw[l];rfl,j,by simpa using h⟩
theorem wu {α:Type} {f:α->D} {Q:Nat->α->Prop}:∀(xs:List D) (k:Nat),(∀i x,xs[i]? =lD x->∃a,x=f a/\Q (k+i) a)->∃as:List α,xs=as.map f/\∀i a,as[i]? =lD a->Q (k+i) a
 |[],_,_=>⟨[],rfl,fun i a h=>by simp at h⟩
 |x::r,k,h=>by
  obtain⟨a,e,q⟩:=h 0 x rfl;obtain⟨as,n,l⟩:=wu (f:=f) (Q:=Q) r (k+1) fun i y m=>by
   have e:k+1+i=k+(i+1):=by omega
   rw[e];exact h (i+1) y (by simpa using m)
  refine⟨a::as,by rw[e,n];rfl,fun i b j=> ?_⟩;cases i with
  |zero=>cases(show lD a=lD b from j);exact q
  |succ i=>
   have e:k+(i+1)=k+1+i:=by omega
   rw[e];exact l i b (by simpa using j)
theorem Rs (ha:SG.strOk a=Sz) (e:SG.strOk b=Sz):dC (.str a) (.str b)=lD (.fz (.bool (a==b))):=by unfold dC;rw[show m9 (.str a)=Sz by unfold m9;rw[show SG.canLay0 (.str a)=Sz from ha];rfl,show SG.canLay0 (.str b)=Sz from e,Vl,if_pos rfl];rfl
theorem Mx (ha:SG.strOk a=Sz):dC (.str a) (.str a)=lD (.fz (.bool Sz)):=by rw[Rs ha ha,beq_self_eq_true]
theorem B0 (ha:SG.strOk a=Sz) (e:SG.strOk b=Sz) (h:(a==b)=SN):dC (.str a) (.str b)=lD (.fz (.bool SN)):=by rw[Rs ha e,h]
theorem xk {α:Type} {xs:List α} {i:Int} {v:α} (a:0<=i) (h:xs[i.toNat]? =lD v):mX xs i=lD v:=Ov a h
theorem J3 (a:0<=i) (h:ds[i.toNat]? =lD d):bw (.list ds) (.int i)=lD (.fz d):=by show(mX ds i).map RV.fz=_;rw[xk a h];rfl
theorem K4 {s:List Nat} (e:s.Pairwise (·<·)) (h:∀k∈s,k<n):s.length<=n:=by
 have:∀(s:List Nat) (a:Nat),s.Pairwise (·<·)->(∀k∈s,a<=k/\k<n)->s.length<=n - a:=by
  intro s
  induction s with
  |nil=>intro a _ _;exact T5 _
  |cons x r i=>intro a e h;obtain⟨l,j⟩:=WI.mp e;have m:=h x S5;have:=i (x+1) j fun k b=>⟨l k b,(h k (S2 _ b)).2⟩;rw[S3];omega
 exact this s 0 e fun k b=>⟨T5 _,h k b⟩
theorem xh (ha:fr ρ= .ok (ps,ρ1)) (hd:rm ρ1 ps=lD ([d,e],ρ2)) (b:fP d=lD es) (a:fP e=lD fs):zL fr ρ= .ok (k6 es fs,ρ2):=by unfold zL;rw[ha,Res.bind_ok,hd,aZ,Res.bind_ok];dsimp only;rw[b,aZ,Res.bind_ok,a,aZ,Res.bind_ok]
theorem sV {f g:D->D->Option RV} (ha:fa ρ= .ok (pa,ρ)) (j:fb ρ= .ok (pb,ρ)) (i:fc ρ= .ok (pc,ρ)) (b:uA ρ (cZ pa)=lD dx) (a:uA ρ (cZ pb)=lD dy) (hz:uA ρ pc=lD dz) (h:f dx dy=lD (.fz (.bool b1))) (e:b1=Sz->g dy dz=lD (.fz (.bool b2))):tV f g fa fb fc ρ= .ok (.fz (.bool (b1&&b2)),ρ):=by
 unfold tV;rw[ha,Res.bind_ok,j,Res.bind_ok];dsimp only;rw[b,aZ,Res.bind_ok,a,aZ,Res.bind_ok,h,aZ,Res.bind_ok];cases b1 with
 |false=>rfl
 |true=>dsimp only;rw[i,Res.bind_ok];dsimp only;rw[a,aZ,Res.bind_ok,hz,aZ,Res.bind_ok,e rfl,aZ,Res.bind_ok];rfl
end
end L3
namespace L3
open PySem PySem.Spec PyProof.Rows L2 PySem.Builtin PySem.Builtin.Str
end L3
namespace PySem
open Sem (wp)
open AutoSeq1 (wpAny_loadPart')
open Builtin Builtin.Str
end PySem
namespace PySem
open Sem (wp)
open Builtin Builtin.Str
end PySem
namespace L3
open PySem PySem.Spec PyProof.Rows L2 PySem.Builtin
end L3
namespace L3
open PySem L2
end L3
namespace L2
open PySem PySem.Spec PyProof.Rows
end L2
namespace L3
open PySem PySem.Spec L2
end L3
namespace L2
open PySem PySem.Spec PyProof.Rows
section
variable {κ:Type} [DecidableEq κ]
def kQ (Ti:List (κ×V)) (k:κ):Option V:=(Ti.find? fun a=>decide (a.1=k)).map (·.2)
def jN (Ti:List (κ×V)) (k:κ) (v:V):List (κ×V):=
 if(Ti.any fun a=>decide (a.1=k))=Sz then Ti.map (fun a=>if a.1=k then(a.1,v) else a) else Ti++[(k,v)]
def pi (Ti:List (κ×V)) (k:κ):List (κ×V):=Ti.filter fun a=>decide (a.1≠k)
theorem t9 {k:κ} (e:p.1=k):kQ (p::r) k=lD p.2:=by simp[kQ,TQ,e]
theorem sQ {k:κ} (e:¬p.1=k):kQ (p::r) k=kQ r k:=by simp[kQ,TQ,e]
theorem z5 (k:κ):∀Ti:List (κ×V),(Ti.any fun kv=>decide (kv.1=k))=(kQ Ti k).isSome
 |[]=>rfl
 |p::r=>by
  rw[Wk];by_cases e:p.1=k
  .simp only[t9 e,decide_eq_true e,V2,abc]
  .rw[sQ e,decide_eq_false e,W4];exact z5 k r
theorem lC (Ti:List (κ×V)) (k:κ) (v:V):(jN Ti k v).length<=Ti.length+1:=by
 unfold jN;split
 .rw[Sy];omega
 .rw[SH,S3,U2];omega
theorem WZ.XN (r:WZ o u):o.isSome=u.isSome:=by
 cases o with
 |none=>cases u with
  |none=>rfl
  |some _=>exact(show False from r).elim
 |some _=>cases u with
  |none=>exact(show False from r).elim
  |some _=>rfl
theorem KV.val {Ti:List (κ×V)} {vs:List (κ×Sx)} (r:KV Ti vs) (k:κ):WZ (kQ Ti k) (valueAt vs k):=by
 unfold KV at r
 induction r with
 |nil=>exact True.intro
 | @cons p q ps qs h t ih=>
  obtain⟨f,g⟩:=h;by_cases e:p.1=k
  .have a:q.1=k:=f.symm.trans e
   have b:valueAt (q::qs) k=lD q.2:=by simp[valueAt,TQ,a]
   rw[t9 e,b];exact g
  .have a:¬q.1=k:=fun z=>e (f.trans z)
   have b:valueAt (q::qs) k=valueAt qs k:=by simp[valueAt,TQ,a]
   rw[sQ e,b];exact ih
theorem KV.any (r:KV Ti vs) (k:κ):(Ti.any fun kv=>decide (kv.1=k))=vs.any fun kv=>decide (kv.1=k):=by
 unfold KV at r
 induction r with
 |nil=>rfl
 |cons h t a=>rw[Wk,Wk,a,h.1]
theorem KV.adS (r:KV Ti vs) (k:κ) (b:RelV y u):
  KV (Ti.map fun kv=>if kv.1=k then(kv.1,y) else kv) (vs.map fun kv=>if kv.1=k then(kv.1,u) else kv):=by
 unfold KV at r⊢
 induction r with
 |nil=>exact .nil
 | @cons p q ps qs h t ih=>
  rw[S6,S6];refine .cons ?_ ih;obtain⟨a,f⟩:=h;by_cases e:p.1=k
  .rw[if_pos e,if_pos (a.symm.trans e)];exact⟨a,b⟩
  .rw[if_neg e,if_neg (fun z=>e (a.trans z))];exact⟨a,f⟩
theorem KV.put (r:KV Ti vs) (k:κ) (a:RelV y u):KV (jN Ti k y) (stored vs k u):=by
 unfold jN stored;rw[r.any k];by_cases e:(vs.any fun b=>decide (b.1=k))=Sz
 .rw[if_pos e,if_pos e];exact r.adS k a
 .rw[if_neg e,if_neg e];exact Paired.snoc r ⟨rfl,a⟩
theorem KV.drop (r:KV Ti vs) (k:κ):KV (pi Ti k) (without vs k):=by
 unfold KV at r⊢;unfold pi without
 induction r with
 |nil=>exact .nil
 | @cons p q ps qs h t ih=>
  obtain⟨f,g⟩:=h;rw[Xg,Xg];by_cases e:p.1=k
  .have a:¬decide (p.1≠k)=Sz:=by simp[e]
   have b:¬decide (q.1≠k)=Sz:=by simp[f.symm.trans e]
   rw[if_neg a,if_neg b];exact ih
  .have i:¬q.1=k:=fun z=>e (f.trans z)
   have a:decide (p.1≠k)=Sz:=by simp[e]
   have b:decide (q.1≠k)=Sz:=by simp[i]
   rw[if_pos a,if_pos b];exact .cons ⟨f,g⟩ ih
theorem KV.keys {vs:List (κ×Sx)} (r:KV Ti vs):Ti.map (·.1)=vs.map (·.1):=by
 unfold KV at r
 induction r with
 |nil=>rfl
 |cons h t a=>rw[S6,S6,a,h.1]
theorem KV.length (r:KV Ti vs):Ti.length=vs.length:=Paired.length r
theorem Fp (Ti:List (κ×V)) (k:κ):(pi Ti k).length<=Ti.length:=XJ _ _
end
theorem vC (r:RelV (kV k) u):(dj P w).is k u=Sz:=by
 cases k with
 |inl i=>obtain⟨t,e⟩:=(show∃t,u=Sx.int i t from r);subst e;exact yi P w i t
 |inr x=>obtain⟨t,e⟩:=(show∃t,u=Sx.str x t from r);subst e;exact yg P w x t
theorem vp:∀{ks:List cT} {us:List Sx},Vals (ks.map kV) us->ItemsAre (dj P w) ks us
 |[],_,r=>by rw[V0] at r;cases r;exact .nil
 |k::ks,_,r=>by
  rw[S6] at r;cases r with
  |cons h t=>exact .cons (vC h) (vp t)
abbrev KT (H:Hp):List (List cT×V)->List (List cT×SI×Sx)->Prop:=Paired fun p q=>p.1=q.1/\H q.2.1=lD (.tup (p.1.map kV))/\RelV p.2 q.2.2
theorem KT.val (r:KT H Ti xs) (k:List cT):WZ (kQ Ti k) ((atKey xs k).map (·.2)):=by
 induction r with
 |nil=>exact True.intro
 | @cons p q ps qs h t ih=>
  obtain⟨f,_,g⟩:=h;by_cases e:p.1=k
  .have a:=f.symm.trans e
   have b:atKey (q::qs) k=lD q.2:=by simp[atKey,TQ,a]
   rw[t9 e,b];exact g
  .have a:¬q.1=k:=fun z=>e (f.trans z)
   have b:atKey (q::qs) k=atKey qs k:=by simp[atKey,TQ,a]
   rw[sQ e,b];exact ih
theorem KT.adS (r:KT H Ti xs) (k:List cT) (f:RelV y u):
  KT H (Ti.map fun kv=>if kv.1=k then(kv.1,y) else kv) (xs.map (putAt k u)):=by
 induction r with
 |nil=>exact .nil
 | @cons p q ps qs h t ih=>
  rw[S6,S6];refine .cons ?_ ih;obtain⟨a,b,g⟩:=h;unfold putAt;by_cases e:p.1=k
  .rw[if_pos e,if_pos (a.symm.trans e)];exact⟨a,b,f⟩
  .rw[if_neg e,if_neg (fun z=>e (a.trans z))];exact⟨a,b,g⟩
theorem KT.put (r:KT H Ti xs) (k:List cT) (g:H b=lD (.tup (k.map kV))) (a:RelV y u):
  KT H (jN Ti k y) (storedH xs k b u):=by
 have e:(Ti.any fun f=>decide (f.1=k))=(atKey xs k).isSome:=by rw[z5,(r.val k).XN,Yy]
 unfold jN storedH;rw[e];by_cases q:(atKey xs k).isSome=Sz
 .rw[if_pos q,if_pos q];exact r.adS k a
 .rw[if_neg q,if_neg q];exact Paired.snoc r ⟨rfl,g,a⟩
theorem KT.keeps (r:KT H Ti xs) (a:∀b ys,H b=lD (.tup ys)->H' b=lD (.tup ys)):KT H' Ti xs:=
 Paired.W0 r fun _ _ z=>⟨z.1,a _ _ z.2.1,z.2.2⟩
section
variable {P:Te} {w:TF} {H:Hp} {h:Heap} {a:SI}
theorem MP (ok:XM P w H h) (e:Rd H a u):ObjOk P w H h a u:=e.ok ok
theorem zX (ok:XM P w H h) (e:Rd H a (.dK Ti)):Ti.length<=SY/\(a==Us)=SN/\∃vs,KV Ti vs/\h.DictOf (dj P w) a vs:=
 show ObjOk P w H h a (.dK Ti) from MP ok e
theorem zg (ok:XM P w H h) (e:H a=lD (.dK Ti)):Ti.length<=SY/\(a==Us)=SN/\∃vs,KV Ti vs/\h.DictOf (dj P w) a vs:=zX ok (.inl e)
theorem x4 {ks:List cT} (ok:XM P w H h) (e:H a=lD (.tup (ks.map kV))):(tupleKind (dj P w)).is h ks a:=by obtain⟨_,i,r,o,g,⟨f,n,b⟩,_⟩:=(show ObjOk P w H h a (.tup (ks.map kV)) from ok a _ e);exact⟨o,i.toArray,n,g,f,b,by simpa using vp r⟩
theorem zW (ok:XM P w H h) (e:Rd H a (.dT Ti)):Ti.length<=SY/\(a==Us)=SN/\
  ∃xs,KT H Ti xs/\h.DictOfH (tupleKind (dj P w)) a xs:=by
 obtain⟨z,y,xs,r,o,u,v,n,j,i,g,f⟩:=(show ObjOk P w H h a (.dT Ti) from MP ok e);refine⟨z,y,xs,r,o,u,v,n,j,i,g,fun x b=> ?_,f⟩;have all:∀{l:List (List cT×V)} {m:List (List cT×SI×Sx)},KT H l m->∀x∈m,(tupleKind (dj P w)).is h x.1 x.2.1:=by
  intro l m q
  induction q with
  |nil=>intro x b;exact nomatch b
  | @cons p q ps qs hq t ih=>
   intro x b;rcases Tq.mp b with e|b
   .subst e;exact x4 ok (by rw[<-hq.1];exact hq.2.1)
   .exact ih x b
 exact all r x b
theorem Qh (ok:XM P w H h) (e:H a=lD (.dT Ti)):Ti.length<=SY/\(a==Us)=SN/\
  ∃xs,KT H Ti xs/\h.DictOfH (tupleKind (dj P w)) a xs:=zW ok (.inl e)
end
def ZQ (H:Hp) (a:SI) (y:V) (r:Option V):Prop:=
 (∃Ti k,Rd H a (.dK Ti)/\y=kV k/\r=kQ Ti k)\/∃Ti k b,Rd H a (.dT Ti)/\y= .ref b/\H b=lD (.tup (k.map kV))/\r=kQ Ti k
def ab6 (H:Hp) (a:SI) (y v:V) (H':Hp):Prop:=
 (∃Ti k,H a=lD (.dK Ti)/\y=kV k/\Ti.length<SY/\H'=bJ H a (.dK (jN Ti k v)))\/
 ∃Ti k b,H a=lD (.dT Ti)/\y= .ref b/\H b=lD (.tup (k.map kV))/\Ti.length<SY/\H'=bJ H a (.dT (jN Ti k v))
theorem ZQ.k {k:cT} (e:H a=lD (.dK Ti)):ZQ H a (kV k) (kQ Ti k):= .inl ⟨Ti,k,.inl e,rfl,rfl⟩
theorem ab6.k {k:cT} (e:H a=lD (.dK Ti)) (b:Ti.length<SY):ab6 H a (kV k) v (bJ H a (.dK (jN Ti k v))):= .inl ⟨Ti,k,e,rfl,b,rfl⟩
section
variable {X:Cx} {Z:List (SI×Obj)} {Y:St} {H:Hp} {s:SK} {a:SI} {y v:V} {u r:Sx} {o:Option V} {A:Tw} {E:Sx->SK->Prop}
theorem Inv.big (I:Inv X Z Y H s):Us<s.heap.objs.size:=by have h:=(I.mod.glob.keeps I.bk).lt;exact V8 (by decide) h
theorem Eh {Q:Sx->SK->Prop} (t:A.units+1<cLine) (I:Inv X Z Y H s) (g:ZQ H a y (lD v)) (q:RelV y u) (h:∀w' s',Inv X Z Y H s'->RelV v w'->Q w' s'):
  wpAny (model X.prog X.w) A (getItem (.ref a) u) Q E s:=by
 rcases g with⟨Ti,k,e,m,l⟩|⟨Ti,k,b,e,m,F,l⟩
 .subst m;obtain⟨z,C,vs,f,dd⟩:=zX I.Up e;obtain⟨w',i,n⟩:=WZ.some_of (v:=v) (o:=valueAt vs k) (by rw[l];exact f.val k);exact wpAny_getItem_of (vC q) dd.mapOf i (h w' _ (I.tok _) n)
 .subst m;cases(show u=Sx.ref b from q);obtain⟨z,C,xs,f,dd⟩:=zW I.Up e;obtain⟨w',i,n⟩:=WZ.some_of (v:=v) (o:=(atKey xs k).map (·.2)) (by rw[l];exact f.val k);obtain⟨p,B,j⟩:=ZZ.mp i;refine adB (Y6 t) (x4 I.Up F) dd B ?_;rw[j];exact h w' _ (I.tok _) n
theorem Rj {Q:Sx->SK->Prop} (n:A.units+1<cLine) (I:Inv X Z Y H s) (g:ZQ H a y o) (m:RelV y u) (h:∀s',Inv X Z Y H s'->Q (.bool o.isSome) s'):
  wpAny (model X.prog X.w) A (UJ .In u (.ref a)) Q E s:=by
 rcases g with⟨Ti,k,e,j,l⟩|⟨Ti,k,b,e,j,p,l⟩
 .subst j;obtain⟨z,i,vs,f,dd⟩:=zX I.Up e;refine wpAny_in_of (vC m) i dd.mapOf ?_;rw[<-(f.val k).XN,<-l];exact h _ (I.tok _)
 .subst j;cases(show u=Sx.ref b from m);obtain⟨z,i,xs,f,dd⟩:=zW I.Up e;refine wpAny_in_heap (Y6 n) (x4 I.Up p) i dd ?_;have q:=(f.val k).XN;rw[Yy] at q;rw[<-q,<-l];exact h _ (I.tok _)
theorem ox {h':Heap} {t':Nat} {f:HO} (I:Inv X Z Y H s) (g:Qd (H a)) (h:Heap.SameBut a s.heap h') (i:∃q,h'.get? a=lD q) (new:ObjOk X.prog X.w (bJ H a f) h' a f):
  Inv X Z Y (bJ H a f) {s with heap:=h',toks:=t'}:=
 I.write (x:=a) (e:=a) g (.inl rfl) (fun b q j z=>(h.2 b j).trans z) i new
theorem AU (z:Ti.length<=SY) (hd:(a==Us)=SN) (b:KV Ti vs) (dd:h'.DictOf (dj P w) a vs):
  ObjOk P w H' h' a (.dK Ti):=⟨z,hd,vs,b,dd⟩
theorem Eg {H':Hp} {Q:Unit->SK->Prop} (L:A.units+1<cLine) (I:Inv X Z Y H s) (g:ab6 H a y v H') (F:RelV y u) (rv:RelV v r) (h:∀s',Inv X Z Y H' s'->Q () s'):
  wpAny (model X.prog X.w) A (setItem (.ref a) u r) Q E s:=by
 rcases g with⟨Ti,k,e,B,l,C⟩|⟨Ti,k,b,e,B,K,l,C⟩
 .subst B C
  obtain⟨z,t,vs,f,dd⟩:=zg I.Up e;have m:vs.length<=SY:=by rw[<-f.length];exact z
  have p:(jN Ti k v).length<=SY:=by have:=lC Ti k v;omega
  refine wpAny_setItem_pairs (hsz:=m) (vC F) dd fun G i n=>h _ ?_;have M:∃q,G.get? a=lD q:=let⟨q,_,_,j,_⟩:=i;⟨q,j⟩
  exact ox I (by rw[e];exact True.intro) n M (AU p t (f.put k rv) i)
 .subst B C
  cases(show u=Sx.ref b from F);obtain⟨z,t,xs,f,dd⟩:=Qh I.Up e;have m:xs.length<=SY:=by rw[<-Paired.length f];exact z
  have p:(jN Ti k v).length<=SY:=by have:=lC Ti k v;omega
  refine adC (hsz:=m) (Y6 L) (x4 I.Up K) dd fun G i n=>h _ ?_;obtain⟨q,S,T,j,R,P,O,_,N⟩:=i;refine ox I (by rw[e];exact True.intro) n ⟨q,j⟩ ⟨p,t,_,(f.put k K rv).keeps fun c U J=> ?_,q,S,T,j,R,P,O,N⟩;rw[aD (Qg J e (fun z=>nomatch z))];exact J
end
section
variable {X:Cx} {Z:List (SI×Obj)} {σ:St} {H:Hp} {s:SK} {a:SI} {Y:List (cT×V)} {k:cT} {u:Sx} {A:Tw} {E:Sx->SK->Prop}
theorem QN {v:V} {b:List Sx} {Q:Sx->SK->Prop} (I:Inv X Z σ H s) (e:H a=lD (.dK Y)) (j:RelV (kV k) u) (l:kQ Y k=lD v) (hm:b=[]\/∃x,b=[x])
  (h:∀w' s',Inv X Z σ (bJ H a (.dK (pi Y k))) s'->RelV v w'->Q w' s'):wpAny (model X.prog X.w) A (call (.builtin "dict.pop") (.ref a::u::b)) Q E s:=by
 obtain⟨z,y,vs,f,dd⟩:=zg I.Up e;obtain⟨w',m,C⟩:=WZ.some_of (v:=v) (o:=valueAt vs k) (by rw[<-l];exact f.val k);have p:(keyPart u).isSome=Sz:=by
  cases k with
  |inl i=>obtain⟨t,q⟩:=(show∃t,u=Sx.int i t from j);subst q;rfl
  |inr x=>obtain⟨t,q⟩:=(show∃t,u=Sx.str x t from j);subst q;rfl
 have ha:argsOk "dict.pop" ⟨.ref a::u::b,[]⟩:=by
  rcases hm with q|⟨x,q⟩
  .subst q;exact PySem.F.args_dict_pop_2 _ _
  .subst q;exact PySem.F.args_dict_pop_3 _ _ _
 refine Zp Z7 dd.typeIs PySem.F.entry_dict_pop ha (meets_dict_pop_there (dj X.prog X.w) a (vC j) b hm p)
  ⟨vs,w',dd,by rw[<-f.length];exact z,m,fun B g n=>h w' _ ?_ C⟩
 have r:∃q,B.get? a=lD q:=let⟨q,_,_,hq,_⟩:=g;⟨q,hq⟩
 exact ox I (by rw[e];exact True.intro) n r (AU (TJ (Fp Y k) z) y (f.drop k) g)
end
def NM (i:T4):Prop:=∀ov iv,subscripted i SN ov iv=operate [ov,iv] (getItem ov iv)
theorem CY {T l:String}
  (n:typeLookup (.type T) "__getitem__"=pure (lD (.builtin l))) (m:NM slice)
  (h:wpAny (model prog w) A (eval value env) (fun o s₁=>wpAny (model prog w) A (eval slice env) (fun i s₂=>s₂.TypeIs o T/\wpAny (model prog w) A (getItem o i) Q E s₂) E s₁) E s):
  wpAny (model prog w) A (eval (.Subscript value slice pos) env) Q E s:=by
 refine Subscript_ (wpAny_mono h (fun o s₁ g=>wpAny_mono g (fun i s₂ a=> ?_) fun _ _ x=>x) fun _ _ x=>x);obtain⟨j,a⟩:=a;unfold subscriptTail;refine Sv ?_;rw[getitemInPython_of_ne j.not_modules];refine Sv (afP j n ?_);have e:wpAny (model prog w) A (subscripted slice SN o i) (fun r b=>wpAny (model prog w) A (letTemporaryGo value o r>>=fun _=>pure r) Q E b) E s₂:=by rw[m o i];exact wpAny_operating (wpAny_mono a (fun r b f=>Sv (wpAny_letTemporaryGo (SQ f))) fun _ _ x=>x)
 first
  |exact SQ (Sv e)
  |exact Sv (SQ (Sv e))
  |exact Sv e
theorem yW (I:Inv X pins σ H s) (g:ZQ H a y o):s.TypeIs (.ref a) "dict":=by
 rcases g with⟨Ti,k,e,_,_⟩|⟨Ti,k,b,e,_,_,_⟩
 .obtain⟨_,_,vs,_,dd⟩:=zX I.Up e;exact dd.typeIs
 .obtain⟨_,_,xs,_,dd⟩:=zW I.Up e;exact dd.typeIs
def MG (f ty:TE):TE:=fun b H Q=>f b H fun x g=>ty b g fun y e=>∃a v,x= .ref a/\ZQ e a y (lD v)/\Q v e
def QO (ty f:TE):TE:=fun b H Q=>ty b H fun y g=>f b g fun x e=>∃a o,x= .ref a/\ZQ e a y o/\Q (.bl o.isSome) e
def M7 (f ty e:TE):TS:=fun D b H=>e b H fun v i=>f b i fun x h=>ty b h fun y g=>∃a H4,x= .ref a/\ab6 g a y v H4/\D.nx b H4
section
variable {X:Cx} {o i e Z:T4} {pos Y ahP:Pos} {T U tv:TE}
theorem BW (r:X.A.units+1<cLine) (w:PE X o T) (hi:PE X i U) (t:NM i):PE X (.Subscript o i pos) (MG T U):=by intro b s f H Q I h;refine CY Zk.lookup t (cO (w b s f H _ I h) fun u l ⟨x,G,E,n,q⟩=>cO (hi b l f G _ E q) fun M L ⟨y,F,j,m,a,v,z,g,p⟩=> ?_);subst z;obtain rfl:=n;exact⟨yW j g,Eh r j g m fun J K C B=>⟨v,F,C,B,p⟩⟩
theorem NB (r:X.A.units+1<cLine) (hi:PE X i U) (t:PE X o T):PC X .In i o (QO U T):=by intro b s f H Q I h;refine cO (hi b s f H _ I h) fun J j ⟨y,E,B,l,p⟩=>cO (t b j f E _ B p) fun u G ⟨x,C,z,m,a,q,v,g,n⟩=> ?_;subst v;obtain rfl:=m;exact Rj r z g l fun F w=>⟨.bl q.isSome,C,w,rfl,n⟩
theorem LW (z:X.A.units+1<cLine) (C:PE X o T) (hi:PE X i U) (w:PE X Z tv) (B:UB Z (lD (.Subscript o i Y)) pos.line X.env=pure SN):
  PS X (.Assign [.Subscript o i Y] Z pos) (M7 T U tv):=by
 intro b s f H D I h;refine abO (cO (w b s f H _ I h) fun r l ⟨v,N,K,rv,t⟩=>cO (C b l f N _ K t) fun u j ⟨x,M,J,n,q⟩=>cO (hi b j f M _ J q) fun Q P ⟨y,R,G,m,a,L,E,g,p⟩=> ?_) B;subst E;obtain rfl:=n;exact Eg z G g m rv fun O F=>⟨f,L,F,p⟩
end
def p9 (Ti a:List (cT×V)):List (cT×V):=a.foldl (fun b e=>jN b e.1 e.2) Ti
theorem KV.merge:∀{a:List (cT×V)} {b:List (cT×Sx)} {Ti:List (cT×V)} {vs:List (cT×Sx)},KV a b->KV Ti vs->KV (p9 Ti a) (merged vs b):=by
 intro a b Ti vs r;unfold KV at r
 induction r generalizing Ti vs with
 |nil=>intro q;exact q
 | @cons p q ps qs h t ih=>
  intro r0;have e:KV (jN Ti p.1 p.2) (stored vs q.1 q.2):=by have:=r0.put p.1 h.2;rw[<-h.1];exact this
  exact ih e
theorem nj:∀(a Ti:List (cT×V)),(p9 Ti a).length<=Ti.length+a.length
 |[],Ti=>by show Ti.length<=Ti.length+0;omega
 |p::r,Ti=>by have e:=nj r (jN Ti p.1 p.2);have b:=lC Ti p.1 p.2;show(p9 (jN Ti p.1 p.2) r).length<=_;rw[S3];omega
structure M1 (X:Cx) (o:T4) (m:Str) (apos:Pos) (e:T4) (VF:Pos):Prop where
 base:attributeBase o m X.env (eval o X.env)=eval o X.env
 few:((backTo VF (To [e] X.env)).all (fun x=> !x.1)&&(backToKw VF (keywordEach [] X.env)).all (fun x=>x.1.isSome)
  &&decide (([e]:List T4).length+([]:List Zm).length+(if([]:List Zm).isEmpty then 0 else 1)<30))=Sz
 line:(apos.endLine==VF.line)=Sz
 trees:backTo VF (To [e] X.env)=[(SN,eval e X.env)]
structure M2 (X:Cx) (o:T4) (m:Str) (apos:Pos) (e f:T4) (VF:Pos):Prop where
 base:attributeBase o m X.env (eval o X.env)=eval o X.env
 few:((backTo VF (To [e,f] X.env)).all (fun x=> !x.1)&&(backToKw VF (keywordEach [] X.env)).all (fun x=>x.1.isSome)
  &&decide (([e,f]:List T4).length+([]:List Zm).length+(if([]:List Zm).isEmpty then 0 else 1)<30))=Sz
 line:(apos.endLine==VF.line)=Sz
 trees:backTo VF (To [e,f] X.env)=[(SN,eval e X.env),(SN,eval f X.env)]
def RP (H:Hp) (a:SI):Prop:=(∃Ti,Rd H a (.dK Ti))\/∃Ti,Rd H a (.dT Ti)
theorem NC (I:Inv X pins σ H s) (d:RP H a):
  s.TypeIs (.ref a) "dict"/\(∀b,Sx.ref a= .ref b->∃ob,s.heap.get? b=lD ob/\ob.dict=Sw)/\(a==Us)=SN:=by
 rcases d with⟨Ti,e⟩|⟨Ti,e⟩
 .obtain⟨_,f,vs,_,dd⟩:=zX I.Up e;refine⟨dd.typeIs,fun b q=> ?_,f⟩;cases q;obtain⟨ob,_,_,h,g,_⟩:=dd;exact⟨ob,h,g.2.1⟩
 .obtain⟨_,f,xs,_,dd⟩:=zW I.Up e;refine⟨dd.typeIs,fun b q=> ?_,f⟩;cases q;obtain⟨ob,_,_,h,g,_⟩:=dd;exact⟨ob,h,g.2.1⟩
def Hq (g ty:TE):TE:=fun b H Q=>g b H fun x f=>∃a,x= .ref a/\RP f a/\ty b f fun y e=>∃Ti k v,e a=lD (.dK Ti)/\y=kV k/\kQ Ti k=lD v/\Q v (bJ e a (.dK (pi Ti k)))
section
variable {X:Cx} {o e f:T4} {Z VF:Pos} {td ty tx:TE}
theorem IM (z:PE X o td) (A:PE X e ty) (m:M1 X o "pop" Z e VF):PE X (.Call (.Attribute o "pop" Z) [e] [] VF) (Hq td ty):=by intro b s g H Q I h;refine aeg m.base m.few m.line VQ Z7 PySem.F.type_dict_pop (cO (z b s g H _ I h) fun u p ⟨x,L,i,r,a,C,d,w⟩=> ?_);subst C;obtain rfl:=r;obtain⟨n,j,_⟩:=NC i d;refine⟨n,j,?_⟩;rw[m.trees];refine Calls.callWith_builtin rfl (Calls.evalArgs_plain (Calls.spliced_cons (cO (A b p g L _ i w) fun P O ⟨y,R,K,q,Ti,k,v,E,B,l,t⟩=>Calls.spliced_nil ?_)));subst B;exact QN K E q l (.inl rfl) fun M N J G=>⟨v,_,J,G,t⟩
end
end L2
namespace HT
open PySem PySem.Spec PyProof.Rows PySem.Calls
end HT
namespace L2
open PySem PySem.Spec PyProof.Rows
end L2
namespace PySem
open Sem (wp)
open Builtin
open AutoSeq1 (wpAny_loadPart')
end PySem
namespace L3
open PySem PySem.Spec PyProof.Rows L2
end L3
namespace L4
open PySem PySem.Spec PyProof.Rows L2 L3
def DW (h:Heap) (e:SI) (c:Sx) (dx:Option SI) (a:Sx) (hd:Option SI):Prop:=
 ∃ob fs,h.get? e=lD ob/\ob.cls=c/\ob.dict=dx/\ob.data= .fields fs/\fs[0]? =lD a/\
  match hd with
  |none=>fs[1]? =lD .none
  |some T=>fs[1]? =lD (.ref T)/\T≠e/\∃oT ts,h.get? T=lD oT/\oT.data= .fields ts/\ts[3]? =lD .none
structure Lft (l:List Env) (e:SI) (hd:Option SI) (h h':Heap):Prop where
 keep:∀b o,h.get? b=lD o->b≠e->hd≠lD b->b∉yd l->h'.get? b=lD o
 slot:∀b o,h.get? b=lD o->b≠e->hd≠lD b->∃sl,h'.get? b=lD {o with slots:=sl}
 here:∀b o,h.get? b=lD o->∃o',h'.get? b=lD o'
section
variable {M:abC} {A:Tw} {E:Sx->SK->Prop} {s:SK}
theorem iL
  (I:A.frames=lD (env::outer)) (B:s.heap.FunFrames base (env::outer)) (H:env.frame=lD L) (C:s.heap.get? e=lD ob) (p:ob.data= .fields fs) (m:1<fs.size) (J:fs[0]? =lD a0)
  (k:∀h' T,s.heap.objs.size<=T->DW h' e ob.cls ob.dict a0 (lD T)->Lft (env::outer) e Sw s.heap h'->Q () {s with heap:=h'}):
  wpAny M A (frameOf env>>=fun fr=>entryPlaceOf L nx>>=fun pl=>EntryCells.newEntry hv fr .none (rawInt L) .none pl>>=fun b=>setField (.ref e) 1 b) (fun _ s'=>wpAny M A (setFlight (.ref e) Sw) Q E s') E s:=by
 have j:e∉(env::outer).filterMap (·.frame):=fun z=>by obtain⟨_,o,q,n⟩:=B.mem z;rw[C] at q;cases q;exact n fs p
 refine Sv (aeh I B H fun a S=> ?_);refine Sv (adD fun pl P=> ?_);unfold EntryCells.newEntry newFields;refine Sv (UR ?_ (P.sizeOk5 _ _ _ _ _));have y:=(S.2.1 e j).trans C;generalize hN:({cls:= .type "traceback",dict:=Sw,data:= .fields ([hv,.ref L,.none,rawInt L,.none]++(if pl.isEmpty then SS 6 Sx.none else pl)).toArray}:Obj)=N;have g:N.data= .fields ([hv,.ref L,.none,rawInt L,.none]++(if pl.isEmpty then SS 6 Sx.none else pl)).toArray:=by rw[<-hN]
 have K:=Obj.isFreed_of_fields g;have w:=Heap.get?_push_of_some N y;refine Uo w p m ?_;have l:=Ul (Heap.lt_size y);have r:=Obj.data_mapFields p (·.setIfInBounds 1 (Sx.ref a.objs.size));have i:=Heap.get?_update_self (Obj.mapFields (·.setIfInBounds 1 (Sx.ref a.objs.size))) w (Obj.isFreed_of_fields r)
 have u:=
  (Heap.get?_update_other (a.push N) (Obj.mapFields (·.setIfInBounds 1 (Sx.ref a.objs.size))) l.symm).trans (Heap.get?_push_size a K)
 unfold setFlight;refine Sv (TH i r (x:= .ref a.objs.size) (by simp[m]) ?_);rw[if_pos (show(Sx.ref a.objs.size !=Sx.none)=Sz from by simp)];have t:3<([hv,.ref L,.none,rawInt L,.none]++(if pl.isEmpty then SS 6 Sx.none else pl)).toArray.size:=by simp only[S8,SH,S3,U2];omega
 refine Uo u g t ?_;have v:=Heap.get?_update_other ((a.push N).update e (Obj.mapFields (·.setIfInBounds 1 (Sx.ref a.objs.size)))) (Obj.mapFields (·.setIfInBounds 3 ((Sw:Option SI).elim Sx.none fun f=>rawInt f))) l;have F:=Heap.get?_update_self (Obj.mapFields (·.setIfInBounds 3 ((Sw:Option SI).elim Sx.none fun f=>rawInt f))) u (Obj.isFreed_of_fields (Obj.data_mapFields g _));have WY:∀b o,b≠e->a.get? b=lD o->(((a.push N).update e (Obj.mapFields (·.setIfInBounds 1 (Sx.ref a.objs.size)))).update a.objs.size (Obj.mapFields (·.setIfInBounds 3 ((Sw:Option SI).elim Sx.none fun f=>rawInt f)))).get? b=lD o:=fun b o ne q=>by rw[Heap.get?_update_other _ _ (Ul (Heap.lt_size q)),Heap.get?_update_other _ _ ne.symm];exact Heap.get?_push_of_some N q
 refine k _ a.objs.size (by rw[S.1];exact SU _) ⟨_,_,v.trans i,Obj.cls_mapFields _ _,?_,r,?_,?_,l,_,_,F,Obj.data_mapFields g _,?_⟩ ⟨fun b o q ne _ G=>WY b o ne ((S.2.1 b G).trans q),fun b o q ne _=> ?_,fun b o q=> ?_⟩
 .cases ob with
  |mk c d O h=>cases O<;>rfl
 .rw[V9 (by decide)];exact J
 .simp[m]
 .rw[UG t];rfl
 .obtain⟨h,z⟩:=S.2.2 b o q;exact⟨h,WY b _ ne z⟩
 .by_cases ne:b=e
  .subst ne;exact⟨_,v.trans i⟩
  .obtain⟨h,z⟩:=S.2.2 b o q;exact⟨_,WY b _ ne z⟩
theorem D6
  (v:A.frames=lD (env::outer)) (u:s.heap.FunFrames base (env::outer)) (h:env.frame=lD L) (F:DW s.heap e c dx a0 hd)
  (k:∀h' T,s.heap.objs.size<=T->DW h' e c dx a0 (lD T)->Lft (env::outer) e hd s.heap h'->Q () {s with heap:=h'}):wpAny M A (leaving env (.ref e)) Q E s:=by
 obtain⟨N,fs,q,I,H,d,w,r⟩:=F;subst I H;cases hd with
 |none=>have r:=r;unfold leaving noteFrame;simp only[h];refine Sv (Sv (TH q d r ?_));rw[if_neg (by decide)];exact iL v u h q d (Tu.mp r).1 w k
 |some T=>
  obtain⟨r,C,O,B,g,dT,p⟩:=r;unfold leaving noteFrame;simp only[h];refine Sv (Sv (TH q d r ?_));rw[if_pos (show(Sx.ref T !=Sx.none)=Sz from by simp)];refine Sv (TH g dT p ?_);rw[if_neg (show¬((Sx.none==rawInt L)=Sz) from by simp[rawInt])];refine Sv (Uo g dT (Tu.mp p).1 ?_);have f:∀b,b≠T->(s.heap.update T (Obj.mapFields (·.setIfInBounds 3 Sx.none))).get? b=s.heap.get? b:=fun b ne=>Heap.get?_update_other _ _ ne.symm;have a:=Heap.get?_update_self (Obj.mapFields (·.setIfInBounds 3 Sx.none)) g (Obj.isFreed_of_fields (Obj.data_mapFields dT _));have m:∀b o,s.heap.get? b=lD o->(∀vs,o.data≠ .fields vs)->b≠T:=fun b o z n y=>by rw[y,g] at z;cases z;exact n B dT
  refine iL v (u.of_keeps fun b o z n=>⟨o,(f b (m b o z n)).trans z,rfl⟩) h ((f e C.symm).trans q) d (Tu.mp r).1 w fun h' J t K i=>k h' J (by rw[Heap.size_after_update] at t;exact t) K ⟨fun b o z l j G=> ?_,fun b o z l j=> ?_,fun b o z=> ?_⟩
  .exact i.keep b o ((f b fun y=>j (by rw[y])).trans z) l (by simp) G
  .exact i.slot b o ((f b fun y=>j (by rw[y])).trans z) l (by simp)
  .by_cases y:b=T
   .subst y;exact i.here b _ a
   .exact i.here b o ((f b y).trans z)
end
theorem Lft.Up {P:Te} {w:TF} {l:List Env} {e:SI} {hd:Option SI} {H:Hp} {h h':Heap} (L:Lft l e hd h h') (m:XM P w H h) (ne:H e=Sw) (i:∀T,hd=lD T->H T=Sw) (j:∀b∈yd l,H b=Sw):XM P w H h':=fun b u q=>by
 have free:∀c v,H c=lD v->c≠e/\hd≠lD c/\c∉yd l:=fun c v z=>⟨(fun y=>by rw[y,ne] at z;cases z),(fun y=>by rw[i c y] at z;cases z),(fun y=>by rw[j c y] at z;cases z)⟩;refine(m b u q).WY (fun c v n z=> ?_) (fun _ z=>z) fun _ _ z=>z;rcases n with y|y
 .rw[y] at z⊢;obtain⟨g,f,a⟩:=free b u q;exact L.keep b v z g f a
 .obtain⟨g,f,a⟩:=free c _ y;exact L.keep c v z g f a
def jd (P:Te) (w:TF):wW:=fun a H s E x b=>
 ∃e c dx a0 T H',x= .ref e/\s.heap.get? e=Sw/\s.heap.get? T=Sw/\DW b.heap e c dx a0 (lD T)/\H' e=Sw/\H' T=Sw/\
  b.os=s.os/\AllBare b.gens/\Un (yd a) [] H H' s.heap b.heap/\XM P w H' b.heap/\E c dx H'
theorem MV {P:Te} {w:TF} {K:Ld} {mg:Str->Option Sx} {base:Heap} {N:List Str} {i:Str} {a:VJ} {f:SI} {v:Sx} {A:Tw} {outer:List Env} {g:SK} {G:Hp} {E:XK}
  {l:List (SI×Obj)} {J:L2.St} {H:Hp} {s:SK} {e:SI} {c C:Sx} {dx hd:Option SI} (I:L2.Inv (fV (jd P w) P w K mg base N i a f v A outer g G E) l J H s)
  (F:DW s.heap e c dx C hd) (u:g.heap.get? e=Sw) (S:∀T,hd=lD T->g.heap.get? T=Sw) (ne:H e=Sw) (Q:∀T,hd=lD T->H T=Sw) (q:E c dx H):
  (fV (jd P w) P w K mg base N i a f v A outer g G E).xe (.ref e) s:=by
 have Z:=I.ok.frames;have Y:=I.stack;refine D6 (L:=g.heap.objs.size) Z Y rfl F fun h' T t F' L=> ?_;have R:=L.Up I.Up ne Q I.Yv;have X:H T=Sw:=I.Up.fresh t;have p:∀b o,g.heap.get? b=lD o->b<g.heap.objs.size:=fun b o z=>Heap.lt_size z;have h:∀b o,g.heap.get? b=lD o->b≠e/\hd≠lD b:=fun b o z=>⟨(fun y=>by rw[y,u] at z;cases z),(fun y=>by rw[S b y] at z;cases z)⟩;have sz:=I.sz;refine⟨e,c,dx,C,T,H,rfl,u,Heap.get?_none_of_le (TJ sz t),F',ne,X,I.os,I.bare,?_,R,q⟩;have B:=I.base;refine⟨fun b o z n r _=> ?_,fun b o z n U _=> ?_,fun b o z n _=> ?_,fun b o z _=> ?_,B.Zg,B.Y0,B.Ze⟩
 .have j:=B.keep b o z n r (fun y=>nomatch y)
  refine L.keep b o j (h b o z).1 (h b o z).2 fun y=> ?_;rcases Tq.mp (I.Yb b y) with y|y
  .have y:b=g.heap.objs.size:=y;exact absurd (p b o z) (by rw[y];exact Ui _)
  .exact r y
 .obtain⟨sl,j⟩:=B.slot b o z n U (fun y=>nomatch y);obtain⟨m,M⟩:=L.slot b _ j (h b o z).1 (h b o z).2;exact⟨m,M⟩
 .exact B.free b o z n (fun y=>nomatch y)
 .obtain⟨O,j⟩:=B.there b o z (fun y=>nomatch y);exact L.here b O j
theorem lJ {P:Te} {w:TF} {K:Ld} {mg:Str->Option Sx} {base:Heap} {N:List Str} {g:Str} {a:VJ} {f:SI} {m:Sx} {A:Tw} {outer:List Env} {i:SK} {r:Hp} {E:XK}:
  fJ (jd P w) (fV (jd P w) P w K mg base N g a f m A outer i r E) E:=by
 rintro l t H s x u I ⟨e,c,dx,B,T,C,rfl,le,lT,F,ne,nT,os,bare,un,Up,q⟩;have p:=I.aap (ch:=[]) os un Up bare (fun b z=>nomatch z);have h:∀b,s.heap.get? b=Sw->i.heap.get? b=Sw:=fun b z=>by
  cases y:i.heap.get? b with
  |none=>rfl
  |some o=>obtain⟨v,j⟩:=I.base.there b o y (fun y=>nomatch y);rw[z] at j;cases j
 exact MV p F (h e le) (fun n z=>by cases z;exact h T lT) ne (fun n z=>by cases z;exact nT) q
theorem NX (x:ObjOk P w H h a o):∃ob,h.get? a=lD ob:=by
 cases o with
 |lst xs=>obtain⟨_,_,_,_,e⟩:=x;exact⟨_,e⟩
 |tup xs=>obtain⟨_,_,_,ob,e,_⟩:=x;exact⟨ob,e⟩
 |dK Ti=>obtain⟨_,_,_,_,o,_,_,e,_⟩:=x;exact⟨o,e⟩
 |dT Ti=>obtain⟨_,_,_,_,o,_,_,e,_⟩:=x;exact⟨o,e⟩
 |set S n=>obtain⟨o,_,_,_,e,_⟩:=x;exact⟨o,e⟩
 |ins C dx fs=>obtain⟨_,_,_,e,_⟩:=x;exact⟨_,e⟩
 |own y=>exact x
 |xd fs=>obtain⟨_,⟨o,_,_,e,_⟩,_⟩:=x;exact⟨o,e⟩
 |rng lo hi=>obtain⟨_,_,_,e⟩:=x;exact⟨_,e⟩
 |frz ob u=>exact⟨ob,x.1⟩
 |tbl ps=>exact⟨_,x⟩
 |met f y=>exact⟨_,x⟩
 |ext φ=>exact x.2.1
 |exw φ=>exact x.2.1
theorem zS (k:XM P w H h) (n:h.get? a=Sw):H a=Sw:=by
 cases q:H a with
 |none=>rfl
 |some o=>obtain⟨b,z⟩:=NX (k a o q);rw[n] at z;cases z
section
variable {M:abC} {A:Tw} {E:Sx->SK->Prop} {s:SK}
theorem Lx {base:Heap} {env:Env} {outer:List Env} {L e:SI} {c B:Sx} {dx hd:Option SI} {Q:Unit->SK->Prop}
  (v:A.frames=lD (env::outer)) (u:s.heap.FunFrames base (env::outer)) (h:env.frame=lD L) (F:DW s.heap e c dx B hd)
  (k:∀h' T,s.heap.objs.size<=T->DW h' e c dx B (lD T)->Lft (env::outer) e hd s.heap h'->Q () {s with heap:=h'}):
  wpAny M A (noteFrame (.ref e) env) (fun _ s2=>wpAny M A (setFlight (.ref e) Sw) Q E s2) E s:=by
 obtain⟨O,fs,q,J,I,d,w,r⟩:=F;subst J I;cases hd with
 |none=>have r:fs[1]? =lD .none:=r;unfold noteFrame;simp only[h];refine Sv (TH q d r ?_);rw[if_neg (by decide)];exact iL v u h q d (Tu.mp r).1 w k
 |some T=>
  obtain⟨r,G,P,C,g,dT,p⟩:=r;unfold noteFrame;simp only[h];refine Sv (TH q d r ?_);rw[if_pos (show(Sx.ref T !=Sx.none)=Sz from by simp)];refine Sv (TH g dT p ?_);rw[if_neg (show¬((Sx.none==rawInt L)=Sz) from by simp[rawInt])];refine Sv (Uo g dT (Tu.mp p).1 ?_);have f:∀b,b≠T->(s.heap.update T (Obj.mapFields (·.setIfInBounds 3 Sx.none))).get? b=s.heap.get? b:=fun b ne=>Heap.get?_update_other _ _ ne.symm;have a:=Heap.get?_update_self (Obj.mapFields (·.setIfInBounds 3 Sx.none)) g (Obj.isFreed_of_fields (Obj.data_mapFields dT _));have m:∀b o,s.heap.get? b=lD o->(∀vs,o.data≠ .fields vs)->b≠T:=fun b o z n y=>by rw[y,g] at z;cases z;exact n C dT
  refine iL v (u.of_keeps fun b o z n=>⟨o,(f b (m b o z n)).trans z,rfl⟩) h ((f e G.symm).trans q) d (Tu.mp r).1 w fun h' K t N i=>k h' K (by rw[Heap.size_after_update] at t;exact t) N ⟨fun b o z l j H=> ?_,fun b o z l j=> ?_,fun b o z=> ?_⟩
  .exact i.keep b o ((f b fun y=>j (by rw[y])).trans z) l (by simp) H
  .exact i.slot b o ((f b fun y=>j (by rw[y])).trans z) l (by simp)
  .by_cases y:b=T
   .subst y;exact i.here b _ a
   .exact i.here b o ((f b y).trans z)
theorem Nz {e T:SI} {c j:Sx} {dx:Option SI} {Q:Unit->SK->Prop} (F:DW s.heap e c dx j (lD T))
  (k:∀h',DW h' e c dx j (lD T)->(∀b,b≠T->h'.get? b=s.heap.get? b)->(∃o,h'.get? T=lD o)->Q () {s with heap:=h'}):wpAny M A (setFlight (.ref e) Sw) Q E s:=by
 obtain⟨n,fs,q,t,p,d,u,r,i,w,v,h,dT,m⟩:=F;unfold setFlight;refine Sv (TH q d r ?_);rw[if_pos (show(Sx.ref T !=Sx.none)=Sz from by simp)];have g:=(Tu.mp m).1;refine Uo h dT g ?_;have l:∀b,b≠T->(s.heap.update T (Obj.mapFields (·.setIfInBounds 3 ((Sw:Option SI).elim Sx.none fun f=>rawInt f)))).get? b=s.heap.get? b:=fun b ne=>Heap.get?_update_other _ _ ne.symm;have a:=Heap.get?_update_self (Obj.mapFields (·.setIfInBounds 3 ((Sw:Option SI).elim Sx.none fun f=>rawInt f))) h (Obj.isFreed_of_fields (Obj.data_mapFields dT _));refine k _ ⟨n,fs,(l e i.symm).trans q,t,p,d,u,r,i,_,_,a,Obj.data_mapFields dT _,?_⟩ l ⟨_,a⟩;rw[UG g];rfl
end
section
variable {P:Te} {w:TF} {K:Ld} {mg:Str->Option Sx} {base:Heap} {N:List Str} {qual:Str} {scope:VJ} {f:SI} {cd:Sx} {A:Tw} {outer:List Env} {s0:SK} {H0:Hp} {E:XK} {CX:wW}
  {σ:L2.St} {H:Hp} {s:SK} {h':Heap} {X:Cx}
theorem tP (I:L2.Inv X [] σ H s) (S:SI->Prop) (L:X.ex=[]) (F:∀p∈X.pn,¬S p.1) (keep:∀b o,s.heap.get? b=lD o->¬S b->b∉yd X.stack->h'.get? b=lD o)
  (a:∀b o,s.heap.get? b=lD o->¬S b->∃sl,h'.get? b=lD {o with slots:=sl}) (t:∀b o,s.heap.get? b=lD o->∃o',h'.get? b=lD o')
  (Y:∀b,S b->X.s₀.heap.get? b=Sw) (R:¬S X.env.locals) (U:∀x c,X.env.cells.lookup x=lD c->¬S c) (T:∀b,S b->H b=Sw):L2.Inv X [] σ H {s with heap:=h'}:=by
 have O:∀b o,X.s₀.heap.get? b=lD o->¬S b:=fun b o z y=>by rw[Y b y] at z;cases z
 have j:∀b,b∉X.ex:=fun b z=>by rw[L] at z;cases z
 have B:=I.base;have e:∀x c,X.env.cells.lookup x=lD c->∀v,s.heap.IsCell c v->h'.IsCell c v:=fun x c z v ⟨o,J,M⟩=>by obtain⟨sl,q⟩:=a c o J (U x c z);exact⟨_,q,M⟩
 refine⟨I.ok,I.os,I.bare,⟨fun b o z n h _=> ?_,fun b o z n hf _=> ?_,fun b o z n x=>B.free b o z n x,fun b o z x=> ?_,B.Zg,B.Y0,B.Ze⟩,?_,fun x c z=> ?_,I.free,I.Wo,fun p G=> ?_,fun b u q=> ?_,I.len⟩
 .have g:=B.keep b o z n h (j b)
  refine keep b o g (O b o z) fun y=> ?_;rcases Tq.mp (I.Yb b y) with y|y
  .rw[y] at z;exact absurd (Heap.lt_size z) (Nat.not_lt_of_le I.ok.above)
  .exact h y
 .obtain⟨sl,g⟩:=B.slot b o z n hf (j b);obtain⟨C,Q⟩:=a b _ g (O b o z);exact⟨C,Q⟩
 .obtain⟨o',g⟩:=B.there b o z x;exact t b o' g
 .obtain⟨m,hn,Z⟩:=I.loc
  obtain⟨o,es,ep,J,M,r⟩:=hn;obtain⟨sl,q⟩:=a _ o J R;refine⟨m,⟨_,es,ep,q,M,r⟩,fun i x v a1 a2 a3=> ?_⟩;obtain⟨u,rv,l⟩:=Z i x v a1 a2 a3;refine⟨u,rv,?_⟩;rcases l with l|⟨kd,c,z,y⟩
  .exact .inl l
  .exact .inr ⟨kd,c,z,e x c z _ y⟩
 .obtain⟨v,y⟩:=I.cell x c z;exact⟨v,e x c z v y⟩
 .obtain⟨z,n,ne,h,dd⟩:=I.pin p G
  rw[Tr] at G;refine⟨keep p.1 p.2 z (F p G) (fun y=> ?_),n,ne,h,dd⟩;rcases Tq.mp (I.Yb _ y) with y|y
  .exact ne y
  .exact h y
 .have free:∀c v,H c=lD v->¬S c/\c∉yd X.stack:=fun c v z=>⟨(fun y=>by rw[T c y] at z;cases z),(fun y=>by rw[I.Yv c y] at z;cases z)⟩
  refine(I.Up b u q).WY (fun c v hc z=> ?_) (fun _ z=>z) fun _ _ z=>z;rcases hc with y|y
  .rw[y] at z⊢;exact keep b v z (free b u q).1 (free b u q).2
  .exact keep c v z (free c _ y).1 (free c _ y).2
end
section
variable {M:abC} {A:Tw} {E:Sx->SK->Prop} {h:Heap} {g:Array XQ} {d:abB} {t:Nat} {os:aaz}
theorem G6 {C U e:SI} {j:Obj} {z w y v:Str} {N1 N2:SI} {b1 l b2 a:List Sx} {Z Y:Bool} {u r:List Str} {q p:List Sx} {a1 a2:Bool} {c1 c2:Option Bool} {o n:Option SI} {O N L K J I H G F B:Option Sx} {f b:String} {Q:Bool->SK->Prop}
  (X:h.get? C=lD (excClassObj z w C N1 b1 l Z u q a1 c1 o O N L K J f)) (m:h.get? U=lD (excClassObj y v U N2 b2 a Y r p a2 c2 n I H G F B b)) (R:h.get? e=lD j) (S:j.cls= .ref C)
  (T:a.contains (.type "BaseException")=Sz) (hm:(Sx.ref C::l).contains (.ref U)=Sz) (P:Q Sz ⟨h,g,d,t,os⟩):wpAny M A (excMatches (.ref e) (.ref U)) Q E ⟨h,g,d,t,os⟩:=by
 have i:(Sx.ref U::a).contains (.type "BaseException")=Sz:=by rw[Yz,T,YM]
 have ft:=tc_notTuple;unfold excMatches
 repeat (first|(specialize Va R ?_;rw[S])|specialize Va m ?_|(specialize WN m ?_;rw[i])|(specialize WN X ?_;rw[hm])|wp_step)
 exact P
end
abbrev Cx.marked (X:Cx) (e:SI):Cx:={X with A:=X.A.mark (lD (.ref e)),calm:=SN,xe:=fun _ _=>False}
section
variable {X:Cx} {Z:L2.St} {H:Hp} {s:SK} {h':Heap} {e:SI}
theorem tJ (I:L2.Inv X [] Z H s) (e:SI):L2.Inv (Cx.marked X e) [] Z H s:=
 ⟨⟨I.ok.mod,I.ok.kind,I.ok.glob,I.ok.blt,I.ok.above,I.ok.inj,I.ok.has,I.ok.cab,(fun z=>nomatch z),I.ok.frames,I.ok.stk,I.ok.exf,I.ok.bs,I.ok.bsz,I.ok.aas,I.ok.aax,I.ok.Yg,I.ok.frf⟩,I.os,I.bare,I.base,I.loc,I.cell,I.free,I.Wo,I.pin,I.Up,I.len⟩
theorem Af (ok:X.Ok) (I:L2.Inv (Cx.marked X e) [] Z H s):L2.Inv X [] Z H s:=
 ⟨ok,I.os,I.bare,I.base,I.loc,I.cell,I.free,I.Wo,I.pin,I.Up,I.len⟩
end
def yk (K:Ld) (C:SI) (m:List Sx):Prop:=∃nm q N bs hd sn sub ab col dd k0 k1 k2 k3 k5 id,K.lookup C=lD (excClassObj nm q C N bs m hd sn sub ab col dd k0 k1 k2 k3 k5 id)
structure Apart (X:Cx) (a:SI):Prop where
 n0:X.s₀.heap.get? a=Sw
 nL:a≠X.env.locals
 nC:∀y c,X.env.cells.lookup y=lD c->c≠a
 nP:∀p∈X.pn,p.1≠a
def Iq (X:Cx) (E2:XK):Sx->SK->Prop:=fun x a=>∃σ' H1 e c dx a0 T,x= .ref e/\L2.Inv X [] σ' H1 a/\DW a.heap e c dx a0 (lD T)/\Apart X e/\Apart X T/\H1 e=Sw/\H1 T=Sw/\E2 c dx H1
theorem sg (I:L2.Inv X pins σ H s) (e:X.ex=[]) (n:s.heap.get? a=Sw):Apart X a:=by
 have ne:∀b o,s.heap.get? b=lD o->b≠a:=fun b o z y=>by rw[y,n] at z;cases z
 refine⟨?_,?_,fun y c z=> ?_,fun p h=> ?_⟩
 .cases z:X.s₀.heap.get? a with
  |none=>rfl
  |some o=>obtain⟨g,y⟩:=I.base.there a o z (by rw[e];simp);exact absurd rfl (ne a g y)
 .obtain⟨m,⟨o,_,_,z,_⟩,_⟩:=I.loc;exact(ne _ o z).symm
 .obtain⟨v,o,f,_⟩:=I.cell y c z;exact ne c o f
 .exact ne _ _ (I.pin p (Wn _ h)).1
theorem AE {X:Cx} (a:X.ex=[]):fJ (jd X.prog X.w) (X.XH (Iq X E2)) E2:=by rintro g h H s x m I ⟨e,c,dx,i,T,l,rfl,le,lT,F,ne,nT,os,bare,un,Up,q⟩;have f:=I.Wm;have j:=f.aap os un Up bare (fun b z=>nomatch z);exact⟨h,l,e,c,dx,i,T,rfl,j.ZS (fun p z=>nomatch z),F,sg f a le,sg f a lT,ne,nT,q⟩
abbrev Cx.pinned (X:Cx) (l:List (SI×Obj)):Cx:={X with pn:=l}
theorem K5 (I:L2.Inv X pins σ H s):L2.Inv (Cx.pinned X (X.pn++pins)) [] σ H s:=
 ⟨⟨I.ok.mod,I.ok.kind,I.ok.glob,I.ok.blt,I.ok.above,I.ok.inj,I.ok.has,I.ok.cab,I.ok.hd,I.ok.frames,I.ok.stk,I.ok.exf,I.ok.bs,I.ok.bsz,I.ok.aas,I.ok.aax,I.ok.Yg,I.ok.frf⟩,I.os,I.bare,I.base,I.loc,I.cell,I.free,I.Wo,(fun p a=>I.pin p (by rw[Tr] at a;exact a)),I.Up,I.len⟩
theorem jJ (ok:X.Ok) (I:L2.Inv (Cx.pinned X (X.pn++pins)) [] σ H s):L2.Inv X pins σ H s:=
 ⟨ok,I.os,I.bare,I.base,I.loc,I.cell,I.free,I.Wo,(fun p a=>I.pin p (by rw[Tr];exact a)),I.Up,I.len⟩
end L4
namespace L4
open PySem PySem.Spec L2 L3
end L4
namespace L4
open PySem PySem.Spec PySem.W PyProof.Rows L2 L3
section
variable {prog:Te} {w:TF} {A:Tw} {E:Sx->SK->Prop} {h:Heap} {g:Array XQ} {d:abB} {t:Nat} {os:aaz} {a C:SI} {o:Obj} {K:Ld}
  {n1 q1:Str} {N1:SI} {b1 m1:List Sx} {d1:Bool} {s1:List Str} {u1:List Sx} {a1:Bool} {c1:Option Bool} {x1:Option SI} {i0 i1 i2 i3 i5:Option Sx} {id1:String}
structure aho (K:Ld) (C:SI) (m:List Sx):Prop where
 cl:yk K C m
 be:m.contains (.type "BaseException")=Sz
 ga:findIn K (.ref C) "__getattribute__"=lD (lD (.builtin "BaseException.__getattribute__"))
 gt:findIn K (.ref C) "__getattr__"=lD Sw
 cs:findIn K (.ref C) "__class__"=lD (lD (.builtin "object.__class__"))
 ob:mroIn K C (.type "object")=lD Sz
end
end L4
namespace L4
open PySem PySem.SeqAt PySem.Spec PySem.W PyProof.Rows L2 L3
end L4
namespace L4
open PySem PySem.Spec PySem.W PyProof.Rows L2 L3
end L4
namespace PySem
open Sem (wp)
open PyProof.Rows
end PySem
namespace L3
open PySem PySem.Spec PyProof.Rows L2
def Ep:List Int->Int
 |[]=>0
 |[a]=>a
 |a::r=>if Ep r<=a then a else Ep r
theorem we:∀{ns:List Int},0<ns.length->Ep ns∈ns/\∀i,i∈ns->i<=Ep ns
 |[a],_=>⟨S5,fun i h=>by rw[Td.mp h];exact W5 _⟩
 |a::b::r,_=>by
  obtain⟨f,e⟩:=we (ns:=b::r) (by rw[S3];omega);show(if Ep (b::r)<=a then a else Ep (b::r))∈a::b::r/\∀i,i∈a::b::r->i<=(if Ep (b::r)<=a then a else Ep (b::r));by_cases q:Ep (b::r)<=a
  .rw[if_pos q]
   refine⟨S5,fun i h=> ?_⟩;rcases Tq.mp h with z|z
   .omega
   .have:=e i z;omega
  .rw[if_neg q]
   refine⟨S2 _ f,fun i h=> ?_⟩;rcases Tq.mp h with z|z
   .omega
   .exact e i z
end L3
namespace HT
open PySem PySem.Spec PyProof.Rows
end HT
namespace L3
open PySem PySem.Spec PyProof.Rows L2
section
variable {K:Ld} {E:XK}
open Classical in
end
end L3
namespace L9
open PySem PySem.Spec PyProof.Rows
section
variable {M:abC} {A:Tw} {E:Sx->SK->Prop} {env:Env}
variable {nm q:Str} {C N:SI} {bs Z:List Sx} {hdct:Bool} {sn:List Str} {sub:List Sx} {ab:Bool} {col:Option Bool} {dd:Option SI} {k0 k1 k2 k3 k5:Option Sx} {newId:String}
theorem jC (r:Z.contains (.type "BaseException")=Sz) (n:A.handled=Sw)
  (h:wpAny M A x (fun v s₁=>∃e ob,v= .ref e/\s₁.heap.get? C=lD (excClassObj nm q C N bs Z hdct sn sub ab col dd k0 k1 k2 k3 k5 newId)/\s₁.heap.get? e=lD ob/\ob.cls= .ref C/\(∃fs,ob.data= .fields fs/\fs[1]? =lD Sx.none)/\E (.ref e) s₁) E s):
  wpAny M A (raiseStmt env (lD x) Sw) Q E s:=by
 have f:(Sx.ref C::Z).contains (.type "BaseException")=Sz:=by rw[Yz,r,YM]
 unfold raiseStmt;refine Sv (wpAny_mono h (fun v s₁ a=> ?_) fun _ _ x=>x);obtain⟨e,ob,rfl,l,o,j,⟨fs,i,b⟩,p⟩:=a;obtain⟨y,w,m⟩:=ob;dsimp only at j i;subst j i;obtain⟨z,g,d,t,u⟩:=s₁
 repeat (first|specialize Va o ?_|specialize Va l ?_|(specialize WN l ?_;rw[f])|wp_step)
 rw[b]
 repeat wp_step
 exact ac6 n p
end
section
variable {prog:Te} {w:TF} {A:Tw} {E:Sx->SK->Prop} {h:Heap} {g:Array XQ} {d:abB} {t:Nat} {os:aaz}
variable {nm q:Str} {C N:SI} {bs S Z:List Sx} {hdct:Bool} {sn:List Str} {sub:List Sx} {ab:Bool} {col:Option Bool} {dd:Option SI} {k0 k1 k2 k3 k5:Option Sx} {B R newId Y Yh X:String} {U:List Sx}
theorem rq (y:Wl R newId X U) (j:Z.contains (.type R)=Sz) (F:Wl B Y Yh Z) (T:aei h Z S)
  (i:h.get? C=lD (excClassObj nm q C N bs S hdct sn sub ab col dd k0 k1 k2 k3 k5 newId)) (hn:h.Ns N mN) (hi:mN "__init__"=lD (.ref fI)) (p:h.get? fI=lD oI) (n:oI.cls= .type "function")
  (G:∀h' e,Heap.MadeExcOf h h' e (.ref C) rest->wpAny (model prog w) A (call (.ref fI) (.ref e::rest)) (fun r s'=>r= .none/\Q (.done (.ret (.ref e))) s') E ⟨h',g,d,t,os⟩) (hrest:rest.length<=SY):
  wpAny (model prog w) A (Ua.«type.__call__» ⟨.ref C::rest,[]⟩) Q E ⟨h,g,d,t,os⟩:=by
 repeat (first|specialize Va i ?_|specialize wpAny_madeBy_exc i ?_|wp_step)
 refine codeAny_call_builtin_code (aaI.quiet_builtin _ y.quiet) (wpAny_check_new_subU y j T i ?_);refine codeAny_exc_new_subU y j F T i ?_ hrest
 have a:=Heap.get?_push_of_some {cls:= .ref C,data:= .fields #[.ref h.objs.size,.none,.none,.none,.bool SN,.none]}
  (Heap.get?_push_of_some {cls:= .type "tuple",data:= .seq rest.toArray} i)
 have v:=Heap.get?_push_of_some {cls:= .ref C,data:= .fields #[.ref h.objs.size,.none,.none,.none,.bool SN,.none]}
  (Heap.get?_push_of_some {cls:= .type "tuple",data:= .seq rest.toArray} p)
 have f:((h.push {cls:= .type "tuple",data:= .seq rest.toArray}).push {cls:= .ref C,data:= .fields #[.ref h.objs.size,.none,.none,.none,.bool SN,.none]}).Ns N mN:=
  let⟨o,es,ep,e,r⟩:=hn;⟨o,es,ep,Heap.get?_push_of_some _ (Heap.get?_push_of_some _ e),r⟩
 have l:((h.push {cls:= .type "tuple",data:= .seq rest.toArray}).push
   {cls:= .ref C,data:= .fields #[.ref h.objs.size,.none,.none,.none,.bool SN,.none]}).get? (h.objs.size+1)=lD
   {cls:= .ref C,data:= .fields #[.ref h.objs.size,.none,.none,.none,.bool SN,.none]}:=by heap_get
 have u:(Sx.ref C::S).contains (.ref C)=Sz:=by simp
 have m:=T.keeps (h':=(h.push {cls:= .type "tuple",data:= .seq rest.toArray}).push {cls:= .ref C,data:= .fields #[.ref h.objs.size,.none,.none,.none,.bool SN,.none]})
  fun b o e=>Heap.get?_push_of_some _ (Heap.get?_push_of_some _ e)
 unfold isInstance
 repeat (first|specialize Va l ?_|(specialize WN a ?_;rw[u])|wp_step)
 refine wpAny_typeLookup_tail a f m F.mroIs F.init.lookup ?_;rw[hi];refine UK (Sv ?_);unfold bindSpecial;refine Sv (abP ⟨_,v,n⟩ ?_);rw[if_pos (by decide)];refine SQ (Sv (wpAny_mono (G _ (h.objs.size+1) ⟨fun b o H=>Heap.get?_push_of_some _ (Heap.get?_push_of_some _ H),Heap.get?_none_of_le (Zj _),h.objs.size,l,Heap.get?_none_of_le (SU _),?_⟩) (fun r s' z=> ?_) fun _ _ x=>x))
 .exact Heap.get?_push_of_some _ (Heap.get?_push_at rfl rfl)
 .obtain⟨rfl,I⟩:=z
  wp_walk
  exact I
theorem Ao (l:Wl R newId X U) (i:Z.contains (.type R)=Sz) (F:Wl B Y Yh Z) (T:aei h Z S)
  (a:h.get? C=lD (excClassObj nm q C N bs S hdct sn sub ab col dd k0 k1 k2 k3 k5 newId)) (hn:h.Ns N mN) (hi:mN "__init__"=lD (.ref fI)) (f:h.get? fI=lD oI) (b:oI.cls= .type "function")
  (j:∀h' e,Heap.MadeExcOf h h' e (.ref C) rest->wpAny (model prog w) (A.under (.builtin "type.__call__" ⟨.ref C::rest,[]⟩)) (call (.ref fI) (.ref e::rest)) (fun r s'=>r= .none/\Q (.ref e) s') E ⟨h',g,d,t,os⟩) (hrest:rest.length<=SY):
  wpAny (model prog w) A (call (.ref C) rest) Q E ⟨h,g,d,t,os⟩:=by
 have o:=tc_lookup;have n:=tc_bind (.ref C);have m:(⟨h,g,d,t,os⟩:SK).TypeIs (.ref C) "type":=⟨_,a,rfl⟩;refine X5 (codeAny_of_tree ?_)
 repeat (any_goals (first|assumption|specialize Va a ?_|wp_step))
 refine⟨rfl,?_⟩;refine codeAny_call_builtin_at (aaI.quiet_builtin _ (by left)) entry_typeCall (wpAny_check_type_call_sub a (rq (hrest:=hrest) l i F T a hn hi f b fun h' e hm=> ?_));exact j h' e hm
end
section
variable {prog:Te} {w:TF} {A:Tw} {E:Sx->SK->Prop} {s:SK} {env:Env}
variable {nm q:Str} {C N:SI} {bs Y Z:List Sx} {hdct:Bool} {sn:List Str} {sub:List Sx} {ab:Bool} {col:Option Bool} {dd:Option SI} {k0 k1 k2 k3 k5:Option Sx} {B Bn newId X Yh U:String} {S:List Sx}
theorem yC (R:Wl Bn newId U S) (t:Z.contains (.type Bn)=Sz) (F:Wl B X Yh Z)
  (y:Y.contains (.type "BaseException")=Sz) (o:A.handled=Sw) (u:(backTo VF (To args env)).any (·.1)=SN) (hi:mN "__init__"=lD (.ref fI)) (p:oI.cls= .type "function")
  (h:wpAny (model prog w) A (eval (.Name x np) env) (fun f s₁=>f= .ref C/\wpAny (model prog w) A (evalArgs (.ref C) Sz (backTo VF (To args env)) [])
   (fun a s₂=>a.kw=[]/\a.pos.length<=SY/\s₂.heap.get? C=lD (excClassObj nm q C N bs Y hdct sn sub ab col dd k0 k1 k2 k3 k5 newId)/\s₂.heap.Ns N mN/\s₂.heap.get? fI=lD oI/\aei s₂.heap Z Y/\
    ∀h' e,Heap.MadeExcOf s₂.heap h' e (.ref C) a.pos->wpAny (model prog w) (A.under (.builtin "type.__call__" ⟨.ref C::a.pos,[]⟩)) (call (.ref fI) (.ref e::a.pos)) (fun r s'=>r= .none/\∃ob,s'.heap.get? C=lD (excClassObj nm q C N bs Y hdct sn sub ab col dd k0 k1 k2 k3 k5 newId)/\s'.heap.get? e=lD ob/\ob.cls= .ref C/\(∃fs,ob.data= .fields fs/\fs[1]? =lD Sx.none)/\E (.ref e) s') E {s₂ with heap:=h'}) E s₁) E s):
  wpAny (model prog w) A (exec (.Raise (lD (.Call (.Name x np) args [] VF)) Sw pos) env) Q E s:=by
 rw[arm_exec_Raise]
 first
  |refine Sv (Vd (jC y o (Sv (wpAny_mono (Zq (wpAny_mono h (fun f s₁ i=> ?_) fun _ _ x=>x)) (fun v l b=>Sv (Vd (SQ b))) fun _ _ x=>x))))
  |(simp only[evalOpt,Option.map];refine Sv (Vd (jC (C:=C) (nm:=nm) (q:=q) (N:=N) (bs:=bs) (hdct:=hdct) (sn:=sn) (sub:=sub) (ab:=ab) (col:=col) (dd:=dd) (k0:=k0) (k1:=k1) (k2:=k2) (k3:=k3) (k5:=k5) (newId:=newId) y o (Sv (wpAny_mono (Zq (wpAny_mono h (fun f s₁ i=> ?_) fun _ _ x=>x)) (fun v l b=>Sv (Vd (SQ b))) fun _ _ x=>x)))))
  |(refine Sv (Vd (jC y o ?_));refine Sv (wpAny_mono (Zq (wpAny_mono h (fun f s₁ i=> ?_) fun _ _ x=>x)) (fun v l b=>Sv (Vd (SQ b))) fun _ _ x=>x))
 obtain⟨rfl,i⟩:=i;unfold callWith;refine Sv (UK (wpAny_mono i (fun a s₂ j=>Sv (Vd ?_)) fun _ _ x=>x));obtain⟨G,P⟩:=a;obtain⟨n,m,z,hn,I,T,j⟩:=j;obtain rfl:=n;obtain⟨hp,g,d,tk,os⟩:=s₂;simp only[u];refine Sv (wpAny_keeperOf_exc z ?_);refine Sv (Ao (hrest:=m) R t F T z hn hi I p fun h' e hm=>wpAny_mono (j h' e hm) (fun r s' ⟨H,ob,O,M,L,K,J⟩=>⟨H,Sv (UK (wpAny_point (SQ ?_)))⟩) fun _ _ x=>x);exact⟨e,ob,rfl,O,M,L,K,J⟩
end
end L9
namespace L9
open PySem PySem.W PyProof.Rows Builtin Builtin.ObjectAttr
abbrev JD:List Sx:=[.type "ValueError",.type "Exception",.type "BaseException",.type "object"]
section
variable {prog:Te} {w:TF} {A:Tw} {K:Frag} {B C x:SI} {s:SK} {R:ZG->SK->Prop} {Z:ClassData} {name:Str} {Y:Tok} {v:Sx} {fs:Array Sx}
theorem Ls (X:K.In s.heap) (z:clsIn K C=lD Z) (hm:Z.mro= .ref C:: .ref B::JD) (hd:Z.hasDict=Sz) (hn:findIn K (.ref C) name=lD Sw) (i:s.heap.get? x=lD ⟨.ref C,Sw,.fields fs,#[]⟩)
  (H:∀h' tk',h'.get? x=lD ⟨.ref C,lD s.heap.objs.size,.fields fs,#[]⟩->h'.Ns1 s.heap.objs.size (fun y=>if y=name then lD v else Sw)->(∀b o,b≠x->s.heap.get? b=lD o->h'.get? b=lD o)->R (.ok (.ret .none)) {s with heap:=h',toks:=tk'}):
  codeAny (model prog w) A (.call (.builtin "object.__setattr__") ⟨[.ref x,.str name Y,v],[]⟩) R s:=by
 have I:InstAt s.heap x ⟨.ref C,Sw,.fields fs,#[]⟩ C Sw:=⟨i,rfl,rfl,True.intro⟩;have m:=PySem.F.store_object;have sub:Looks (model prog w) s.heap (isInstance (.ref x) (.type "object")) Sz:=I.type.andThen (looks_mroIn X (by unfold mroIn;rw[z,Option.bind_some,hm,if_neg (by simp)];simp));refine WA m.slot.plain m.entry (@check_slot (model prog w) _ _ s "object.__setattr__" "object" "__setattr__" (.ref x) [.str name Y,v] [] _ m.kind m.split sub (m.args (.ref x) (.str name Y) v) ?_);have l:Looks (model prog w) s.heap (mroOf (.ref C)) Z.mro:=(looks_clsIn X z).andThen .now;rw[osa_eq,refuse_eq];refine Sv (Sv (I.type.here (Sv (l.here ?_))));rw[hm,ag3,ag3,PySem.F.store_ValueError.passes];refine SQ (Sv (I.type.here (Sv ((looks_findIn X hn).here (Sv (SQ ?_))))));unfold storeInOwnDict;refine Sv (SQ (Sv ?_));unfold ownDictForStores instanceDict;refine Sv (agW i (Sv ((looks_clsIn X z).here ?_)));rw[hd,if_neg (by decide)];show wpAny _ _ (if(!Sz|| !typeHasDict (.ref C))=Sz then pure Sw else(do
        let d<-alloc {cls:=Sx.type "dict",data:=Data.dict #[]}
        update x fun o=>{cls:=o.cls,dict:=lD d,data:=o.data,slots:=o.slots}
        dictMade (.ref C) x d)) _ _ _
 rw[if_neg (by simp[typeHasDict])];obtain⟨h,g,d,t,os⟩:=s;dsimp only at X i H I sub l⊢;have f:(h.push {cls:= .type "dict",data:= .dict #[]}).get? x=lD ⟨.ref C,Sw,.fields fs,#[]⟩:=Heap.get?_push_of_some _ i;have a:=Th (Heap.lt_size i);refine Sv (wpAny_alloc' ?_);refine Sv (wpAny_update' f ?_);refine SQ ?_
 have q:((h.push {cls:= .type "dict",data:= .dict #[]}).update x fun o=>{cls:=o.cls,dict:=lD h.objs.size,data:=o.data,slots:=o.slots}).get? h.objs.size
   =lD {cls:= .type "dict",data:= .dict #[]}:=
  (Heap.get?_update_ne _ _ _ _ a.symm).trans (Heap.get?_push_at rfl rfl)
 have p:((h.push {cls:= .type "dict",data:= .dict #[]}).update x fun o=>{cls:=o.cls,dict:=lD h.objs.size,data:=o.data,slots:=o.slots}).Ns h.objs.size (fun _=>Sw):=
  ⟨_,#[],_,q,rfl,fun e M=>absurd M (by simp),fun _=>rfl⟩
 unfold storeInDict newKeyGuard;refine Sv (SQ (Sv (wpAny_nsSet1 (Heap.Ns1.of_empty p) fun h' j G=> ?_)));obtain⟨oD,O,Q,n,r,u⟩:=j.count (Within.cons name v Within.nil);refine Sv (aeM n (by rw[r];exact aeN (TJ u (by rw[S3,U2,U9];omega))) ?_);refine SQ (H h' _ ?_ ?_ fun b ob E J=> ?_)
 .exact(G.2 x a).trans (Heap.get?_update_self _ f rfl)
 .obtain⟨L,P,S,e1,e2,U,N,T⟩:=j;exact⟨L,P,S,e1,e2,U,N,fun y=>by rw[T y]⟩
 .exact(G.2 b (Th (Heap.lt_size J))).trans ((Heap.get?_update_ne _ _ _ _ E).trans (Heap.get?_push_of_some _ J))
theorem LU (X:K.In s.heap) (g:clsIn K C=lD Z) (hm:Z.mro= .ref C:: .ref B::JD) (hd:Z.hasDict=Sz) (a:findIn K (.ref C) "__setattr__"=lD (lD (.builtin "object.__setattr__"))) (hn:findIn K (.ref C) name=lD Sw) (e:s.heap.get? x=lD ⟨.ref C,Sw,.fields fs,#[]⟩)
  (f:∀h' tk',h'.get? x=lD ⟨.ref C,lD s.heap.objs.size,.fields fs,#[]⟩->h'.Ns1 s.heap.objs.size (fun y=>if y=name then lD v else Sw)->(∀b o,b≠x->s.heap.get? b=lD o->h'.get? b=lD o)->Q () {s with heap:=h',toks:=tk'}):
  wpAny (model prog w) A (setAttr (.ref x) name v) Q E s:=
 set_plain X (⟨e,rfl,rfl,True.intro⟩:InstAt s.heap x ⟨.ref C,Sw,.fields fs,#[]⟩ C Sw) a (Ls X g hm hd hn e f)
end
section
variable {prog:Te} {w:TF} {A:Tw} {E:Sx->SK->Prop} {h:Heap} {g:Array XQ} {d:abB} {t:Nat} {os:aaz}
variable {nm q:Str} {C N:SI} {bs bm Z:List Sx} {hdct:Bool} {sn:List Str} {sub:List Sx} {ab:Bool} {col:Option Bool} {dd:Option SI} {k0 k1 k2 k3 k5:Option Sx} {B newId Y Yh:String}
theorem Eo (F:Wl B Y Yh Z) (T:aei h Z bm)
  (p:h.get? C=lD (excClassObj nm q C N bs bm hdct sn sub ab col dd k0 k1 k2 k3 k5 newId)) (j:h.get? e=lD ⟨.ref C,Sw,.fields fs,#[]⟩) (l:fs[0]? =lD (.ref t0))
  (m:∀h' fs',h'.get? e=lD ⟨.ref C,Sw,.fields fs',#[]⟩->fs'[0]? =lD (.ref h.objs.size)->(∀i,i≠0->fs'[i]? =fs[i]?)->(∀b o,b≠e->h.get? b=lD o->h'.get? b=lD o)->Q .none ⟨h',g,d,t,os⟩) (hrest:rest.length<=SY):
  wpAny (model prog w) A (call (.builtin Yh) (.ref e::rest)) Q E ⟨h,g,d,t,os⟩:=by
 refine X5 (WA F.init.plain F.initEntry (wpAny_check_init_subU F T p j rfl ?_));unfold Ua.«BaseException.__init__»;dsimp only;rw[if_neg (by simp)];unfold newTuple Ua.BaseException.bexcPut;have f:=(Tu.mp l).1;have a:(h.push {cls:= .type "tuple",data:= .seq rest.toArray}).get? e=lD ⟨.ref C,Sw,.fields fs,#[]⟩:=Heap.get?_push_of_some _ j;refine Sv (UR (Sv (Sv (TH a rfl l (Sv (Uo a rfl f ?_))))) (by show rest.toArray.size<=SY;rw[S8];exact hrest));refine VN (SQ (m _ (fs.setIfInBounds 0 (.ref h.objs.size)) ?_ (by simp[f]) (fun i hi=>by rw[V9 (Ne.symm hi)]) fun b o n z=> ?_))
 .exact Heap.get?_update_self (Obj.mapFields (·.setIfInBounds 0 (.ref h.objs.size))) a rfl
 .exact(Heap.get?_update_other _ _ (Ne.symm n)).trans (Heap.get?_push_of_some _ z)
end
end L9
namespace L9
open PySem PySem.Spec PyProof.Rows L2
def Rg (v:V):Prop:=v= .Vh\/∃i:Int,v= .int i/\i.natAbs.log2<1920
theorem Lu {i:Int} (h:i.natAbs.log2<1920):(Str.ofString (toString i)).length<=5000:=by have e:=int_text_length_le (by decide) h;rw[PySem.ofString_length];omega
theorem NN (I:Inv X pins σ H s) (r:RelV v u) (f:Rg v)
  (h:∀(y:Str) (t:Tok) (a:SK),y.length<=5000->Inv X pins σ H a->Q (.str y t) a):wpAny (model X.prog X.w) A (formatField u Str.empty) Q E s:=by
 rcases f with rfl|⟨i,rfl,hi⟩
 .obtain rfl:=r;exact wpAny_formatField_none (h _ _ _ (by decide) (I.tok _))
 .obtain⟨t,rfl⟩:=r;exact formatField_int_small hi (h _ _ _ (Lu hi) (I.tok _))
def PJ (X:Cx) (es:List T4) (n:Nat) (t:L2.St->Hp->(Hp->Prop)->Prop):Prop:=
 ∀(a:List (SI×Obj)) (s:SK) (e:L2.St) (H:Hp) (b:Str) (Q:Hp->Prop),Inv X a e H s->b.length+n<=1000000->t e H Q->
  wpAny (model X.prog X.w) X.A (joinParts b (evalEach es X.env)) (fun v h=>∃(y:Str) (g:Tok) (f:Hp),v= .str y g/\Inv X a e f h/\Q f) X.xe s
section
variable {X:Cx} {e:T4} {es:List T4} {n:Nat} {te:TE} {t:L2.St->Hp->(Hp->Prop)->Prop} {pos:Pos}
theorem Nu:PJ X [] 0 (fun _ H Q=>Q H):=by intro a s f H b Q I g h;exact joinParts_nil ⟨_,_,H,rfl,I.tok _,h⟩ (by rw[U9];omega)
theorem Nv (i:x.length<=5000) (g:PJ X es n t):PJ X (.Constant (.str x) k pos::es) (n+5000) t:=by intro a s f H b Q I j h;refine joinParts_consE (joinParts_cons (Calls.Constant_str ?_));have e:=ai6 b x;exact⟨by rw[U9];omega,g a _ f H (b++x) Q (I.tok _) (by omega) h⟩
theorem NL (i:PE X e te) (g:PJ X es n t):PJ X (.FormattedValue e (-1) Sw pos::es) (n+5000) (fun σ H Q=>te σ H fun v H1=>Rg v/\t σ H1 Q):=by intro a s σ H b Q I z h;refine joinParts_consE (joinParts_cons (FormattedValue_plain (cO (i a s σ H _ I h) fun u o ⟨v,H1,j,r,f,q⟩=> ?_)));refine NN j r f fun y m p w l=> ?_;have e:=ai6 b y;exact⟨by rw[U9];omega,g a _ σ H1 (b++y) Q l (by omega) q⟩
theorem LQ (h:PJ X (g::e2::es) n t) (hn:n<=900000):PE X (.JoinedStr (g::e2::es) pos) (fun σ H Q=>t σ H fun H1=>∀y:Str,Q (.str y) H1):=by intro a s σ H Q I b;refine JoinedStr_many (cO (h a s σ H Str.empty _ I (by show 0+n<=1000000;omega) b) fun v l ⟨y,j,H1,f,i,q⟩=> ?_);subst f;exact⟨.str y,H1,i,⟨_,rfl⟩,q y⟩
end
def LG (C e:SI):Heap->Prop:=fun h=>∃fs t0,h.get? e=lD ⟨.ref C,Sw,.fields fs,#[]⟩/\fs[0]? =lD (.ref t0)/\fs[1]? =lD .none
def QV (C e p:SI):Heap->Prop:=fun h=>∃fs a0,h.get? e=lD ⟨.ref C,lD p,.fields fs,#[]⟩/\fs[0]? =lD a0/\fs[1]? =lD .none
structure XC (K:Ld) (C B fI:SI):Prop where
 obj:∃nm q N bs sn sub ab col dd k0 k1 k2 k3 k5,K.lookup C=lD (excClassObj nm q C N bs (.ref B::JD) Sz sn sub ab col dd k0 k1 k2 k3 k5 "ValueError.__new__")/\Y7 K N=Sz/\Ta K N "__init__"=lD (lD (.ref fI))
 base:XW K B JD "ValueError.__new__"=Sz
 sa:TR K (.ref C) "__setattr__"=lD (lD (.builtin "object.__setattr__"))
theorem zb {K:Ld} (q:XW K B JD n=Sz):Xv K JD (.ref B::JD)=Sz:=by
 unfold XW at q;split at q
 .rename_i dd f e b
  split at q
  .simp only[Ts,beq_iff_eq,Bool.not_eq_true'] at q;obtain⟨⟨⟨⟨⟨_,_⟩,_⟩,_⟩,Up⟩,a⟩:=q;unfold Xv;dsimp only;rw[b];dsimp only;rw[Up,a,show Xv K JD JD=Sz from by unfold Xv;rw[beq_self_eq_true,V2],beq_self_eq_true,Vl,Vl,YM]
  .cases q
 .cases q
section
variable {X:Cx} {B C fI:SI} {pos S U:Pos} {Y:T4} {Z:List T4} {t:TA} {b:Str}
theorem HV (h:H a=lD o):bJ H a o=H:=by
 funext c;by_cases z:c=a
 .rw[z,aR,h]
 .rw[aD z]
def Om (C:SI) (t:TA):TE:=fun f H Q=>t f H fun vs a=>∃e y,vs=[.ref e,.str y]/\a e=lD (.ext (LG C e))/\Q .Vh a
theorem Im {pl:Sem Bool} (hg:Gl X b) (hm:X.mg b=lD (.ref B)) (hr:YW X.K B (.type "type")=Sz) (hf:YX X.K (.ref B) (.type "type") "__init__"=lD (.val (.builtin "ValueError.__init__")))
  (hs:VW X.K (.ref B) "__getattribute__"=lD (lD (.builtin "type.__getattribute__"))) (v:XC X.K C B fI) (ha:PA X (Y::Z) t)
  (dR:To (Y::Z) X.env=(SN,eval Y X.env)::To Z X.env:=by rfl) (Y4:(backTo pos (To Z X.env)).any (·.1)=SN:=by rfl) (ZP:(b==("__debug__":Str))=SN:=by decide)
  (ht:eval (.Call (.Attribute (.Name b S) "__init__" U) (Y::Z) [] pos) X.env=(do
   let ov<-eval (.Name b S) X.env
   standAt U.atName
   let(f,first)<-holding [ov] (getMethod ov "__init__" pl)
   callWith pos f first (backTo pos (To (Y::Z) X.env)) (backToKw pos (keywordEach [] X.env))):=by rfl):
  PE X (.Call (.Attribute (.Name b S) "__init__" U) (Y::Z) [] pos) (Om C t):=by
 intro a s F H Q I h;refine Xl (pl:=pl) (mv I hg hm ?_ ZP) ht;refine PySem.W.method_cls I.Ye hs (PySem.W.cls_value I.Ye hr hf (by decide) ?_);have A:=ha pos a {s with toks:=s.toks+1} F H _ (I.tok _) h;rw[dR] at A⊢;refine Calls.callWith_builtin (by show(SN||(backTo pos (To Z X.env)).any (·.1))=SN;rw[Y4]<;>rfl) (Calls.evalArgs_plain (cO A fun us p ⟨vs,E,i,r,e,y,ev,l,q⟩=> ?_));subst ev;obtain⟨M,u2,rfl,R,P⟩:=B1 r;obtain rfl:M= .ref e:=R;obtain⟨tk,rfl⟩:=P;obtain⟨⟨fs,t0,g1,g2,g3⟩,_,gk⟩:=(show ObjOk X.prog X.w E p.heap e (.ext (LG C e)) from i.Up e _ l);obtain⟨nm,q',N,bs,sn,sub,ab,col,dd,k0,k1,k2,k3,k5,lk,Up,hin⟩:=v.obj;have T:=aaL i.Ye (zb v.base);obtain⟨h2,g,d,j,os⟩:=p;refine Eo Vp T (i.Ye _ _ lk) g1 g2 (fun h' m n e2 e3 e4=> ?_) (by show 1<=SY;decide);refine⟨.Vh,E,?_,rfl,q⟩;have w:=i.write (x:=e) (e:=e) (o:= .ext (LG C e)) (h':=h') (t':=j) (by rw[l];exact True.intro) (.inl rfl) (fun b u hb z=>e4 b u hb z) ⟨_,n⟩ ⟨⟨m,_,n,e2,by rw[e3 1 (by decide)];exact g3⟩,⟨_,n⟩,fun h1 h2 ⟨f1,O,L,J,G⟩ hk=>⟨f1,O,hk _ L,J,G⟩⟩;rw[HV l] at w;exact w
def Qz (C:SI) (f:Str) (i h:TE):TS:=fun D a H=>h a H fun v j=>i a j fun x g=>∃e,x= .ref e/\g e=lD (.ext (LG C e))/\∀p,g p=Sw->p≠e->D.nx a (bJ (bJ g e (.ext (QV C e p))) p (.xd [(f,v)]))
theorem Lo (Q:XC X.K C B fI) (hn:TR X.K (.ref C) f=lD Sw) (ha:PE X o ta) (hv:PE X value tv) (hs:UB value (lD (.Attribute o f pos')) pos.line X.env=pure SN):PS X (.Assign [.Attribute o f pos'] value pos) (Qz C f ta tv):=by
 intro l s G H D I h;refine Zu (cO (hv l s G H _ I h) fun u s1 ⟨v,H1,I1,rv,q⟩=>cO (ha l s1 G H1 _ I1 q) fun ov p ⟨x,T,A,rx,e,ex,j,q2⟩=> ?_) hs;subst ex;obtain rfl:=rx;obtain⟨⟨fs,t0,R,g2,g3⟩,_,gk⟩:=(show ObjOk X.prog X.w T p.heap e (.ext (LG C e)) from A.Up e _ j);obtain⟨nm,q',N,bs,sn,sub,ab,col,dd,k0,k1,k2,k3,k5,lk,Up,hin⟩:=Q.obj;obtain⟨F,hc,L,M⟩:∃F,acq X.K C=lD F/\F.mro= .ref C:: .ref B::JD/\F.hasDict=Sz:=by unfold acq;rw[lk];exact⟨_,rfl,rfl,rfl⟩
 refine LU A.Ye hc L M Q.sa hn R fun h' tk' O e2 E=> ?_;have pe:=Ul (Heap.lt_size R);have r:=A.Up.fresh (SU _);refine⟨G,_,?_,q2 p.heap.objs.size r pe⟩;have m:∀b o,p.heap.get? b=lD o->b≠p.heap.objs.size:=fun b o z=>Th (Heap.lt_size z);refine A.un ⟨fun b o z n _ _=>E b o (fun y=>by rw[y,j] at n;cases n) z,fun b o z n _ _=>⟨o.slots,E b o (fun y=>by rw[y,j] at n;cases n) z⟩,fun b o z n _=> ?_,fun b o z _=> ?_,fun b xs z=> ?_,fun b o u z=> ?_,fun b ps z=>⟨#[],?_⟩⟩ ?_
 .rw[aD (m b o z),aD (fun y=>by rw[y,j] at n;cases n)];exact n
 .by_cases y:b=e
  .subst y;exact⟨_,O⟩
  .exact⟨o,E b o y z⟩
 .rw[aD (fun y=>by rw[y,r] at z;cases z),aD (fun y=>by rw[y,j] at z;cases z)];exact z
 .rw[aD (fun y=>by rw[y,r] at z;cases z),aD (fun y=>by rw[y,j] at z;cases z)];exact z
 .rw[aD (fun y=>by rw[y,r] at z;cases z),aD (fun y=>by rw[y,j] at z;cases z),z];simp
 .intro a o z
  by_cases P:a=p.heap.objs.size
  .subst P
   rw[aR] at z;cases z;refine⟨_,e2,fun g=> ?_⟩;show WZ (match g==f with|true=>lD v|false=>Vg g []) (if g=f then lD u else Sw);cases i:g==f with
   |true=>rw[if_pos (beq_iff_eq.mp i)];exact rv
   |false=>rw[if_neg (fun w=>by rw[beq_iff_eq.mpr w] at i;cases i)];exact True.intro
  .rw[aD P] at z
   by_cases J:a=e
   .subst J;rw[aR] at z;cases z;exact⟨⟨fs,_,O,g2,g3⟩,⟨_,O⟩,fun h1 h2 ⟨f1,t1,z1,z2,z3⟩ hk=>⟨f1,t1,hk _ z1,z2,z3⟩⟩
   .rw[aD J] at z
    have own:∀b,T b=lD (.own a)->b≠e/\b≠p.heap.objs.size:=fun b y=>⟨(fun k=>by rw[k,j] at y;cases y),(fun k=>by rw[k,r] at y;cases y)⟩;refine(A.Up a o z).WY (fun b w i y=>E b w (fun k=> ?_) y) (fun b y=>by rw[aD (own b y).2,aD (own b y).1];exact y) fun b xs y=>by rw[aD (fun k=>by rw[k,r] at y;cases y),aD (fun k=>by rw[k,j] at y;cases y)];exact y
    rcases i with i|i
    .exact J (i.symm.trans k)
    .exact(own b i).1 k
end
end L9
namespace L9
open PySem PySem.Spec PyProof.Rows L2 L4
def PR (H:Hp) (e:SI):Hp:=fun a=>if a=e then Sw else H a
theorem tI:PR H e e=Sw:=if_pos rfl
theorem kz (h:a≠e):PR H e a=H a:=if_neg h
theorem An {K:Ld} (X:K.In h) (G:h.Ns N mg) (e:Ta K N n=lD (lD v)):mg n=lD v:=by
 obtain⟨o,p,q,f,j,_,g⟩:=G;unfold Ta at e;split at e
 .rename_i l m b a
  have:=(X _ _ a).symm.trans f;cases this;cases j;split at e
  .rename_i r i;cases e;rw[<-g];unfold nsFind findBy;rw[<-abk,i];rfl
  .split at e<;>cases e
 .cases e
theorem OC {K:Ld} (i:Vv K (.ref f)=Sz) (l:K.lookup f=lD o):o.cls= .type "function":=by unfold Vv abM at i;dsimp only at i;rw[l] at i;exact S7 (beq_iff_eq.mp i)
section
variable {X:Cx} {Z:List (SI×Obj)} {Y:L2.St} {H:Hp} {s:SK} {h':Heap} {e:SI} {o:HO}
theorem Ly (I:L2.Inv X Z Y H s) (k:∀b u,s.heap.get? b=lD u->h'.get? b=lD u) (n:s.heap.get? e=Sw) (new:ObjOk X.prog X.w (bJ H e o) h' e o):L2.Inv X Z Y (bJ H e o) {s with heap:=h',toks:=t'}:=by
 have hn:=zS I.Up n;have ne:∀b u,s.heap.get? b=lD u->b≠e:=fun b u z y=>by rw[y,n] at z;cases z
 refine I.un ⟨fun b u z _ _ _=>k b u z,fun b u z _ _ _=>⟨u.slots,k b u z⟩,fun b u z q _=>by rw[aD (ne b u z)];exact q,fun b u z _=>⟨u,k b u z⟩,fun b xs z=> ?_,fun b u v z=> ?_,fun b ps z=>⟨#[],?_⟩⟩ ?_
 .rw[aD (fun y=>by rw[y,hn] at z;cases z)];exact z
 .rw[aD (fun y=>by rw[y,hn] at z;cases z)];exact z
 .rw[aD (fun y=>by rw[y,hn] at z;cases z),z];simp
 .intro a u z
  by_cases y:a=e
  .subst y;rw[aR] at z;cases z;exact new
  .rw[aD y] at z;refine(I.Up a u z).WY (fun b w _ q=>k b w q) (fun b q=>by rw[aD (fun w=>by rw[w,hn] at q;cases q)];exact q) fun b xs q=>by rw[aD (fun w=>by rw[w,hn] at q;cases q)];exact q
theorem Me (I:L2.Inv X Z Y H s) (f:H e=lD (.ext φ)):L2.Inv X Z Y (PR H e) s:=by
 have:=I.un (t':=s.toks) (H':=PR H e) ⟨fun b u z _ _ _=>z,fun b u z _ _ _=>⟨u.slots,z⟩,fun b u z q _=> ?_,fun b u z _=>⟨u,z⟩,fun b xs z=> ?_,fun b u v z=> ?_,fun b ps z=>⟨#[],?_⟩⟩ ?_
 .exact this
 .by_cases y:b=e
  .rw[y];exact tI
  .rw[kz y];exact q
 .rw[kz (fun y=>by rw[y,f] at z;cases z)];exact z
 .rw[kz (fun y=>by rw[y,f] at z;cases z)];exact z
 .rw[kz (fun y=>by rw[y,f] at z;cases z),z];simp
 .intro a u z
  have y:a≠e:=fun y=>by rw[y,tI] at z;cases z
  rw[kz y] at z;exact(I.Up a u z).WY (fun b w _ q=>q) (fun b q=>by rw[kz (fun w=>by rw[w,f] at q;cases q)];exact q) fun b xs q=>by rw[kz (fun w=>by rw[w,f] at q;cases q)];exact q
end
def CU (C:SI) (sp:Sp) (E:XK) (g:TA):TS:=fun _ f H=>g f H fun vs b=>vs.length<=SY/\∀e,b e=Sw->sp (.ref e::(vs++[])) (bJ b e (.ext (LG C e))) (fun v a=>v= .Vh/\∃p,a e=lD (.ext (QV C e p))/\E (.ref C) (lD p) (PR a e)) E0
theorem DZ {K:Ld}
  (Z:XC K C B fI) (S:K.lookup fI=lD oI) (iI:Vv K (.ref fI)=Sz) (FI:FnOk P w K mg base dS k fI fdI ps sp) (bI:Binds K fdI ps [])
  (hr:U7 (k+1) (fV (jd P w) P w K mg base N qual scope f cd A outer s0 H0 E).A)
  (hg:Gl (fV (jd P w) P w K mg base N qual scope f cd A outer s0 H0 E) x) (hm:mg x=lD (.ref C)) (ha:PA (fV (jd P w) P w K mg base N qual scope f cd A outer s0 H0 E) (e0::es) ta)
  (ZP:(x==("__debug__":Str))=SN:=by decide)
  (X:To (e0::es) (fV (jd P w) P w K mg base N qual scope f cd A outer s0 H0 E).env=(SN,eval e0 (fV (jd P w) P w K mg base N qual scope f cd A outer s0 H0 E).env)::To es (fV (jd P w) P w K mg base N qual scope f cd A outer s0 H0 E).env:=by rfl)
  (Y4:(backTo VF (To es (fV (jd P w) P w K mg base N qual scope f cd A outer s0 H0 E).env)).any (·.1)=SN:=by rfl):
  PS (fV (jd P w) P w K mg base N qual scope f cd A outer s0 H0 E) (.Raise (lD (.Call (.Name x np) (e0::es) [] VF)) Sw pos) (CU C sp E ta):=by
 intro l s σ H D I h;obtain⟨nm,qn,Nn,bs,sn,sub,ab,col,dd,k0,k1,k2,k3,k5,R,Up,G⟩:=Z.obj;have a:=I.ok.mod.kin;have oC:=a _ _ R;have Q:=Heap.Ns.of_isNs (PySem.W.isNs_of_in a Up);have ni:=An a Q G;have oF:=a _ _ S;have T:=aaL a (zb Z.base);refine yC (nm:=nm) (q:=qn) (N:=Nn) (bs:=bs) (hdct:=Sz) (sn:=sn) (sub:=sub) (ab:=ab) (col:=col) (dd:=dd) (k0:=k0) (k1:=k1) (k2:=k2) (k3:=k3) (k5:=k5) Vp (by left) Vp (T.hasType Vp.hasBase) (I.ok.hd rfl)
  (by rw[X];exact(W4 _).trans Y4) ni (OC iI S) (mv I hg hm ⟨rfl,?_⟩ ZP)
 have go:=ha VF l s σ H _ I h;rw[X] at go⊢;refine Calls.evalArgs_plain (cO go fun g j ⟨vs,H1,i,r,hl,q⟩=> ?_);refine⟨rfl,by rw[<-r.length];exact hl,i.bk _ _ oC,Q.keeps i.bk,i.bk _ _ oF,T.keeps i.bk,fun h' e m=> ?_⟩;obtain⟨t,y,y2,y3⟩:=m.there;have hn:=zS i.Up m.new;have U:=q e hn;have L:=Ly (t':=j.toks) (o:= .ext (LG C e)) i m.keeps m.new ⟨⟨_,t,y,rfl,rfl⟩,⟨_,y⟩,fun h1 h2 ⟨f1,t1,z1,z2,z3⟩ hk=>⟨f1,t1,hk _ z1,z2,z3⟩⟩;have O:Vals (V.ref e::(vs++[])) (Sx.ref e::(g++[])):= .cons rfl (r.append .nil);have n:(Sx.ref e::g++[]).length=ps.length:=by have z:=O.length;rw[FI.len _ _ _ _ U] at z;exact z.symm
 have F:s0.heap.get? e=Sw:=by
  cases z:s0.heap.get? e with
  |none=>rfl
  |some o=>obtain⟨o',M⟩:=i.base.there e o z (fun y=>nomatch y);rw[m.new] at M;cases M
 have bi:=bI {heap:=h',gens:=j.gens,drawn:=j.drawn,toks:=j.toks,os:=j.os} (Sx.ref e::g) L.Ye n;rw[acr] at bi;refine X5 (X6 (FI.run _ (fV (jd P w) P w K mg base N qual scope f cd A outer s0 H0 E).stack _ _ ⟨Sx.ref e::g,[]⟩ (Sx.ref e::(g++[])) _ _ E0 (hr.make C g []) (L.adO.make C g []) bi O U) fun r s' b=> ?_);cases r with
 |error e=>exact b.elim
 |ok fl=>
  cases fl with
  |ret u=>obtain⟨v,H',J,rv,ev,p,Y,q3⟩:=L.after b;subst ev;obtain⟨⟨fs,a0,g1,g2,g3⟩,_,_⟩:=(show ObjOk _ _ H' s'.heap e (.ext (QV C e p)) from J.Up e _ Y);refine⟨rv,_,J.Ye _ _ R,g1,rfl,⟨fs,rfl,g3⟩,?_⟩;exact MV (hd:=Sw) (Me J Y) ⟨_,_,g1,rfl,rfl,rfl,g2,g3⟩ F (fun T z=>nomatch z) tI (fun T z=>nomatch z) q3
  |next=>exact False.elim b
  |brk=>exact False.elim b
  |cont=>exact False.elim b
end L9
namespace L9
open PySem PySem.Spec PySem.W PyProof.Rows L2 L3 L4
section
variable {prog:Te} {w:TF} {A:Tw} {E:Sx->SK->Prop} {h:Heap} {g:Array XQ} {d:abB} {t:Nat} {os:aaz} {a C:SI} {o:Obj} {K:Ld} {od:Option Obj} {name:Str} {v:Sx}
  {n1 q1:Str} {N1:SI} {b1 m1:List Sx} {d1:Bool} {s1:List Str} {u1:List Sx} {a1:Bool} {c1:Option Bool} {x1:Option SI} {i0 i1 i2 i3 i5:Option Sx} {id1:String}
end
def ww (C:SI) (f:Str):Sp:=fun vs H Q _=>∃e v,vs=[.ref e,v]/\Rg v/\H e=lD (.ext (LG C e))/\∀p,H p=Sw->p≠e->Q .Vh (bJ (bJ H e (.ext (QV C e p))) p (.xd [(f,v)]))
def Qv:D->Bool
 | .none=>Sz
 | .int i=>decide (i.natAbs.log2<1920)
 |_=>SN
end L9
namespace L3
open PySem PySem.Spec PyProof.Rows L2
mutual
def RZ:SG->Bool
 | .tuple ds=>Nx ds
 | .int _=>Sz
 | .str _=>Sz
 | .bool _=>Sz
 | .none=>Sz
 |_=>SN
def Nx:List SG->Bool
 |[]=>Sz
 |d::r=>RZ d&&Nx r
end
section
variable {K:Ld} {E:XK} {B:cw} {H0:Hp} {O Z:cw} {σ:L2.St} {H H':Hp} {ρ:bq}
theorem Kj (h:Xa K H a xs) (l:H a=lD (.lst ys)):Xa K (fun _=>Sw) a xs:=by
 rcases h with(h|⟨o,h⟩)|h
 .rw[l] at h;cases h
 .rw[l] at h;cases h
 .exact .inr h
mutual
theorem Kv (f:∀b,O b->¬Z b->∃ys,H b=lD (.lst ys)):∀{v:V} {d:D},DV Z K H v d->RZ d=Sz->DV O K H v d
 |_,_,.Vh,_=> .Vh
 |_,_,.bl b,_=> .bl b
 |_,_,.int i,_=> .int i
 |_,_,.str x,_=> .str x
 |_,_,.tup (a:=a) h hs,e=> .tup ⟨h.1,fun z=>by
   by_cases y:Z a
   .exact h.2 y
   .obtain⟨ys,q⟩:=f a z y;exact Kj h.1 q⟩ (zF f hs e)
 |_,_,.lst h hs,e=>by cases e
theorem zF (a:∀b,O b->¬Z b->∃ys,H b=lD (.lst ys)):∀{vs:List V} {ds:List D},US Z K H vs ds->Nx ds=Sz->US O K H vs ds
 |_,_,.nil,_=> .nil
 |_,_,.cons h hs,e=>by have f:=Bool.and_eq_true_iff.mp e;exact .cons (Kv a h f.1) (zF a hs f.2)
end
end
end L3
namespace PySem
end PySem
namespace PyProof.Rows
open PySem
section
variable {prog:Te} {w:TF} {A:Tw} {E:Sx->SK->Prop} {s:SK}
theorem ud (b:h.get? a=lD (seqObj "list" vs.toArray n)):∃e,(sortedHeap h a vs out).get? a=lD (seqObj "list" out e):=by have f:=get?_update_seq b (fun _=> #[]);exact⟨_,get?_update_seq (Heap.get?_push_of_some _ (Heap.get?_push_of_some _ f)) _⟩
theorem qY (f:b≠a) (e:h.get? b=lD o):(sortedHeap h a vs out).get? b=lD o:=
 (Heap.get?_update_other _ _ (Ne.symm f)).trans (Heap.get?_push_of_some _ (Heap.get?_push_of_some _ ((Heap.get?_update_other _ _ (Ne.symm f)).trans e)))
theorem AN {l:SI} {vs:List Sx} {ns:List Int} {Q:Sx->SK->Prop} (j:s.heap.IsTuple l vs.toArray) (v:IntsAre vs ns) (i:vs.length<64)
  (h:∀(a h':Heap) (out:Array Sx) (e:Nat) (f:List Int),(∀b o,s.heap.get? b=lD o->a.get? b=lD o)->h'.get? a.objs.size=lD (seqObj "list" out e)->(∀b o,a.get? b=lD o->h'.get? b=lD o)->IntsAre out.toList f->f.Perm ns->f.Pairwise (·<=·)->Q (.ref a.objs.size) {s with heap:=h'}):
  wpAny (model prog w) A (call (.builtin "sorted") [.ref l]) Q E s:=by
 obtain⟨o,p,u,n,t⟩:=j;refine Calls.call_function_entry kind_sorted plain_sorted entry_sorted (args_sorted1 _) (Sv (m:=checkCount "sorted" 1 1 _) (SQ (Sv (wpAny_collect_seq l (.inr rfl) p u t (fun a q=>Sv (ai7 ?_)) (by rw[S8,U9];omega)))));have g:(a.push (seqObj "list" vs.toArray 0)).get? a.objs.size=lD (seqObj "list" vs.toArray 0):=Heap.get?_push_size _ rfl;refine Sv (UK (VT slot_list_sort ⟨_,g,rfl⟩ entry_list_sort (list_sort_tree g v i fun out f C B y=>⟨_,rfl,SQ ⟨_,rfl,?_⟩⟩) (args_list_sort _)));obtain⟨e,r⟩:=ud (out:=out) g;exact h a _ out e f q r (fun b F z=>qY (Th (Heap.lt_size z)) (Heap.get?_push_of_some _ z)) C B y
end
end PyProof.Rows
namespace L9
open PySem PySem.Spec PyProof.Rows L2 L3
section
variable {K:Ld} {E:XK}
theorem wl:Vx X (.builtin "sorted") (fun xs H Q=>∃(p:SI) (ns:List Int),xs=[.ref p]/\Xa X.K H p (ns.map V.int)/\ns.length<64/\∀(l:SI) (a:List Int),H l=Sw->a.Perm ns->a.Pairwise (·<=·)->Q (.ref l) (bJ H l (.lst (a.map V.int)))):=by
 intro i s B H xs C Q I r h;obtain⟨p,ns,rfl,t,z,q⟩:=h;obtain⟨u,rfl,n⟩:=kE r;cases n;obtain⟨J,rv,pl,F⟩:=I.tuple t;have v:=rv.length;rw[Sy] at v;refine AN pl (j4 rv) (by omega) fun A G f e a w y g hi j o=> ?_;have b:=j.length_eq;have m:=I.kept (t':=s.toks) w;refine⟨.ref A.objs.size,_,m.laid g (SU _) ?_,rfl,q _ a (m.Up.fresh (SU _)) j o⟩;refine⟨?_,f.toList,e,jM hi,y⟩;rw[Sy,b];have:(64:Nat)<=SY:=by decide
 omega
theorem xN:Vx X (.builtin "sorted") (fun xs H Q=>(∃(p:SI) (ns:List Int),xs=[.ref p]/\Xp X.K H p (ns.map V.int)/\ns.length<64/\∀(l:SI) (a:List Int),H l=Sw->a.Perm ns->a.Pairwise (·<=·)->Q (.ref l) (bJ H l (.lst (a.map V.int))))\/
  (∃(p:SI) (ns:List Int),xs=[.ref p]/\Xa X.K H p (ns.map V.int)/\ns.length<64/\∀(l:SI) (a:List Int),H l=Sw->a.Perm ns->a.Pairwise (·<=·)->Q (.ref l) (bJ H l (.lst (a.map V.int))))):=L2.Vx.or ye wl
def im:List D->Option RV
 |[.tuple ds]=>(match kM ds with
  |some a=>if a.length<64 then lD (.ow ((lU a).map .int)) else Sw
  |none=>Sw)
 |ds=>xq ds
theorem BC:G5 K (fun xs H Q=>(∃(p:SI) (ns:List Int),xs=[.ref p]/\Xp K H p (ns.map V.int)/\ns.length<64/\∀(l:SI) (b:List Int),H l=Sw->b.Perm ns->b.Pairwise (·<=·)->Q (.ref l) (bJ H l (.lst (b.map V.int))))\/
  (∃(p:SI) (ns:List Int),xs=[.ref p]/\Xa K H p (ns.map V.int)/\ns.length<64/\∀(l:SI) (b:List Int),H l=Sw->b.Perm ns->b.Pairwise (·<=·)->Q (.ref l) (bJ H l (.lst (b.map V.int))))) im:=by
 intro O H xs ds rv Q n g e q;unfold im at e;split at e
 .split at e
  .rename_i ns i
   split at e
   .rename_i hn
    cases e;cases g with
    |cons o m=>cases m;obtain⟨a,vs,rfl,h,r⟩:=JE o;rw[mH r i] at h;refine .inr ⟨a,ns,rfl,h.1,hn,fun l b j f dR=> ?_⟩;have t:=mz (f.trans (fK ns).symm) dR (eV ns);subst t;exact q.new (ue _) l j
   .cases e
  .cases e
 .exact .inl (vQ O H xs ds rv Q n g e q)
end
end L9
namespace L9
open PySem PySem.W PyProof.Rows Builtin Builtin.ObjectAttr
open PySem.Spec L2
open L3 L4
end L9
namespace LD
open PySem PyProof.Rows L2 L3
mutual
def kd:SG->Bool
 | .none=>Sz
 | .int _=>Sz
 | .str x=>SG.strOk x
 | .tuple xs=>kds xs
 |_=>SN
def kds:List SG->Bool
 |[]=>Sz
 |x::r=>kd x&&kds r
end
def keyD:SG->Bool
 | .tuple xs=>kds xs&&decide ((SG.tuple xs).depth<=8)
 |_=>SN
mutual
theorem kd_lay:∀d:SG,kd d=Sz->d.canLay0=Sz
 | .none,_=>rfl
 | .int _,_=>rfl
 | .str x,h=>by unfold SG.canLay0;unfold kd at h;exact h
 | .tuple xs,h=>by unfold SG.canLay0;unfold kd at h;exact Cz xs h
 | .bool _,h| .list _,h| .dict _,h=>by simp[kd] at h
theorem Cz:∀xs:List SG,kds xs=Sz->SG.canLayAll0 xs=Sz
 |[],_=>rfl
 |x::r,h=>by unfold kds at h;rw[Ts] at h;unfold SG.canLayAll0;rw[kd_lay x h.1,Cz r h.2];rfl
end
mutual
theorem kd_eqv:∀d e:SG,kd d=Sz->kd e=Sz->SG.eqv d e=Sz->d=e
 | .none,e,_,h,q=>by cases e<;>simp_all [kd,SG.eqv]
 | .int i,e,_,h,q=>by cases e<;>simp_all [kd,SG.eqv]
 | .str x,e,_,h,q=>by cases e<;>simp_all [kd,SG.eqv]
 | .tuple xs,e,g,h,q=>by
  cases e with
  |tuple a=>rw[SG.eqv] at q;unfold kd at g h;rw[Cj xs a g h q]
  |_=>simp_all [kd,SG.eqv]
 | .bool _,_,h,_,_| .list _,_,h,_,_| .dict _,_,h,_,_=>by simp[kd] at h
theorem Cj:∀xs ys:List SG,kds xs=Sz->kds ys=Sz->SG.eqvAll xs ys=Sz->xs=ys
 |[],[],_,_,_=>rfl
 |[],_::_,_,_,q=>by simp[SG.eqvAll] at q
 |_::_,[],_,_,q=>by simp[SG.eqvAll] at q
 |x::xs,y::ys,g,h,q=>by unfold kds at g h;rw[SG.eqvAll] at q;rw[Ts] at g h q;rw[kd_eqv x y g.1 h.1 q.1,Cj xs ys g.2 h.2 q.2]
end
theorem IC [Decidable (d=e)] (hd:kd d=Sz) (a:kd e=Sz):SG.eqv d e=decide (d=e):=by
 by_cases q:d=e
 .subst q;rw[decide_eq_true rfl];exact SeqAt.eqv_refl d (kd_lay d hd)
 .rw[decide_eq_false q]
  cases z:SG.eqv d e with
  |false=>rfl
  |true=>exact absurd (kd_eqv d e hd a z) q
theorem fG (h:keyD d=Sz):kd d=Sz/\d.depth<=8:=by
 cases d with
 |tuple xs=>unfold keyD at h;rw[Ts] at h;exact⟨by unfold kd;exact h.1,of_decide_eq_true h.2⟩
 |_=>simp[keyD] at h
mutual
def ui (w:TF):SG->Int
 | .none=>reduceHash 0xFCA86420
 | .int i=>hashInt i
 | .str x=>hashStr w x
 | .tuple xs=>reduceHash (Ua.Tuple.tupleHashOf (tQ w xs))
 |_=>0
def tQ (w:TF):List SG->List Int
 |[]=>[]
 |x::r=>ui w x::tQ w r
end
mutual
def Q8:SG->Nat
 | .tuple xs=>Lz xs+1
 |_=>1
def Lz:List SG->Nat
 |[]=>0
 |x::r=>Q8 x+Lz r
end
section
variable {prog:Te} {w:TF} {E:Sx->SK->Prop}
mutual
theorem Dk:∀(d:SG) (v:Sx) (f:List SI) (A:Tw) (s:SK) (Q:Int->SK->Prop),kd d=Sz->acB s.heap v d f->A.units+d.depth<cLine->Q (ui w d) {s with toks:=s.toks+Q8 d}->wpAny (model prog w) A (pyHash v) Q E s
 | .none,_,_,A,s,Q,_,r,hu,h=>by cases r;exact aaA (T:= "NoneType") rfl F.slot_NoneType_hash F.entry_NoneType_hash (F.args_NoneType_hash_1 _) (aeT _) (.inr (by omega)) (Sv (SQ (Sv (acF (SQ ⟨_,_,rfl,h⟩)))))
 | .int i,_,_,A,s,Q,_,r,_,h=>by cases r;exact aeI h
 | .str x,_,_,A,s,Q,_,r,_,h=>by cases r;exact aeJ h
 | .tuple xs,_,_,A,s,Q,hk,r,hu,h=>by
  cases r with
  | @tuple a o vs n _ _ h1 h2 h3 h4=>
   refine aaA (T:= "tuple") ⟨_,h1,h2⟩ F.slot_tuple_hash F.entry_tuple_hash (F.args_tuple_hash_1 _) (aeT _) (.inr (by omega)) ?_;show wpAny _ _ (Ua.Tuple.tupleItemsOf (.ref a)>>=_) _ _ s;refine Sv (wpAny_tupleItemsOf h1 h3 ?_);refine Sv ?_;rw[<-abn];unfold kd at hk;refine vt xs vs.toList _ A.in1 s #[] _ hk h4 (by simp only[SG.depth,Tw.in1_units] at hu⊢;omega) fun b e=> ?_;show wpAny _ _ (retInt (Ua.Tuple.tupleHashOf b.toList)) _ _ _;rw[e];refine Sv (acF (SQ ⟨_,_,rfl,?_⟩));unfold ui Q8 at h
   simpa [UI] using h
 | .bool _,_,_,_,_,_,h,_,_,_| .list _,_,_,_,_,_,h,_,_,_| .dict _,_,_,_,_,_,h,_,_,_=>by simp[kd] at h
theorem vt:∀(xs:List SG) (vs:List Sx) (g:List SI) (A:Tw) (s:SK) (b:Array Int) (Q:Array Int->SK->Prop),kds xs=Sz->aaJ s.heap vs xs g->A.units+SG.depthAll xs<cLine->
  (∀b':Array Int,b'.toList=b.toList++tQ w xs->Q b' {s with toks:=s.toks+Lz xs})->
  wpAny (model prog w) A (forIn vs b fun x r=>do let h<-pyHash x;pure PUnit.unit;pure (ForInStep.yield (r.push h))) Q E s
 |[],_,_,A,s,b,Q,_,x,_,h=>by cases x;exact SQ (h b (by simp[tQ]))
 |k::xs,_,_,A,s,b,Q,hk,x,hu,h=>by
  cases x with
  |cons e a=>
   unfold kds at hk;simp only[Ts,SG.depthAll] at hk hu;rw[Xt];refine Sv (Sv (Dk k _ _ A s _ hk.1 e (by omega) ?_));refine Sv (SQ (SQ ?_));refine vt xs _ _ A _ _ Q hk.2 a (by omega) fun b' f=> ?_;have:=h b' (by simp[f,tQ]);unfold Lz at this
   simpa [UI] using this
end
theorem yG:∀(n:Nat) (d:SG) (v:Sx) (j:List SI) (A:Tw) (s:SK) (Q:Bool->SK->Prop),kd d=Sz->acB s.heap v d j->d.depth<=n->Q Sz s->wpAny (model prog w) A (eqIsQuiet n v) Q E s
 |n,.none,_,_,A,s,Q,_,r,_,h=>by cases r;rw[Zr _ rfl];exact SQ h
 |n,.int i,_,_,A,s,Q,_,r,_,h=>by cases r;rw[Zr _ rfl];exact SQ h
 |n,.str i,_,_,A,s,Q,_,r,_,h=>by cases r;rw[Zr _ rfl];exact SQ h
 |0,.tuple xs,_,_,A,s,Q,hk,r,hn,h=>by simp only[SG.depth] at hn;omega
 |n+1,.tuple xs,_,_,A,s,Q,hk,r,hn,h=>by
  cases r with
  | @tuple a o vs m _ _ h1 h2 h3 h4=>
   have g:s.TypeIs (.ref a) "tuple":=⟨_,h1,h2⟩;simp only[SG.depth] at hn;unfold eqIsQuiet;refine Sv (afP g F.slot_tuple_eq.lookup ?_);refine Sv (ZI g isSubtype_tuple_tuple ?_);simp only[Z8,VV,if_false];refine Sv (UA h1 h3 ?_);refine Sv ?_;rw[<-abn];unfold kd at hk;refine wpAny_forIn_list _ (fun b r e=>r.1=Sw/\e=s/\∃ys bs,kds ys=Sz/\aaJ s.heap b ys bs/\SG.depthAll ys<=n) _ ?_ ?_ _ _ ⟨rfl,rfl,xs,_,hk,h4,by omega⟩
   .rintro v b r e ⟨f,rfl,ys,bs,k1,k2,k3⟩
    cases k2 with
    | @cons _ _ y ys' _ _ g1 g2=>unfold kds at k1;simp only[Ts,SG.depthAll] at k1 k3;refine Sv (yG n y v _ A e _ k1.1 g1 (by omega) ?_);simp only[Z8,VV,if_false];exact SQ ⟨rfl,rfl,ys',_,k1.2,g2,by omega⟩
   .rintro⟨p,l⟩ e ⟨f,rfl,_⟩;simp only at f;subst f;exact SQ h
 |_,.bool _,_,_,_,_,_,h,_,_,_|_,.list _,_,_,_,_,_,h,_,_,_|_,.dict _,_,_,_,_,_,h,_,_,_=>by simp[kd] at h
end
mutual
theorem vS {h h':Heap} {x:SI} {b:Obj} {es:Array Wc} {j:Nat} (e:h.get? x=lD b) (g:b.data= .dict es j) (f:Heap.SameBut x h h'):∀(d:SG) (v:Sx) (i:List SI),kd d=Sz->acB h v d i->acB h' v d i
 | .none,_,_,_,r=>by cases r;exact .none
 | .int _,_,_,_,r=>by cases r;exact .int _ _
 | .str _,_,_,_,r=>by cases r;exact .str _ _
 | .tuple xs,_,_,k,r=>by
  cases r with
  | @tuple a o vs n _ _ h1 h2 h3 h4=>
   have l:a≠x:=by rintro rfl;rw[e] at h1;cases h1;rw[g] at h3;exact nomatch h3
   unfold kd at k;exact .tuple ((f.2 a l).trans h1) h2 h3 (r8 e g f xs _ _ k h4)
 | .bool _,_,_,h,_| .list _,_,_,h,_| .dict _,_,_,h,_=>by simp[kd] at h
theorem r8 {h h':Heap} {x:SI} {a:Obj} {es:Array Wc} {l:Nat} (b:h.get? x=lD a) (f:a.data= .dict es l) (e:Heap.SameBut x h h'):∀(ds:List SG) (vs:List Sx) (g:List SI),kds ds=Sz->aaJ h vs ds g->aaJ h' vs ds g
 |[],_,_,_,r=>by cases r;exact .nil
 |d::ds,_,_,k,r=>by
  cases r with
  |cons j i=>unfold kds at k;rw[Ts] at k;exact .cons (vS b f e d _ _ k.1 j) (r8 b f e ds _ _ k.2 i)
end
abbrev KD:={d:SG//keyD d=Sz}
noncomputable instance kdDec:DecidableEq KD:=fun _ _=>Classical.propDecidable _
def iQ (prog:Te) (w:TF):ag4 prog w KD where
 is:=fun h k a=>∃as,acB h (.ref a) k.1 as
 hash:=fun k=>ui w k.1
 draws:=fun k=>Q8 k.1
 room:=fun A=>A.units+8<cLine
 inj:=fun⟨_,r⟩ ⟨_,f⟩=>Subtype.ext (acB.unique r _ _ f).1
 keeps:=fun{h h' k a d o es ep} ⟨as,r⟩ ho hd hs=>⟨as,vS ho hd hs k.1 _ _ (fG k.2).1 r⟩
 pyHash:=fun{A E s k a Q} hu ⟨as,r⟩ q=>Dk k.1 _ as A s Q (fG k.2).1 r (by have:=(fG k.2).2;omega) q
 eqBool:=fun{A E s x y a b Q} hu ⟨as,r⟩ ⟨bs,f⟩ q=>SeqAt.eqAt_reads x.1 y.1 A s _ _ as bs r f (kd_lay _ (fG x.2).1) (kd_lay _ (fG y.2).1) (by have:=(fG x.2).2;omega) prog w E Q (by
  haveI:Decidable (x.1=y.1):=Classical.propDecidable _
  rw[IC (fG x.2).1 (fG y.2).1];by_cases e:x=y
  .rw[decide_eq_true e] at q;rw[decide_eq_true (congrArg Subtype.val e)];exact q
  .rw[decide_eq_false e] at q;rw[decide_eq_false fun z=>e (Subtype.ext z)];exact q)
 quiet:=fun{A E s k a Q} ⟨as,r⟩ q=>yG 8 k.1 _ as A s Q (fG k.2).1 r (fG k.2).2 q
def Sg (a:SI) (xs:List (KD×SI×V)) (w:TF) (h:Heap):Prop:=
 (xs.length<=SY/\(a==Us)=SN/\(xs.map (·.1)).Nodup)/\∃o es ep,h.get? a=lD o/\o.ExactDict/\o.data= .dict es ep/\Paired (fun(x:KD×SI×V) (e:Wc)=>e.hash=ui w x.1.1/\e.key= .ref x.2.1/\RelV x.2.2 e.val) xs es.toList
abbrev DkO (a:SI) (xs:List (KD×SI×V)):HO:= .exw (Sg a xs)
abbrev PrD (O:cw) (K:Ld) (H:Hp):List (KD×SI×V)->List (D×D)->Prop:=
 Paired fun x a=>x.1.1=a.1/\L3.DV O K H (.ref x.2.1) a.1/\L3.DV O K H x.2.2 a.2
end LD
namespace L10
open PySem L2 L3
inductive AV where
 |fz (d:D)
 |rf (i:Nat)
inductive SV where
 |fz (d:D)
 |rf (i:Nat)
 |tp (l:List AV)
def AV.sv:AV->SV
 | .fz d=> .fz d
 | .rf i=> .rf i
inductive Cell where
 |lst (xs:List SV)
 |Yu (Ti:List (cT×SV))
 |obj (C:Str) (fs:List (Str×SV))
 |dd (Ti:List (D×D))
 |dead
abbrev bh:=List Cell
abbrev bA:=List (Option SV)
inductive RS (α:Type) where
 |ok (a:α) (Z:bh)
 |er (x:Xc) (Z:bh)
 |bad
def RS.bind (r:RS α) (f:α->bh->RS β):RS β:=match r with
 | .ok a Z=>f a Z
 | .er x Z=> .er x Z
 | .bad=> .bad
def RS.TX (Z:bh):Option α->RS α
 |some a=> .ok a Z
 |none=> .bad
theorem RS.bind_ok (a:α) (Z:bh) (f:α->bh->RS β):(RS.ok a Z).bind f=f a Z:=rfl
def Lv (α:List SI) (Z:bh):cw:=fun b=>∃(i:Nat) (c:Cell),α[i]? =lD b/\Z[i]? =lD c/\c≠Cell.dead
def ow (B:cw) (α:List SI) (Z:bh):cw:=fun b=>B b\/Lv α Z b
section
variable (O:cw) (K:Ld) (H:Hp) (Z:List SI)
def AOk (v:V):AV->Prop
 | .fz d=>DV O K H v d
 | .rf i=>∃a,Z[i]? =lD a/\v= .ref a
def VY (v:V):SV->Prop
 | .fz d=>DV O K H v d
 | .rf i=>∃a,Z[i]? =lD a/\v= .ref a
 | .tp l=>∃a xs,v= .ref a/\XA O K H a xs/\Paired (AOk O K H Z) xs l
abbrev Vy:List V->List SV->Prop:=Paired (VY O K H Z)
def COk (a:SI):Cell->Prop
 | .lst xs=>∃vs,H a=lD (.lst vs)/\Vy O K H Z vs xs
 | .Yu Ti=>∃ws:List (cT×V),H a=lD (.dK ws)/\Paired (fun(p:cT×V) (q:cT×SV)=>p.1=q.1/\VY O K H Z p.2 q.2) ws Ti
 | .obj C fs=>∃Ca dx ws,Ta K S4 C=lD (lD (.ref Ca))/\H a=lD (.ins Ca dx ws)/\Paired (fun(p:Str×V) (q:Str×SV)=>p.1=q.1/\VY O K H Z p.2 q.2) ws fs
 | .dd Ti=>∃xs,H a=lD (LD.DkO a xs)/\LD.PrD O K H xs Ti
 | .dead=>True
def VO (a:L2.St) (ρ:bA):Prop:=a.length=ρ.length/\∀(i:Nat) (x:SV),ρ[i]? =lD (lD x)->∃v,a[i]? =lD (lD v)/\VY O K H Z v x
end
structure Tz (B:cw) (K:Ld) (H:Hp) (α:List SI) (Z:bh):Prop where
 len:α.length=Z.length
 nd:∀(i j:Nat) (a:SI),α[i]? =lD a->α[j]? =lD a->i=j
 bn:∀a,B a->H a≠Sw
 ba:∀a,B a->∀i:Nat,α[i]?≠lD a
 al:∀(i:Nat) (a:SI),α[i]? =lD a->H a≠Sw
 ZD:∀(i:Nat) (a:SI) (c:Cell),α[i]? =lD a->Z[i]? =lD c->COk (ow B α Z) K H α a c
structure UW (α:List SI) (Z:bh) (H:Hp) (α':List SI) (Z':bh) (H':Hp):Prop where
 pre:∀(i:Nat) (a:SI),α[i]? =lD a->α'[i]? =lD a
 kp:∀b o,H b=lD o->¬Lv α Z b->H' b=lD o
 lv:∀b,Lv α' Z' b->Lv α Z b\/H b=Sw
section
variable {B O Q:cw} {K:Ld} {E:XK} {H H' R N:Hp} {Y X U S:List SI} {Z T Z1 M:bh} {σ:L2.St} {ρ:bA} {v:V}
theorem UW.refl:UW Y Z H Y Z H:=⟨fun _ _ h=>h,fun _ _ h _=>h,fun _ h=> .inl h⟩
theorem UW.trans (a:UW Y Z H U Z1 R) (b:UW U Z1 R S M N):UW Y Z H S M N:=by
 have e:∀b o,H b=lD o->¬Lv Y Z b->¬Lv U Z1 b:=fun b o h n z=>(a.lv b z).elim n fun q=>by rw[h] at q;cases q
 refine⟨fun i p h=>b.pre i p (a.pre i p h),fun p o h n=>b.kp p o (a.kp p o h n) (e p o h n),fun p h=> ?_⟩;rcases b.lv p h with h|h
 .exact a.lv p h
 .cases q:H p with
  |none=>exact .inr rfl
  |some o=>refine .inl (Classical.byContradiction fun n=> ?_);rw[a.kp p o q n] at h;cases h
theorem UW.same (s:UP H H'):UW Y Z H Y Z H':=⟨fun _ _ h=>h,fun b o h _=>s b o h,fun _ h=> .inl h⟩
theorem UW.ev (e:UW Y Z H X T H'):Ev (ow B Y Z) H (ow B X T) H':=fun b o h n=>
 ⟨e.kp b o h fun z=>n (.inr z),fun z=>z.elim (fun q=>n (.inl q)) fun q=>(e.lv b q).elim (fun q=>n (.inr q)) fun q=>by rw[h] at q;cases q⟩
theorem AOk.ev (e:Ev O H Q H') (p:∀(i:Nat) (a:SI),Y[i]? =lD a->X[i]? =lD a) (h:AOk O K H Y v x):AOk Q K H' X v x:=by
 cases x with
 |fz d=>exact DV.ev e h
 |rf i=>obtain⟨a,f,b⟩:=h;exact⟨a,p i a f,b⟩
theorem VY.ev (e:Ev O H Q H') (p:∀(i:Nat) (a:SI),Y[i]? =lD a->X[i]? =lD a) (h:VY O K H Y v x):VY Q K H' X v x:=by
 cases x with
 |fz d=>exact DV.ev e h
 |rf i=>obtain⟨a,f,b⟩:=h;exact⟨a,p i a f,b⟩
 |tp l=>obtain⟨a,xs,f,b,g⟩:=h;exact⟨a,xs,f,b.ev e,Paired.W0 g fun _ _ q=>q.ev e p⟩
theorem VY.Vm (e:UW Y Z H X T H') (h:VY (ow B Y Z) K H Y v x):VY (ow B X T) K H' X v x:=h.ev e.ev e.pre
theorem Vy.Vm (e:UW Y Z H X T H') (h:Vy (ow B Y Z) K H Y vs xs):Vy (ow B X T) K H' X vs xs:=Paired.W0 h fun _ _ q=>q.Vm e
theorem VO.Vm (e:UW Y Z H X T H') (h:VO (ow B Y Z) K H Y σ ρ):VO (ow B X T) K H' X σ ρ:=⟨h.1,fun i x q=>let⟨v,h1,h2⟩:=h.2 i x q;⟨v,h1,h2.Vm e⟩⟩
theorem COk.ev (e:Ev O H Q H') (p:∀(i:Nat) (a:SI),Y[i]? =lD a->X[i]? =lD a) (ha:∀o,H a=lD o->H' a=lD o) (h:COk O K H Y a c):COk Q K H' X a c:=by
 cases c with
 |lst xs=>obtain⟨vs,f,b⟩:=h;exact⟨vs,ha _ f,Paired.W0 b fun _ _ q=>q.ev e p⟩
 |Yu Ti=>obtain⟨ws,f,b⟩:=h;exact⟨ws,ha _ f,Paired.W0 b fun _ _ q=>⟨q.1,q.2.ev e p⟩⟩
 |obj C fs=>obtain⟨j,dx,ws,g,f,b⟩:=h;exact⟨j,dx,ws,g,ha _ f,Paired.W0 b fun _ _ q=>⟨q.1,q.2.ev e p⟩⟩
 |dd Ti=>obtain⟨xs,f,b⟩:=h;exact⟨xs,ha _ f,Paired.W0 b fun _ _ q=>⟨q.1,q.2.1.ev e,q.2.2.ev e⟩⟩
 |dead=>trivial
theorem Tz.noO (s:Tz B K H Y Z):qL (ow B Y Z) H:=fun a h z=>z.elim (fun q=>s.bn a q h) fun⟨i,c,q,_⟩=>s.al i a q h
theorem Tz.owd (s:Tz B K H Y Z):∀a,ow B Y Z a->H a≠Sw:=fun a z h=>s.noO a h z
theorem Tz.grow (s:Tz B K H Y Z) (e:UP H H'):Tz B K H' Y Z:=by have n:∀a,H a≠Sw->H' a≠Sw:=fun a h z=>h (e.free z);exact⟨s.len,s.nd,fun a h=>n a (s.bn a h),s.ba,fun i a h=>n a (s.al i a h),fun i a c f b=>(s.ZD i a c f b).ev (Ev.grow e) (fun _ _ h=>h) fun o h=>e _ _ h⟩
theorem Tz.at (s:Tz B K H Y Z) {i:Nat} (h:Z[i]? =lD c):∃a,Y[i]? =lD a:=by have:i<Z.length:=(SD.mp h).1;rw[<-s.len] at this;exact⟨_,SM this⟩
theorem Tz.acT (s:Tz B K H Y Z) {i:Nat} (h:Y[i]? =lD a):¬B a:=fun z=>s.ba a z i h
theorem AR {i:Nat} {c m:Cell} (h:Z[i]? =lD c) (n:c≠ .dead) (g:m≠ .dead) {b:SI}:Lv Y (Z.set i m) b↔Lv Y Z b:=by
 constructor
 .rintro⟨j,d,f,a,l⟩
  rcases cB a with⟨rfl,rfl⟩|⟨_,a⟩
  .exact⟨j,c,f,h,n⟩
  .exact⟨j,d,f,a,l⟩
 .rintro⟨j,d,f,a,l⟩
  by_cases e:j=i
  .subst e;exact⟨j,m,f,by rw[T6 (SD.mp h).1],g⟩
  .exact⟨j,d,f,by rw[TY (fun z=>e z.symm)];exact a,l⟩
theorem OS (h:Z[i]? =lD c) (e:c≠ .dead) (a:c'≠ .dead):ow B Y (Z.set i c')=ow B Y Z:=by funext b;exact propext ⟨fun z=>z.imp id (AR h e a).mp,fun z=>z.imp id (AR h e a).mpr⟩
theorem UW.put (ha:Y[i]? =lD a) (h:Z[i]? =lD c) (g:c≠ .dead) (f:c'≠ .dead):UW Y Z H Y (Z.set i c') (bJ H a o):=
 ⟨fun _ _ h=>h,fun b j q n=>by have z:b≠a:=fun e=>n ⟨i,c,by rw[e];exact ha,h,g⟩;rw[aD z];exact q,fun b z=> .inl ((AR h g f).mp z)⟩
theorem Tz.put (s:Tz B K H Y Z) (ha:Y[i]? =lD a) (h:Z[i]? =lD c) (m:c≠ .dead) (f:c'≠ .dead) (new:COk (ow B Y Z) K (bJ H a o) Y a c'):Tz B K (bJ H a o) Y (Z.set i c'):=by
 have e:UW Y Z H Y (Z.set i c') (bJ H a o):=UW.put ha h m f;have n:∀b,H b≠Sw->bJ H a o b≠Sw:=fun b h=>by
  by_cases z:b=a
  .subst z;rw[aR];simp
  .rw[aD z];exact h
 refine⟨by rw[Ug];exact s.len,s.nd,fun b h=>n b (s.bn b h),s.ba,fun j b h=>n b (s.al j b h),fun j b d g l=> ?_⟩;rcases cB l with⟨rfl,rfl⟩|⟨p,l⟩
 .rw[ha] at g;cases g;rw[OS h m f];exact new
 .exact(s.ZD j b d g l).ev e.ev e.pre fun u q=>by rw[aD (fun z=>p (s.nd j i a (by rw[<-z];exact g) ha))];exact q
theorem pX {i:Nat} {a:SI} {c:Cell} {o:HO} (ha:Y[i]? =lD a) (h:Z[i]? =lD c) (b:c≠ .dead):Ev (ow B Y Z) H (ow B Y Z) (bJ H a o):=Ev.mut (.inr ⟨i,c,ha,h,b⟩) o
theorem cz {Y:Type} {l:List Y} {x y:Y} {i:Nat} (h:(l++[x])[i]? =lD y):l[i]? =lD y\/(i=l.length/\y=x):=by
 by_cases hi:i<l.length
 .rw[S1 hi] at h;exact .inl h
 .rw[TC (by omega)] at h
  cases q:i - l.length with
  |zero=>rw[q] at h;cases h;exact .inr ⟨by omega,rfl⟩
  |succ n=>rw[q] at h;cases h
theorem iV {Y:Type} {l:List Y} {x y:Y} {i:Nat} (h:l[i]? =lD y):(l++[x])[i]? =lD y:=by rw[S1 (SD.mp h).1];exact h
theorem aW:(l++[x])[l.length]? =lD x:=by simp
theorem wM (g:Y.length=Z.length) (h:Lv (Y++[p]) (Z++[c]) b):Lv Y Z b\/b=p:=by
 obtain⟨i,d,a,e,f⟩:=h;rcases cz a with a|⟨e1,e2⟩
 .rcases cz e with e|⟨e1,e2⟩
  .exact .inl ⟨i,d,a,e,f⟩
  .have:=(SD.mp a).1;omega
 .exact .inr e2
theorem UW.aan (g:Y.length=Z.length) (s:UP H H') (f:H p=Sw):UW Y Z H (Y++[p]) (Z++[c]) H':=
 ⟨fun i a h=>iV h,fun b u q _=>s b u q,fun b z=>(wM g z).imp id fun e=>by rw[e];exact f⟩
theorem Tz.aan (s:Tz B K H Y Z) (e:UP H H') (l:H p=Sw) (m:H' p≠Sw) (new:COk (ow B (Y++[p]) (Z++[c])) K H' (Y++[p]) p c):Tz B K H' (Y++[p]) (Z++[c]):=by
 have ev:UW Y Z H (Y++[p]) (Z++[c]) H':=UW.aan s.len e l;have n:∀b,H b≠Sw->H' b≠Sw:=fun b h z=>h (e.free z);refine⟨by rw[SH,SH,s.len];rfl,fun i j a f g=> ?_,fun a h=>n a (s.bn a h),fun a h i q=> ?_,fun i a h=> ?_,fun i a d f g=> ?_⟩
 .rcases cz f with g1|⟨e1,e2⟩<;>rcases cz g with g2|⟨e3,e4⟩
  .exact s.nd i j a g1 g2
  .exact absurd (by rw[e4];exact l) (s.al i a g1)
  .exact absurd (by rw[e2];exact l) (s.al j a g2)
  .omega
 .rcases cz q with q|⟨_,e2⟩
  .exact s.ba a h i q
  .subst e2;exact s.bn a h l
 .rcases cz h with h|⟨_,e2⟩
  .exact n a (s.al i a h)
  .subst e2;exact m
 .rcases cz g with g|⟨e1,e2⟩
  .rcases cz f with f|⟨e1,_⟩
   .exact(s.ZD i a d f g).ev ev.ev ev.pre fun o q=>e _ _ q
   .have:=(SD.mp g).1;have:=s.len;omega
  .rcases cz f with f|⟨_,e3⟩
   .have:=(SD.mp f).1;have:=s.len;omega
   .subst e2 e3;exact new
def WS (K:Ld) (E:XK) (B:cw) (H:Hp) (Y:List SI) (Z:bh) (P:A->List SI->bh->Hp->Prop):RS A->Prop
 | .ok a T=>∀X H',UW Y Z H X T H'->Tz B K H' X T->P a X T H'
 | .er x T=>∀c dx X H',UW Y Z H X T H'->Tz B K H' X T->XOk K (ow B X T) H' c dx x->E c dx H'
 | .bad=>False
theorem WS.from (e:UW Y Z H U Z1 R) (h:WS K E B H Y Z P r):WS K E B R U Z1 P r:=by
 cases r with
 |ok a M=>exact fun S N f b=>h S N (e.trans f) b
 |er x M=>exact fun c dx S N f b=>h c dx S N (e.trans f) b
 |bad=>exact h
theorem WS.bind (h:WS K E B H Y Z P (r.bind k)):WS K E B H Y Z (fun a U Z1 R=>WS K E B R U Z1 P (k a Z1)) r:=by
 cases r with
 |ok a Z1=>exact fun U R b _=>WS.from b h
 |er x Z1=>exact h
 |bad=>exact h
theorem WS.TX (h:WS K E B H Y Z P ((RS.TX Z o).bind k)):∃a,o=lD a/\WS K E B H Y Z P (k a Z):=by
 cases o with
 |none=>exact h.elim
 |some a=>exact⟨a,rfl,h⟩
theorem WS.imp (h:WS K E B H Y Z P r) (g:∀a X T H',UW Y Z H X T H'->Tz B K H' X T->P a X T H'->P' a X T H'):WS K E B H Y Z P' r:=by
 cases r with
 |ok a Z1=>exact fun U R e b=>g a U Z1 R e b (h U R e b)
 |er x Z1=>exact h
 |bad=>exact h
theorem WS.now (s:Tz B K H Y Z) (h:WS K E B H Y Z P (.ok a Z)):P a Y Z H:=h Y H .refl s
end
abbrev ef:=bA->bh->RS SV
abbrev uP:=bA->bh->RS Bool
abbrev yV:=bA->bh->RS (List SV)
def cW (K:Ld) (E:XK) (t:TE) (f:ef):Prop:=
 ∀(B:cw) (b:L2.St) (H:Hp) (α:List SI) (Z:bh) (ρ:bA) (Q:VK),Tz B K H α Z->VO (ow B α Z) K H α b ρ->WS K E B H α Z (fun x a g e=>∀v,VY (ow B a g) K e a v x->Q v e) (f ρ Z)->t b H Q
def vv (K:Ld) (E:XK) (t:TT) (f:uP):Prop:=
 ∀(B:cw) (a:L2.St) (H:Hp) (α:List SI) (Z:bh) (ρ:bA) (Q:Bool->Hp->Prop),Tz B K H α Z->VO (ow B α Z) K H α a ρ->WS K E B H α Z (fun b _ _ e=>Q b e) (f ρ Z)->t a H Q
def w6 (K:Ld) (E:XK) (t:TA) (f:yV):Prop:=
 ∀(B:cw) (b:L2.St) (H:Hp) (α:List SI) (Z:bh) (ρ:bA) (Q:List V->Hp->Prop),Tz B K H α Z->VO (ow B α Z) K H α b ρ->WS K E B H α Z (fun xs a g e=>∀vs,Vy (ow B a g) K e a vs xs->Q vs e) (f ρ Z)->t b H Q
section
variable {B O M:cw} {K:Ld} {E:XK} {H H' T H2:Hp} {Y N X J:List SI} {Z Z' Z1 P:bh} {U:L2.St} {ρ:bA} {v:V}
def MY:Option SV->Option PV
 |some (.fz d)=>lD (.fz d)
 |_=>Sw
def bQ (ρ:bA):bq:=ρ.map MY
theorem vG {i:Nat} (h:(bQ ρ)[i]? =lD (lD x)):∃d,x= .fz d/\ρ[i]? =lD (lD (.fz d)):=by
 unfold bQ at h;rw[SX] at h;cases q:ρ[i]? with
 |none=>rw[q] at h;cases h
 |some o=>
  rw[q] at h;have a:=S7 h;unfold MY at a;split at a
  .cases a;exact⟨_,rfl,rfl⟩
  .cases a
theorem Fs (s:Tz B K H Y Z) (a:VO (ow B Y Z) K H Y U ρ):Rl K (ow B Y Z) H (ow B Y Z) U H (bQ ρ):=by
 refine⟨UP.refl _,fun _ h=>h,s.owd,s.noO,by unfold bQ;rw[Sy];exact a.1,fun i x h=> ?_,fun i j ds l w h=> ?_⟩
 .obtain⟨d,rfl,b⟩:=vG h;obtain⟨v,g,f⟩:=a.2 i _ b;exact⟨v,g,f⟩
 .obtain⟨d,e,_⟩:=vG h;cases e
def nv (Z:bh):RV->RS SV
 | .fz d=> .ok (.fz d) Z
 | .ow ds=> .ok (.rf Z.length) (Z++[.lst (ds.map .fz)])
abbrev PQ (B:cw) (K:Ld) (Q:VK):SV->List SI->bh->Hp->Prop:=fun x N Z' H'=>∀v,VY (ow B N Z') K H' N v x->Q v H'
theorem lK (O:cw) (Y:List SI):∀{vs:List V} {ds:List D},US O K H vs ds->Vy O K H Y vs (ds.map .fz)
 |_,_,.nil=> .nil
 |_,_,.cons h t=> .cons h (lK O Y t)
theorem IP:∀{vs:List V} {ds:List D},Vy O K H Y vs (ds.map .fz)->US O K H vs ds
 |_,[],.nil=> .nil
 |_,_::_,.cons h t=> .cons h (IP t)
theorem sI (s:Tz B K H Y Z) (w:WS K E B H Y Z (PQ B K Q) (nv Z (.ow ds))) (e:UP H H') (a:H p=Sw) (h:H' p=lD (.lst vs)) (hd:US M K H' vs ds) (f:∀b,ow B Y Z b->M b) (g:M p):Q (.ref p) H':=by
 have sub:∀b,ow B (Y++[p]) (Z++[.lst (ds.map .fz)]) b->M b:=fun b z=>z.elim (fun q=>f b (.inl q)) fun q=>(wM s.len q).elim (fun q=>f b (.inr q)) fun q=>by rw[q];exact g
 exact w (Y++[p]) H' (UW.aan s.len e a) (s.aan e a (by rw[h];simp) ⟨vs,h,lK _ _ (hd.ev (Ev.sub sub))⟩) (.ref p) ⟨p,by rw[<-s.len];exact aW,rfl⟩
theorem FM (s:Tz B K H Y Z) (w:WS K E B H Y Z (PQ B K Q) (nv Z rv)):Fin (ow B Y Z) K H Q rv:=by
 cases rv with
 |fz d=>exact fun v H' e a=>w Y H' (UW.same e) (s.grow e) v a
 |ow ds=>exact fun p vs H' e f h a=>sI s w e f h a (fun b z=> .inl z) (.inr rfl)
def af (f:FE):ef:=fun ρ Z=>match f (bQ ρ) with
 | .ok (.fz d,_)=> .ok (.fz d) Z
 | .ok (.ow ds,_)=>nv Z (.ow ds)
 | .ok (.pl _,_)=> .bad
 | .er x=> .er x Z
 | .bad=> .bad
theorem aw (h:EO K E t f):cW K E t (af f):=by
 intro B U H Y Z ρ Q s g w;refine h (ow B Y Z) H (ow B Y Z) U H (bQ ρ) Q (Fs s g) ?_;unfold af at w;cases q:f (bQ ρ) with
 |bad=>rw[q] at w;exact w.elim
 |er x=>rw[q] at w;exact fun c dx H' e k=>w c dx Y H' (UW.same e) (s.grow e) k
 |ok r=>
  obtain⟨pv,b⟩:=r;rw[q] at w;intro M v H' e R p;cases pv with
  |fz d=>exact w Y H' (UW.same R.same) (s.grow R.same) v (DV.ev (Ev.sub R.bo) p)
  |ow ds=>obtain⟨a,vs,rfl,n,m,l,j,o⟩:=p;exact sI s w R.same m l j R.bo n
  |pl i=>exact w.elim
def cr (f:FT):uP:=fun ρ Z=>match f (bQ ρ) with
 | .ok (b,_)=> .ok b Z
 | .er x=> .er x Z
 | .bad=> .bad
theorem Hk (h:TTO K E t f):vv K E t (cr f):=by
 intro B U H Y Z ρ Q s g w;refine h (ow B Y Z) H (ow B Y Z) U H (bQ ρ) Q (Fs s g) ?_;unfold cr at w;cases q:f (bQ ρ) with
 |bad=>rw[q] at w;exact w.elim
 |er x=>rw[q] at w;exact fun c dx H' e k=>w c dx Y H' (UW.same e) (s.grow e) k
 |ok r=>obtain⟨b,a⟩:=r;rw[q] at w;exact fun M H' e R=>w Y H' (UW.same R.same) (s.grow R.same)
def ao (i:Nat):ef:=fun ρ Z=>match ρ[i]? with
 |some (lD x)=> .ok x Z
 |_=> .bad
theorem aF:cW K E (zM i) (ao i):=by
 intro B U H Y Z ρ Q s a w;unfold ao at w;cases q:ρ[i]? with
 |none=>rw[q] at w;exact w.elim
 |some o=>
  cases o with
  |none=>rw[q] at w;exact w.elim
  |some x=>rw[q] at w;obtain⟨v,e,b⟩:=a.2 i x q;exact⟨v,e,WS.now s w v b⟩
def gr (K:Ld) (C:Str) (fs:List Str):Prop:=∃Ca,Ta K S4 C=lD (lD (.ref Ca))/\Cls K Ca/\∀f∈fs,WL K Ca f
def aV (C f:Str) (e:ef):ef:=fun ρ Z=>(e ρ Z).bind fun x Z1=>match x with
 | .rf i=>(match Z1[i]? with
  |some (.obj D fs)=>if D=C then RS.TX Z1 (fs.lookup f) else .bad
  |_=> .bad)
 |_=> .bad
theorem vL:∀{ws:List (Str×V)} {fs:List (Str×SV)},Paired (fun(p:Str×V) (q:Str×SV)=>p.1=q.1/\VY O K H Y p.2 q.2) ws fs->fs.lookup f=lD x->∃v,ws.lookup f=lD v/\VY O K H Y v x
 |_,_,.nil,h=>by cases h
 |(a,v)::ws,(b,y)::fs,.cons ⟨h1,h2⟩ t,h=>by
  cases h1;rw[Tb] at h⊢;split at h
  .cases h;exact⟨v,rfl,h2⟩
  .exact vL t h
theorem vO:∀{ws:List (Str×V)} {fs:List (Str×SV)},Paired (fun(p:Str×V) (q:Str×SV)=>p.1=q.1/\VY O K H Y p.2 q.2) ws fs->fs.lookup f=Sw->ws.lookup f=Sw
 |_,_,.nil,h=>rfl
 |(a,v)::ws,(b,y)::fs,.cons ⟨h1,h2⟩ t,h=>by
  cases h1;rw[Tb] at h⊢;split at h
  .cases h
  .exact vO t h
theorem bE (p:gr K C L) (o:f∈L) (ha:cW K E ta fa):cW K E (Oa K ta f) (aV C f fa):=by
 intro B U H Y Z ρ Q s j w;refine ha B U H Y Z ρ _ s j (w.bind.imp fun x X Z1 T I e b v m=> ?_);cases x with
 |fz d=>exact b.elim
 |tp l=>exact b.elim
 |rf i=>
  obtain⟨a,ha,rfl⟩:=m;dsimp only at b;cases q:Z1[i]? with
  |none=>rw[q] at b;exact b.elim
  |some c=>
   rw[q] at b;cases c with
   |obj D fs=>
    dsimp only at b;by_cases z:D=C
    .subst z
     rw[if_pos rfl] at b;obtain⟨G,dx,ws,y,t,r⟩:=e.ZD i a _ ha q;cases ql:fs.lookup f with
     |none=>rw[ql] at b;exact b.elim
     |some x=>rw[ql] at b;obtain⟨u,n,h⟩:=vL r ql;obtain⟨R,g,F,A⟩:=p;rw[y] at g;cases g;exact⟨a,G,dx,ws,u,rfl,t,F,A f o,n,WS.now e b u h⟩
    .rw[if_neg z] at b;exact b.elim
   |_=>exact b.elim
def aI {Y a:Type} (f:Y->Option a):List Y->Option (List a)
 |[]=>lD []
 |x::r=>match f x with
  |some y=>(match aI f r with
   |some b=>lD (y::b)
   |none=>Sw)
  |none=>Sw
def qJ:Nat->bh->SV->Option D
 |_,_,.fz d=>lD d
 |0,_,_=>Sw
 |n+1,Z,.rf i=>match Z[i]? with
  |some (.lst xs)=>(aI (qJ n Z) xs).map .list
  |_=>Sw
 |n+1,Z,.tp l=>(aI (fun x=>qJ n Z x.sv) l).map .tuple
theorem dM {Y a:Type} {f:Y->Option a} {R:V->Y->Prop} {S:V->a->Prop} (h:∀v x y,R v x->f x=lD y->S v y):∀{vs:List V} {xs:List Y} {g:List a},Paired R vs xs->aI f xs=lD g->Paired S vs g
 |_,_,_,.nil,e=>by cases e;exact .nil
 |_,_,_,.cons (b:=x) (l₂:=xs) r t,e=>by
  unfold aI at e;cases q:f x with
  |none=>rw[q] at e;cases e
  |some y=>
   rw[q] at e;dsimp only at e;cases q2:aI f xs with
   |none=>rw[q2] at e;cases e
   |some g=>rw[q2] at e;cases e;exact .cons (h _ _ _ r q) (dM h t q2)
theorem lX:∀{vs:List V} {ds:List D},Paired (DV O K H) vs ds->US O K H vs ds
 |_,_,.nil=> .nil
 |_,_,.cons h t=> .cons h (lX t)
theorem Nl:Ev O H noO H:=Ev.sub fun _ z=>z.elim
theorem mJ (s:Tz B K H Y Z):∀(n:Nat) {v:V} {x:SV} {d:D},VY (ow B Y Z) K H Y v x->qJ n Z x=lD d->DV noO K H v d
 |n,v,.fz d',d,h,e=>by
  have g:lD d'=lD d:=by cases n<;>exact e
  cases g;exact DV.ev Nl h
 |0,v,.rf i,d,h,e=>by cases e
 |0,v,.tp l,d,h,e=>by cases e
 |n+1,v,.rf i,d,h,e=>by
  obtain⟨a,ha,rfl⟩:=h;unfold qJ at e;cases q:Z[i]? with
  |none=>rw[q] at e;cases e
  |some c=>
   rw[q] at e;cases c with
   |lst xs=>
    dsimp only at e;cases q2:aI (qJ n Z) xs with
    |none=>rw[q2] at e;cases e
    |some ds=>rw[q2] at e;cases e;obtain⟨vs,f,b⟩:=s.ZD i a _ ha q;exact .lst ⟨WC.of f,fun z=>z.elim⟩ (lX (dM (R:=VY (ow B Y Z) K H Y) (fun v x y r e=>mJ s n r e) b q2))
   |_=>cases e
 |n+1,v,.tp l,d,h,e=>by
  obtain⟨a,xs,rfl,f,b⟩:=h;unfold qJ at e;cases q2:aI (fun x=>qJ n Z x.sv) l with
  |none=>rw[q2] at e;cases e
  |some ds=>rw[q2] at e;cases e;exact .tup (f.ev Nl) (lX (dM (fun v x y r e=>mJ s n (by cases x<;>exact r) e) b q2))
def ze:SV->Option D
 | .fz d=>lD d
 |_=>Sw
def sh (Z:bh):SV->Option D
 | .fz d=>lD d
 | .rf i=>match Z[i]? with
  |some (.lst xs)=>(aI ze xs).map .list
  |_=>Sw
 | .tp _=>Sw
theorem Fo (s:Tz B K H Y Z) (h:VY (ow B Y Z) K H Y v x) (e:sh Z x=lD d):DX (ow B Y Z) K H v d:=by
 cases x with
 |fz g=>cases e;exact DV.x h
 |tp l=>cases e
 |rf i=>
  obtain⟨a,ha,rfl⟩:=h;unfold sh at e;dsimp only at e;cases q:Z[i]? with
  |none=>rw[q] at e;cases e
  |some c=>
   rw[q] at e;cases c with
   |lst xs=>
    dsimp only at e;cases q2:aI ze xs with
    |none=>rw[q2] at e;cases e
    |some ds=>
     rw[q2] at e;cases e;obtain⟨vs,f,b⟩:=s.ZD i a _ ha q;refine⟨a,vs,rfl,WC.of f,lX (dM (fun v x y r e=> ?_) b q2)⟩;cases x with
     |fz d=>cases e;exact r
     |rf i=>cases e
     |tp l=>cases e
   |_=>cases e
def EG:D->Bool
 | .none=>Sz
 | .bool _=>Sz
 | .int _=>Sz
 | .str _=>Sz
 |_=>SN
theorem JR (h:EG d=Sz) (a:DV O K H v d):DV M K H' v d:=by
 cases a with
 |Vh=>exact .Vh
 |bl b=>exact .bl b
 |int i=>exact .int i
 |str x=>exact .str x
 |tup _ _=>cases h
 |lst _ _=>cases h
def qW (Z:bh):RV->RS SV
 | .fz d=>if EG d=Sz then .ok (.fz d) Z else .bad
 | .ow _=> .bad
theorem Iz (s:Tz B K H Y Z) (w:WS K E B H Y Z (PQ B K Q) (qW Z rv)):Fin noO K H Q rv:=by
 cases rv with
 |fz d=>
  have w:WS K E B H Y Z (PQ B K Q) (if EG d=Sz then RS.ok (SV.fz d) Z else RS.bad):=w;by_cases z:EG d=Sz
  .rw[if_pos z] at w;exact fun v H' e a=>w Y H' (UW.same e) (s.grow e) v (JR z a)
  .rw[if_neg z] at w;exact w.elim
 |ow ds=>exact w.elim
theorem Jr:qL noO H:=fun _ _ z=>z
def re (f:D->D->Option RV) (x y:SV) (Z:bh):RS SV:=match sh Z x,sh Z y with
 |some dx,lD a=>(RS.TX Z (f dx a)).bind fun rv Z1=>nv Z1 rv
 |_,_=>(RS.TX Z (qJ 6 Z x)).bind fun dx Z1=>(RS.TX Z1 (qJ 6 Z1 y)).bind fun a P=>(RS.TX P (f dx a)).bind fun rv b=>qW b rv
theorem Hn (n:oi K r f) (s:Tz B K H Y Z) (m:VY (ow B Y Z) K H Y x a) (l:VY (ow B Y Z) K H Y y b) (w:WS K E B H Y Z (PQ B K Q) (re f a b Z)):r x y H Q:=by
 have e:WS K E B H Y Z (PQ B K Q) ((RS.TX Z (qJ 6 Z a)).bind fun dx Z1=>(RS.TX Z1 (qJ 6 Z1 b)).bind fun i P=>(RS.TX P (f dx i)).bind fun rv o=>qW o rv)->r x y H Q:=fun w=>by obtain⟨dx,g,w⟩:=w.TX;obtain⟨i,h,w⟩:=w.TX;obtain⟨rv,j,w⟩:=w.TX;exact n noO H x y dx i rv Q Jr (DV.x (mJ s 6 m g)) (DV.x (mJ s 6 l h)) j (Iz s w)
 unfold re at w;cases g:sh Z a with
 |none=>rw[g] at w;exact e w
 |some dx=>
  cases h:sh Z b with
  |none=>rw[g,h] at w;exact e w
  |some i=>rw[g,h] at w;obtain⟨rv,j,w⟩:=w.TX;exact n _ H x y dx i rv Q s.noO (Fo s m g) (Fo s l h) j (FM s w)
def lw (f:D->D->Option RV) (fa fb:ef):ef:=fun ρ Z=>(fa ρ Z).bind fun x Z1=>(fb ρ Z1).bind fun y P=>re f x y P
theorem iK (l:oi K r f) (ha:cW K E ta fa) (m:cW K E tb fb):cW K E (PH r ta tb) (lw f fa fb):=by intro B U H Y Z ρ Q s a w;refine ha B U H Y Z ρ _ s a (w.bind.imp fun x X Z1 T o h e v i=> ?_);refine m B U T X Z1 ρ _ h (a.Vm o) (e.bind.imp fun y J P H2 n g b u j=> ?_);exact Hn l g (i.Vm n) j b
def Kz:SV->Option Bool
 | .fz (.bool b)=>lD b
 |_=>Sw
theorem KF (e:Kz x=lD b) (h:VY O K H Y v x):v= .bl b:=by
 unfold Kz at e;split at e
 .cases e;cases h;rfl
 .cases e
def bN (fa:ef):uP:=fun ρ Z=>(fa ρ Z).bind fun x Z1=>RS.TX Z1 (Kz x)
theorem gJ (ha:cW K E ta fa):vv K E (C7 ta) (bN fa):=by
 intro B U H Y Z ρ Q s e w;refine ha B U H Y Z ρ _ s e (w.bind.imp fun x X Z1 T h f a v g=> ?_);cases q:Kz x with
 |none=>rw[q] at a;exact a.elim
 |some b=>rw[q] at a;exact⟨b,KF q g,WS.now f a⟩
theorem Mw (ha:cW K E ta fa):vv K E (tB ta) (bN fa):=gJ ha
def o0 (fa fb:uP):uP:=fun ρ Z=>(fa ρ Z).bind fun b Z1=>if b=Sz then fb ρ Z1 else .ok SN Z1
def Dr (fa fb:uP):uP:=fun ρ Z=>(fa ρ Z).bind fun b Z1=>if b=Sz then .ok Sz Z1 else fb ρ Z1
def yE (fa:uP):uP:=fun ρ Z=>(fa ρ Z).bind fun b Z1=> .ok (!b) Z1
theorem Kq (j:vv K E t f) (i:vv K E u g):vv K E (OY t u) (o0 f g):=by
 intro B U H Y Z ρ Q s e w;refine j B U H Y Z ρ _ s e (w.bind.imp fun b X Z1 T l h a=> ?_);cases b with
 |true=>exact i B U T X Z1 ρ Q h (e.Vm l) a
 |false=>exact WS.now h a
theorem F6 (j:vv K E t f) (i:vv K E u g):vv K E (RD t u) (Dr f g):=by
 intro B U H Y Z ρ Q s e w;refine j B U H Y Z ρ _ s e (w.bind.imp fun b X Z1 T l h a=> ?_);cases b with
 |true=>exact WS.now h a
 |false=>exact i B U T X Z1 ρ Q h (e.Vm l) a
theorem J9 (h:vv K E t f):vv K E (Nq t) (yE f):=by intro B U H Y Z ρ Q s e w;exact h B U H Y Z ρ _ s e (w.bind.imp fun b X Z1 T i g a=>WS.now g a)
def cK:uP:=fun _ Z=> .ok Sz Z
theorem fE:vv K E IL cK:=fun B U H Y Z ρ Q s a w=>WS.now s w
def A8 (fa fb:ef):ef:=fun ρ Z=>(bN fa ρ Z).bind fun b Z1=>if b=Sz then fb ρ Z1 else .ok (.fz (.bool SN)) Z1
theorem wC (ha:cW K E ta fa) (g:cW K E tb fb):cW K E (Gp ta tb) (A8 fa fb):=by
 intro B U H Y Z ρ Q s e w;refine gJ ha B U H Y Z ρ (fun c T=>if c=Sz then tb U T Q else Q (.bl SN) T) s e (w.bind.imp fun b X Z1 T h f a=> ?_);cases b with
 |true=>exact g B U T X Z1 ρ Q f (e.Vm h) a
 |false=>exact WS.now f a _ (.bl SN)
def Ph (c:uP) (fa fb:ef):ef:=fun ρ Z=>(c ρ Z).bind fun b Z1=>if b=Sz then fa ρ Z1 else fb ρ Z1
theorem Pz (h:vv K E t c) (ha:cW K E ta fa) (i:cW K E tb fb):cW K E (Rh t ta tb) (Ph c fa fb):=by
 intro B U H Y Z ρ Q s a w;refine h B U H Y Z ρ _ s a (w.bind.imp fun b X Z1 T g f e=> ?_);cases b with
 |true=>exact ha B U T X Z1 ρ Q f (a.Vm g) e
 |false=>exact i B U T X Z1 ρ Q f (a.Vm g) e
def aC:yV:=fun _ Z=> .ok [] Z
def aj (fa:ef) (a:yV):yV:=fun ρ Z=>(fa ρ Z).bind fun x Z1=>(a ρ Z1).bind fun xs P=> .ok (x::xs) P
theorem bf:w6 K E lY aC:=fun B U H Y Z ρ Q s a w=>WS.now s w [] .nil
theorem aB (ha:cW K E ta fa) (j:w6 K E tr fr):w6 K E (gP ta tr) (aj fa fr):=by intro B U H Y Z ρ Q s b w;refine ha B U H Y Z ρ _ s b (w.bind.imp fun x X Z1 T m h f v i=> ?_);refine j B U T X Z1 ρ _ h (b.Vm m) (f.bind.imp fun xs J P H2 l g e vs a=> ?_);exact WS.now g e (v::vs) (.cons (i.Vm l) a)
def Q1:SV->Option AV
 | .fz d=>lD (.fz d)
 | .rf i=>lD (.rf i)
 | .tp _=>Sw
def QX (xs:List SV):Option SV:=match aI ze xs with
 |some ds=>lD (.fz (.tuple ds))
 |none=>(aI Q1 xs).map .tp
def mP (fa:yV):ef:=fun ρ Z=>(fa ρ Z).bind fun xs Z1=>if xs.length<=1000 then RS.TX Z1 (QX xs) else .bad
theorem AH (r:VY O K H Y v x) (e:ze x=lD d):DV O K H v d:=by
 cases x with
 |fz d=>cases e;exact r
 |rf i=>cases e
 |tp l=>cases e
theorem O8 (r:VY O K H Y v x) (e:Q1 x=lD d):AOk O K H Y v d:=by
 cases x with
 |fz d=>cases e;exact r
 |rf i=>cases e;exact r
 |tp l=>cases e
theorem mF (ha:w6 K E ta fa):cW K E (Og ta) (mP fa):=by
 intro B U H Y Z ρ Q s m w;refine ha B U H Y Z ρ _ s m (w.bind.imp fun xs X Z1 T n f a vs g=> ?_);by_cases hn:xs.length<=1000
 .rw[if_pos hn] at a
  refine⟨by rw[g.length];exact AQ hn,fun p j=> ?_⟩;have b:UP T (bJ T p (.tup vs)):=cy j _;have e:UW X Z1 T X Z1 (bJ T p (.tup vs)):=UW.same b;have i:XA (ow B X Z1) K (bJ T p (.tup vs)) p vs:=⟨Xa.of aR,fun z=>absurd z (f.noO p j)⟩;unfold QX at a;cases q:aI ze xs with
  |some ds=>rw[q] at a;exact a X _ e (f.grow b) _ (.tup i (lX (dM (R:=VY (ow B X Z1) K T X) (fun v x y r h=>(AH r h).ev e.ev) g q)))
  |none=>
   rw[q] at a;dsimp only at a;cases q2:aI Q1 xs with
   |none=>rw[q2] at a;exact a.elim
   |some l=>rw[q2] at a;exact a X _ e (f.grow b) _ ⟨p,vs,rfl,i,dM (R:=VY (ow B X Z1) K T X) (fun v x y r h=>(O8 r h).ev e.ev e.pre) g q2⟩
 .rw[if_neg hn] at a;exact a.elim
def uD (f:List D->Option RV) (xs:List SV) (Z:bh):RS SV:=match aI (sh Z) xs with
 |some ds=>(RS.TX Z (f ds)).bind fun rv Z1=>nv Z1 rv
 |_=>(RS.TX Z (aI (qJ 6 Z) xs)).bind fun ds Z1=>(RS.TX Z1 (f ds)).bind fun rv a=>qW a rv
def jT (f:List D->Option RV) (fa:yV):ef:=fun ρ Z=>(fa ρ Z).bind fun xs Z1=>uD f xs Z1
theorem fy (i:G5 K r f) (ha:w6 K E ta fa):cW K E (GV r ta) (jT f fa):=by
 intro B U H Y Z ρ Q s j w;refine ha B U H Y Z ρ _ s j (w.bind.imp fun xs X Z1 T m b a vs h=> ?_);unfold uD at a;cases q1:aI (sh Z1) xs with
 |none=>rw[q1] at a;obtain⟨ds,l,a⟩:=a.TX;obtain⟨rv,g,a⟩:=a.TX;exact i noO T vs ds rv Q Jr (dM (R:=VY (ow B X Z1) K T X) (fun v x y r e=>DV.x (mJ b 6 r e)) h l) g (Iz b a)
 |some ds=>rw[q1] at a;obtain⟨rv,g,a⟩:=a.TX;exact i _ T vs ds rv Q b.noO (dM (R:=VY (ow B X Z1) K T X) (fun v x y r e=>Fo b r e) h q1) g (FM b a)
end
section
variable {B O O':cw} {K:Ld} {E:XK} {H H' M L:Hp} {Y J X U:List SI} {Z N Z1 T:bh} {S:L2.St} {ρ:bA} {v:V}
theorem AG:∀{vs:List V} {xs:List β} {i:Nat} {x:β},Paired R vs xs->xs[i]? =lD x->∃v,vs[i]? =lD v/\R v x
 |_,_,_,_,.nil,e=>by simp at e
 |_,_,0,_,.cons h _,e=>by simp at e;subst e;exact⟨_,rfl,h⟩
 |_,_,i+1,x,.cons _ t,e=>by obtain⟨v,b,a⟩:=AG t (by simpa using e);exact⟨v,by simpa using b,a⟩
theorem Ni {vs:List V} (h:Paired R vs xs) (e:mX xs i=lD x):∃v,mX vs i=lD v/\R v x:=by
 unfold mX at e⊢;rw[h.length];cases q:Jz xs.length i with
 |none=>rw[q] at e;cases e
 |some j=>rw[q] at e;exact AG h e
def FO:SV->Option Int
 | .fz (.int i)=>lD i
 |_=>Sw
theorem BN (e:FO x=lD i) (h:VY O K H Y v x):v= .int i:=by
 unfold FO at e;split at e
 .cases e;cases h;rfl
 .cases e
def Pj (x y:SV) (Z:bh):RS SV:=match x with
 | .fz _=>re bw x y Z
 | .rf j=>(match Z[j]? with
  |some (.lst xs)=>(RS.TX Z (FO y)).bind fun i Z1=>RS.TX Z1 (mX xs i)
  |_=> .bad)
 | .tp l=>(RS.TX Z (FO y)).bind fun i Z1=>RS.TX Z1 ((mX l i).map AV.sv)
def g6 (fa fb:ef):ef:=fun ρ Z=>(fa ρ Z).bind fun x Z1=>(fb ρ Z1).bind fun y T=>Pj x y T
theorem gY (ha:cW K E ta fa) (C:cW K E tb fb):cW K E (PH (Rb K) ta tb) (g6 fa fb):=by
 intro B S H Y Z ρ Q s r w;refine ha B S H Y Z ρ _ s r (w.bind.imp fun x X Z1 M G A t v e=> ?_);refine C B S M X Z1 ρ _ A (r.Vm G) (t.bind.imp fun y U T L F f b u n=> ?_);have e:=e.Vm F;unfold Pj at b;cases x with
 |fz d=>exact Hn cR f e n b
 |rf j=>
  obtain⟨a,ha,rfl⟩:=e;dsimp only at b;cases q:T[j]? with
  |none=>rw[q] at b;exact b.elim
  |some c=>
   rw[q] at b;cases c with
   |lst xs=>
    obtain⟨i,h,b⟩:=WS.TX b;cases qa:mX xs i with
    |none=>rw[qa] at b;exact b.elim
    |some x=>rw[qa] at b;obtain⟨vs,p,o⟩:=f.ZD j a _ ha q;obtain⟨z,m,g⟩:=Ni o qa;exact .inl ⟨a,vs,i,z,rfl,BN h n,Xp.of p,m,WS.now f b z g⟩
   |_=>exact b.elim
 |tp l=>
  obtain⟨a,xs,rfl,p,o⟩:=e;obtain⟨i,h,b⟩:=WS.TX b;cases qa:mX l i with
  |none=>rw[qa] at b;exact b.elim
  |some x=>rw[qa] at b;obtain⟨z,m,g⟩:=Ni o qa;exact .inr (.inl ⟨a,xs,i,z,rfl,BN h n,p.1,m,WS.now f b z (by cases x<;>exact g)⟩)
theorem L7 (h:Lv Y (Z.set i .dead) b):Lv Y Z b:=by
 obtain⟨j,c,f,a,e⟩:=h;rcases cB a with⟨rfl,rfl⟩|⟨_,a⟩
 .exact absurd rfl e
 .exact⟨j,c,f,a,e⟩
theorem UW.kill:UW Y Z H Y (Z.set i .dead) H:=⟨fun _ _ h=>h,fun _ _ h _=>h,fun _ h=> .inl (L7 h)⟩
theorem Tz.kill (s:Tz B K H Y Z) (i:Nat):Tz B K H Y (Z.set i .dead):=by
 have e:UW Y Z H Y (Z.set i .dead) H:=UW.kill;refine⟨by rw[Ug];exact s.len,s.nd,s.bn,s.ba,s.al,fun j b d f a=> ?_⟩;rcases cB a with⟨rfl,rfl⟩|⟨g,a⟩
 .exact trivial
 .exact(s.ZD j b d f a).ev e.ev e.pre fun u q=>q
theorem Tz.aed (s:Tz B K H Y Z) (ha:Y[i]? =lD a):¬ow B Y (Z.set i .dead) a:=by
 rintro(z|⟨j,c,f,e,b⟩)
 .exact s.acT ha z
 .have:=s.nd j i a f ha
  subst this;rcases cB e with⟨_,rfl⟩|⟨g,_⟩
  .exact b rfl
  .exact g rfl
def km (g:bh->SV->Option (D×bh)):bh->List SV->Option (List D×bh)
 |Z,[]=>lD ([],Z)
 |Z,x::r=>match g Z x with
  |some (d,Z1)=>(match km g Z1 r with
   |some (ds,T)=>lD (d::ds,T)
   |none=>Sw)
  |none=>Sw
def frz:Nat->bh->SV->Option (D×bh)
 |_,Z,.fz d=>lD (d,Z)
 |0,_,_=>Sw
 |n+1,Z,.rf i=>match Z[i]? with
  |some (.lst xs)=>(match km (frz n) Z xs with
   |some (ds,Z1)=>lD (.list ds,Z1.set i .dead)
   |none=>Sw)
  |_=>Sw
 |n+1,Z,.tp l=>match km (frz n) Z (l.map AV.sv) with
  |some (ds,Z1)=>lD (.tuple ds,Z1)
  |none=>Sw
theorem xl (a:∀{Z N:bh} {v:V} {x:SV} {d:D},Tz B K H Y Z->VY (ow B Y Z) K H Y v x->g Z x=lD (d,N)->Tz B K H Y N/\UW Y Z H Y N H/\L3.DV (ow B Y N) K H v d):
  ∀{vs:List V} {xs:List SV} {ds:List D} {Z N:bh},Tz B K H Y Z->Vy (ow B Y Z) K H Y vs xs->km g Z xs=lD (ds,N)->Tz B K H Y N/\UW Y Z H Y N H/\L3.US (ow B Y N) K H vs ds
 |_,_,_,Z,N,s,.nil,e=>by cases e;exact⟨s,.refl,.nil⟩
 |_,_,_,Z,N,s,.cons (b:=x) (l₂:=xs) r t,e=>by
  unfold km at e;cases q:g Z x with
  |none=>rw[q] at e;cases e
  |some p=>
   obtain⟨d,Z1⟩:=p;rw[q] at e;dsimp only at e;obtain⟨j,h,n⟩:=a s r q;cases q2:km g Z1 xs with
   |none=>rw[q2] at e;cases e
   |some l=>obtain⟨ds,T⟩:=l;rw[q2] at e;cases e;obtain⟨i,f,m⟩:=xl a j (Vy.Vm h t) q2;exact⟨i,h.trans f,.cons (n.ev f.ev) m⟩
theorem xV:∀{vs:List V} {l:List AV},Paired (AOk O K H Y) vs l->Vy O K H Y vs (l.map AV.sv)
 |_,_,.nil=> .nil
 |_,_,.cons (b:=x) h t=> .cons (by cases x<;>exact h) (xV t)
theorem xO:∀(n:Nat) {Z N:bh} {v:V} {x:SV} {d:D},Tz B K H Y Z->VY (ow B Y Z) K H Y v x->frz n Z x=lD (d,N)->Tz B K H Y N/\UW Y Z H Y N H/\L3.DV (ow B Y N) K H v d
 |n,Z,N,v,.fz d',d,s,h,e=>by
  have o:lD (d',Z)=lD (d,N):=by cases n<;>exact e
  cases o;exact⟨s,.refl,h⟩
 |0,_,_,v,.rf i,d,s,h,e=>by cases e
 |0,_,_,v,.tp l,d,s,h,e=>by cases e
 |n+1,Z,N,v,.rf i,d,s,h,e=>by
  obtain⟨a,ha,rfl⟩:=h;unfold frz at e;cases q:Z[i]? with
  |none=>rw[q] at e;cases e
  |some c=>
   rw[q] at e;cases c with
   |lst xs=>
    dsimp only at e;obtain⟨vs,j,g⟩:=s.ZD i a _ ha q;cases q2:km (frz n) Z xs with
    |none=>rw[q2] at e;cases e
    |some p=>obtain⟨ds,Z1⟩:=p;rw[q2] at e;cases e;obtain⟨b,f,m⟩:=xl (fun s h e=>xO n s h e) s g q2;exact⟨b.kill i,f.trans UW.kill,wZ j (b.aed ha) (m.ev (UW.kill).ev)⟩
   |_=>cases e
 |n+1,Z,N,v,.tp l,d,s,h,e=>by
  obtain⟨a,xs,rfl,j,g⟩:=h;unfold frz at e;cases q2:km (frz n) Z (l.map AV.sv) with
  |none=>rw[q2] at e;cases e
  |some p=>obtain⟨ds,Z1⟩:=p;rw[q2] at e;cases e;obtain⟨b,f,m⟩:=xl (fun s h e=>xO n s h e) s (xV g) q2;exact⟨b,f,.tup (j.ev f.ev) m⟩
def Ko (x:SV) (Z:bh):RS SV:=match frz 4 Z x with
 |some (d,Z1)=> .ok (.fz d) Z1
 |none=> .bad
def oW (f:ef):ef:=fun ρ Z=>(f ρ Z).bind fun x Z1=>Ko x Z1
theorem l9 (h:cW K E t f):cW K E t (oW f):=by
 intro B S H Y Z ρ Q s b w;refine h B S H Y Z ρ _ s b (w.bind.imp fun x X Z1 M m g a v i=> ?_);unfold Ko at a;cases q:frz 4 Z1 x with
 |none=>rw[q] at a;exact a.elim
 |some p=>obtain⟨d,T⟩:=p;rw[q] at a;obtain⟨e,j,l⟩:=xO 4 g i q;exact a X M j e v l
theorem XOk.sub (h:∀b,O' b->O b) (k:XOk K O H c dx x):XOk K O' H c dx x:=by obtain⟨i,fs,g,a⟩:=k;exact⟨i,fs,g,fun f d e=>let⟨g1,v,g2,g3⟩:=a f d e;⟨g1,v,g2,g3.ev (Ev.sub h)⟩⟩
def yo (F:FN) (n:Nat) (xs:List SV) (Z:bh):RS SV:=if xs.length=n then(match aI ze xs with
 |some ds=>(match F ds with
  | .ok rv=>nv Z rv
  | .er x=> .er x Z
  | .bad=> .bad)
 |none=>(RS.TX Z (aI (qJ 6 Z) xs)).bind fun ds Z1=>(match F ds with
  | .ok rv=>qW Z1 rv
  |_=> .bad)) else .bad
def g7:RS A->RS A
 | .er _ _=> .bad
 |r=>r
def jP (F:FN) (n:Nat) (fa:yV):ef:=fun ρ Z=>(fa ρ Z).bind fun xs Z1=>g7 (yo F n xs Z1)
theorem WS.e0 (h:WS K E B H Y Z P (g7 r)):WS K E0 B H Y Z P r:=by
 cases r with
 |ok a Z=>exact h
 |er x Z=>exact h.elim
 |bad=>exact h
theorem KP (s:Tz B K H Y Z) (b:Vy (ow B Y Z) K H Y vs xs) (w:WS K E B H Y Z (PQ B K Q) (yo F n xs Z)):qM K n F vs H Q E:=by
 unfold yo at w;by_cases hn:xs.length=n
 .rw[if_pos hn] at w
  refine⟨b.length.trans hn,?_⟩;cases q:aI ze xs with
  |some ds=>
   rw[q] at w;refine⟨ow B Y Z,ds,s.owd,lX (dM (R:=VY (ow B Y Z) K H Y) (fun v x y r e=>AH r e) b q),?_⟩;dsimp only at w;cases qF:F ds with
   |ok rv=>rw[qF] at w;exact FM s w
   |er x=>rw[qF] at w;exact fun c dx H' e k=>w c dx Y H' (UW.same e) (s.grow e) k
   |bad=>rw[qF] at w;exact w.elim
  |none=>
   rw[q] at w;obtain⟨ds,f,w⟩:=WS.TX w;refine⟨noO,ds,fun a z=>z.elim,lX (dM (R:=VY (ow B Y Z) K H Y) (fun v x y r e=>mJ s 6 r e) b f),?_⟩;cases qF:F ds with
   |ok rv=>rw[qF] at w;exact Iz s w
   |er x=>rw[qF] at w;exact w.elim
   |bad=>rw[qF] at w;exact w.elim
 .rw[if_neg hn] at w;exact w.elim
theorem BH (ha:w6 K E ta fa):cW K E (l6 (qM K n F) [] E0 ta) (jP F n fa):=by intro B S H Y Z ρ Q s b w;refine ha B S H Y Z ρ _ s b (w.bind.imp fun xs X Z1 M g e a vs f=> ?_);rw[Tr];exact KP e f (WS.e0 a)
abbrev ji:=List SV->bh->RS SV
def dw (K:Ld) (n:Nat) (F:ji):Sp:=fun vs H Q E=>vs.length=n/\∃(B:cw) (Y:List SI) (Z:bh) (xs:List SV),Tz B K H Y Z/\Vy (ow B Y Z) K H Y vs xs/\WS K E B H Y Z (PQ B K Q) (F xs Z)
def Ma (F:ji) (n:Nat) (fa:yV):ef:=fun ρ Z=>(fa ρ Z).bind fun xs Z1=>if xs.length=n then F xs Z1 else .bad
def nk (F:ji) (n:Nat) (fa:yV):ef:=fun ρ Z=>(fa ρ Z).bind fun xs Z1=>if xs.length=n then g7 (F xs Z1) else .bad
theorem Jh (ha:w6 K E ta fa):cW K E (l6 (dw K n F) [] E ta) (Ma F n fa):=by
 intro B S H Y Z ρ Q s e w;refine ha B S H Y Z ρ _ s e (w.bind.imp fun xs X Z1 M g f a vs b=> ?_);rw[Tr];by_cases hn:xs.length=n
 .rw[if_pos hn] at a;exact⟨b.length.trans hn,B,X,Z1,xs,f,b,a⟩
 .rw[if_neg hn] at a;exact a.elim
theorem qE (ha:w6 K E ta fa):cW K E (l6 (dw K n F) [] E0 ta) (nk F n fa):=by
 intro B S H Y Z ρ Q s e w;refine ha B S H Y Z ρ _ s e (w.bind.imp fun xs X Z1 M g f a vs b=> ?_);rw[Tr];by_cases hn:xs.length=n
 .rw[if_pos hn] at a;exact⟨b.length.trans hn,B,X,Z1,xs,f,b,WS.e0 a⟩
 .rw[if_neg hn] at a;exact a.elim
def na (Z:bh) (C m:Str):SV->Bool
 | .rf i=>match Z[i]? with
  |some (.obj D fs)=>decide (D=C)&&(fs.lookup m).isNone
  |_=>SN
 |_=>SN
def qH (C m:Str) (F:ji) (n:Nat) (fo:ef) (fa:yV):ef:=fun ρ Z=>(fo ρ Z).bind fun x Z1=>if na Z1 C m x=Sz then(fa ρ Z1).bind fun xs T=>(if(x::xs).length=n then F (x::xs) T else .bad) else .bad
def a8 (C m:Str) (F:ji) (n:Nat) (fo:ef) (fa:yV):ef:=fun ρ Z=>(fo ρ Z).bind fun x Z1=>if na Z1 C m x=Sz then(fa ρ Z1).bind fun xs T=>(if(x::xs).length=n then g7 (F (x::xs) T) else .bad) else .bad
theorem Jc (g:Ta K S4 C=lD (lD (.ref Ca))) (s:Tz B K H Y Z) (f:VY (ow B Y Z) K H Y v x) (h:na Z C m x=Sz):∃a dx fs,v= .ref a/\H a=lD (.ins Ca dx fs)/\fs.lookup m=Sw:=by
 cases x with
 |fz d=>cases h
 |tp l=>cases h
 |rf i=>
  obtain⟨a,ha,rfl⟩:=f;unfold na at h;dsimp only at h;cases q:Z[i]? with
  |none=>rw[q] at h;cases h
  |some c=>
   rw[q] at h;cases c with
   |obj D fs=>rw[Ts] at h;obtain⟨n,j⟩:=h;have e:=of_decide_eq_true n;subst e;obtain⟨r,dx,ws,b,p,o⟩:=s.ZD i a _ ha q;rw[g] at b;cases b;exact⟨a,dx,ws,rfl,p,vO o (Option.isNone_iff_eq_none.mp j)⟩
   |_=>cases h
theorem IA (q:Ta K S4 C=lD (lD (.ref Ca))) (p:cW K E to fo) (ha:w6 K E ta fa):cW K E (vY Ca m (dw K n F) [] E to ta) (qH C m F n fo fa):=by
 intro B S H Y Z ρ Q s g w;refine p B S H Y Z ρ _ s g (w.bind.imp fun x X Z1 M y i e v j=> ?_);by_cases h:na Z1 C m x=Sz
 .rw[if_pos h] at e
  obtain⟨a,dx,fs,rfl,t,r⟩:=Jc q i j h;refine⟨a,dx,fs,rfl,t,r,?_⟩;refine ha B S M X Z1 ρ _ i (g.Vm y) (e.bind.imp fun xs U T L u o b vs f=> ?_);rw[Tr];have l:Vy (ow B U T) K L U (.ref a::vs) (x::xs):= .cons (j.Vm u) f;by_cases hn:(x::xs).length=n
  .rw[if_pos hn] at b;exact⟨l.length.trans hn,B,U,T,_,o,l,b⟩
  .rw[if_neg hn] at b;exact b.elim
 .rw[if_neg h] at e;exact e.elim
theorem EB (q:Ta K S4 C=lD (lD (.ref Ca))) (p:cW K E to fo) (ha:w6 K E ta fa):cW K E (vY Ca m (dw K n F) [] E0 to ta) (a8 C m F n fo fa):=by
 intro B S H Y Z ρ Q s g w;refine p B S H Y Z ρ _ s g (w.bind.imp fun x X Z1 M y i e v j=> ?_);by_cases h:na Z1 C m x=Sz
 .rw[if_pos h] at e
  obtain⟨a,dx,fs,rfl,t,r⟩:=Jc q i j h;refine⟨a,dx,fs,rfl,t,r,?_⟩;refine ha B S M X Z1 ρ _ i (g.Vm y) (e.bind.imp fun xs U T L u o b vs f=> ?_);rw[Tr];have l:Vy (ow B U T) K L U (.ref a::vs) (x::xs):= .cons (j.Vm u) f;by_cases hn:(x::xs).length=n
  .rw[if_pos hn] at b;exact⟨l.length.trans hn,B,U,T,_,o,l,WS.e0 b⟩
  .rw[if_neg hn] at b;exact b.elim
 .rw[if_neg h] at e;exact e.elim
def EF:SV->Bool
 | .fz .none=>Sz
 |_=>SN
def uW (C:Str) (F:ji) (n:Nat) (xs:List SV) (Z:bh):RS SV:=if(SV.rf Z.length::xs).length=n then(F (.rf Z.length::xs) (Z++[.obj C []])).bind fun r T=>(if EF r=Sz then .ok (.rf Z.length) T else .bad) else .bad
def Ez (C:Str) (F:ji) (n:Nat) (fa:yV):ef:=fun ρ Z=>(fa ρ Z).bind fun xs Z1=>uW C F n xs Z1
def vP (C:Str) (F:ji) (n:Nat) (fa:yV):ef:=fun ρ Z=>(fa ρ Z).bind fun xs Z1=>g7 (uW C F n xs Z1)
theorem KI (h:EF x=Sz) (a:VY O K H Y v x):v= .Vh:=by
 unfold EF at h;split at h
 .cases a;rfl
 .cases h
theorem Fu (p:Ta K S4 C=lD (lD (.ref Ca))) (s:Tz B K H Y Z) (o:Vy (ow B Y Z) K H Y vs xs) (w:WS K E B H Y Z (PQ B K Q) (uW C F n xs Z)):
  ∀x dx,H x=Sw->H dx=Sw->dx≠x->dw K n F (.ref x::(vs++[])) (bJ (bJ H dx (.own x)) x (.ins Ca dx [])) (fun v L=>v= .Vh/\Q (.ref x) L) E:=by
 intro x dx f h t;rw[Tr];unfold uW at w;have i:UP H (bJ (bJ H dx (.own x)) x (.ins Ca dx [])):=(cy h _).trans (cy (by rw[aD (fun z=>t z.symm)];exact f) _);have e:UW Y Z H (Y++[x]) (Z++[.obj C []]) (bJ (bJ H dx (.own x)) x (.ins Ca dx [])):=UW.aan s.len i f;have m:Tz B K (bJ (bJ H dx (.own x)) x (.ins Ca dx [])) (Y++[x]) (Z++[.obj C []]):=s.aan i f (by rw[aR];simp) ⟨Ca,dx,[],p,aR,.nil⟩;have a:∀{J:List SI} {N:bh} {H':Hp},UW (Y++[x]) (Z++[.obj C []]) (bJ (bJ H dx (.own x)) x (.ins Ca dx [])) J N H'->VY (ow B J N) K H' J (.ref x) (.rf Z.length):=fun e=>⟨x,e.pre _ _ (by rw[<-s.len];exact aW),rfl⟩;by_cases hn:(SV.rf Z.length::xs).length=n
 .rw[if_pos hn] at w
  have j:Vy (ow B (Y++[x]) (Z++[.obj C []])) K (bJ (bJ H dx (.own x)) x (.ins Ca dx [])) (Y++[x]) (.ref x::vs) (.rf Z.length::xs):= .cons (a .refl) (Vy.Vm e o);refine⟨j.length.trans hn,B,_,_,_,m,j,?_⟩;refine WS.imp (WS.from e w.bind) fun r U T L q l b v g=> ?_;by_cases z:EF r=Sz
  .rw[if_pos z] at b;exact⟨KI z g,WS.now l b _ (a q)⟩
  .rw[if_neg z] at b;exact b.elim
 .rw[if_neg hn] at w;exact w.elim
theorem KK (g:Ta K S4 C=lD (lD (.ref Ca))) (ha:w6 K E ta fa):cW K E (zv Ca (dw K n F) [] E ta) (Ez C F n fa):=by intro B S H Y Z ρ Q s b w;refine ha B S H Y Z ρ _ s b (w.bind.imp fun xs X Z1 M h e a vs f=> ?_);exact Fu g e f a
theorem GI (g:Ta K S4 C=lD (lD (.ref Ca))) (ha:w6 K E ta fa):cW K E (zv Ca (dw K n F) [] E0 ta) (vP C F n fa):=by intro B S H Y Z ρ Q s b w;refine ha B S H Y Z ρ _ s b (w.bind.imp fun xs X Z1 M h e a vs f=> ?_);exact Fu g e f (WS.e0 a)
def i9 (Z:bh):SV->Option (Nat×List SV)
 | .rf i=>match Z[i]? with
  |some (.lst xs)=>lD (i,xs)
  |_=>Sw
 |_=>Sw
theorem C3 (s:Tz B K H Y Z) (b:VY (ow B Y Z) K H Y v x) (h:i9 Z x=lD (i,xs)):Z[i]? =lD (.lst xs)/\∃a vs,Y[i]? =lD a/\v= .ref a/\H a=lD (.lst vs)/\Vy (ow B Y Z) K H Y vs xs:=by
 cases x with
 |fz d=>cases h
 |tp l=>cases h
 |rf j=>
  obtain⟨a,ha,rfl⟩:=b;unfold i9 at h;dsimp only at h;cases q:Z[j]? with
  |none=>rw[q] at h;cases h
  |some c=>
   rw[q] at h;cases c with
   |lst m=>have e:=S7 h;cases e;obtain⟨vs,g,f⟩:=s.ZD i a _ ha q;exact⟨q,a,vs,ha,rfl,g,f⟩
   |_=>cases h
theorem BU (h:Paired R vs xs) (r:R v x):Paired R (vs++[v]) (xs++[x]):=by
 induction h with
 |nil=>exact .cons r .nil
 |cons a _ b=>exact .cons a b
def kJ (fo fe:ef):ef:=fun ρ Z=>(fo ρ Z).bind fun o Z1=>(RS.TX Z1 (i9 Z1 o)).bind fun _ Z1=>(fe ρ Z1).bind fun x T=>(RS.TX T (i9 T o)).bind fun p a=>
 if p.2.length<1000000 then .ok (.fz .none) (a.set p.1 (.lst (p.2++[x]))) else .bad
theorem o9 (F:cW K E to fo) (G:cW K E te fe):cW K E (Q0 K "list" wQ to (gP te lY)) (kJ fo fe):=by
 intro B S H Y Z ρ Q s j w;refine F B S H Y Z ρ _ s j (w.bind.imp fun o X Z1 M e1 m e v n=> ?_);obtain⟨⟨i0,y⟩,A,e⟩:=WS.TX e;obtain⟨_,t,f,_,rfl,P,_⟩:=C3 m n A;refine⟨.inl ⟨rfl,f,Xp.of P⟩,?_⟩;refine G B S M X Z1 ρ _ m (j.Vm e1) (e.bind.imp fun x U T L e2 l b u C=> ?_);obtain⟨⟨i,xs⟩,q,b⟩:=WS.TX b;obtain⟨g,a,vs,ha,R,I,p⟩:=C3 l (n.Vm e2) q;cases R;dsimp only at b;by_cases hn:xs.length<1000000
 .rw[if_pos hn] at b;have ev:Ev (ow B U T) L (ow B U T) (bJ L t (.lst (vs++[u]))):=pX ha g (by intro z;cases z);refine⟨t,vs,u,rfl,rfl,I,ut (by rw[p.length];exact hn),?_⟩;exact b U _ (UW.put ha g (by intro z;cases z) (by intro z;cases z)) (l.put ha g (by intro z;cases z) (by intro z;cases z) ⟨_,aR,BU (Paired.W0 p fun _ _ r=>r.ev ev fun _ _ h=>h) (C.ev ev fun _ _ h=>h)⟩) _ .Vh
 .rw[if_neg hn] at b;exact b.elim
end
inductive FlS where
 |nx (ρ:bA)
 |bk (ρ:bA)
 |ct (ρ:bA)
 |rt (x:SV)
abbrev fC:=bA->bh->RS FlS
abbrev AJ:=SV->bA->bh->RS bA
abbrev HM:=List SV->bA->bh->RS bA
def zd (B:cw) (K:Ld) (D:Ends):FlS->List SI->bh->Hp->Prop
 | .nx ρ,α,Z,H=>∀σ,VO (ow B α Z) K H α σ ρ->D.nx σ H
 | .bk ρ,α,Z,H=>∀σ,VO (ow B α Z) K H α σ ρ->D.bk σ H
 | .ct ρ,α,Z,H=>∀σ,VO (ow B α Z) K H α σ ρ->D.ct σ H
 | .rt x,α,Z,H=>∀v,VY (ow B α Z) K H α v x->D.rt v H
def pw (K:Ld) (E:XK) (t:TS) (g:fC):Prop:=
 ∀(B:cw) (a:L2.St) (H:Hp) (α:List SI) (Z:bh) (ρ:bA) (D:Ends),Tz B K H α Z->VO (ow B α Z) K H α a ρ->WS K E B H α Z (zd B K D) (g ρ Z)->t D a H
def JC (K:Ld) (E:XK) (g:TG) (f:AJ):Prop:=
 ∀(B:cw) (e:L2.St) (H:Hp) (α:List SI) (Z:bh) (ρ:bA) (v:V) (x:SV) (Q:L2.St->Hp->Prop),Tz B K H α Z->VO (ow B α Z) K H α e ρ->VY (ow B α Z) K H α v x->WS K E B H α Z (fun b a i h=>∀σ',VO (ow B a i) K h a σ' b->Q σ' h) (f x ρ Z)->g v e H Q
def Ll (K:Ld) (E:XK) (g:Oc) (f:HM):Prop:=
 ∀(B:cw) (e:L2.St) (H:Hp) (α:List SI) (Z:bh) (ρ:bA) (vs:List V) (xs:List SV) (Q:L2.St->Hp->Prop),Tz B K H α Z->VO (ow B α Z) K H α e ρ->Vy (ow B α Z) K H α vs xs->WS K E B H α Z (fun b a i h=>∀σ',VO (ow B a i) K h a σ' b->Q σ' h) (f xs ρ Z)->g vs e H Q
section
variable {B O O':cw} {K:Ld} {E:XK} {H H' P N:Hp} {U M T Y:List SI} {Z Z' Z1 X:bh} {S:L2.St} {ρ:bA} {v:V}
theorem VO.set (a:VO O K H U S ρ) (h:VY O K H U v x):VO O K H U (S.set i (lD v)) (ρ.set i (lD x)):=by
 refine⟨by rw[Ug,Ug];exact a.1,fun j y f=> ?_⟩;rcases cB f with⟨rfl,e⟩|⟨m,b⟩
 .cases e;refine⟨v,?_,h⟩;rw[T6];have:=xF f;rw[a.1];exact this
 .obtain⟨u,l,g⟩:=a.2 j y b;exact⟨u,by rw[TY (fun z=>m z.symm)];exact l,g⟩
def dY (i:Nat):AJ:=fun x ρ Z=> .ok (ρ.set i (lD x)) Z
theorem bt:JC K E (vM i) (dY i):=fun B S H U Z ρ v x Q s a h w=>WS.now s w _ (a.set h)
def El:HM:=fun xs ρ Z=>match xs with
 |[]=> .ok ρ Z
 |_=> .bad
def tT (f:AJ) (g:HM):HM:=fun xs ρ Z=>match xs with
 |x::r=>(f x ρ Z).bind fun a Z1=>g r a Z1
 |[]=> .bad
theorem BK:Ll K E NK El:=by
 intro B S H U Z ρ vs xs Q s a h w;cases h with
 |nil=>exact⟨rfl,WS.now s w _ a⟩
 |cons _ _=>exact w.elim
theorem tR (p:JC K E t f) (o:Ll K E u g):Ll K E (Fd t u) (tT f g):=by
 intro B S H U Z ρ vs xs Q s m h w;cases h with
 |nil=>exact w.elim
 |cons a b=>refine⟨_,_,rfl,p B S H U Z ρ _ _ _ s m a (WS.imp (WS.bind w) fun i T Z1 P q n l e j=> ?_)⟩;exact o B e P T Z1 i _ _ _ n j (Vy.Vm q b) l
def Fk:SV->Option (List SV)
 | .fz (.tuple ds)=>lD (ds.map .fz)
 | .tp l=>lD (l.map AV.sv)
 |_=>Sw
theorem NS (h:VY O K H U v x) (e:Fk x=lD xs):∃a vs,v= .ref a/\XA O K H a vs/\Vy O K H U vs xs:=by
 unfold Fk at e;split at e
 .cases e
  cases h with
  |tup h f=>exact⟨_,_,rfl,h,lK _ _ f⟩
 .cases e;obtain⟨a,b,rfl,i,g⟩:=h;exact⟨a,b,rfl,i,xV g⟩
 .cases e
def PU (n:Nat) (f:HM):AJ:=fun x ρ Z=>(RS.TX Z (Fk x)).bind fun xs Z1=>if xs.length=n then f xs ρ Z1 else .bad
theorem Dc (h:Ll K E t f):JC K E (OZ K n t) (PU n f):=by
 intro B S H U Z ρ v x Q s e g w;obtain⟨xs,q,w⟩:=WS.TX w;obtain⟨a,vs,rfl,i,b⟩:=NS g q;by_cases hn:xs.length=n
 .rw[if_pos hn] at w;exact⟨a,vs,rfl,i.1,b.length.trans hn,h B S H U Z ρ vs xs Q s e b w⟩
 .rw[if_neg hn] at w;exact w.elim
def dA:fC:=fun ρ Z=> .ok (.nx ρ) Z
def aO (f g:fC):fC:=fun ρ Z=>(f ρ Z).bind fun a Z1=>match a with
 | .nx ρ1=>g ρ1 Z1
 |a=> .ok a Z1
def bU (f:ef):fC:=fun ρ Z=>(f ρ Z).bind fun _ Z1=> .ok (.nx ρ) Z1
def cY (f:ef) (g:AJ):fC:=fun ρ Z=>(f ρ Z).bind fun x Z1=>(g x ρ Z1).bind fun a X=> .ok (.nx a) X
def cM (c:uP) (f g:fC):fC:=fun ρ Z=>(c ρ Z).bind fun b Z1=>if b=Sz then f ρ Z1 else g ρ Z1
def gL (f:ef):fC:=fun ρ Z=>(f ρ Z).bind fun x Z1=> .ok (.rt x) Z1
def vH:fC:=fun _ Z=> .ok (.rt (.fz .none)) Z
theorem pk:pw K E Ie dA:=fun B S H U Z ρ D s a w=>WS.now s w S a
theorem FC:pw K E MZ vH:=fun B S H U Z ρ D s a w=>WS.now s w .Vh .Vh
theorem aU (m:pw K E t f) (l:pw K E u g):pw K E (Kt t u) (aO f g):=by
 intro B S H U Z ρ D s j w;refine m B S H U Z ρ {D with nx:=u D} s j (WS.imp (WS.bind w) fun n T Z1 P o e b=> ?_);cases n with
 |nx a=>exact fun h i=>l B h P T Z1 a D e i b
 |rt x=>exact WS.now (E:=E) e b
 |bk a=>exact WS.now (E:=E) e b
 |ct a=>exact WS.now (E:=E) e b
theorem iO (h:cW K E t f):pw K E (B7 t) (bU f):=by intro B S H U Z ρ D s a w;exact h B S H U Z ρ _ s a (WS.imp (WS.bind w) fun x T Z1 P g e b v i=>WS.now e b S (a.Vm g))
theorem cU (h:cW K E t f) (p:JC K E g fg):pw K E (IE t g) (cY f fg):=by intro B S H U Z ρ D s e w;refine h B S H U Z ρ _ s e (WS.imp (WS.bind w) fun x T Z1 P q n l v o=> ?_);exact p B S P T Z1 ρ v x _ n (e.Vm q) o (WS.imp (WS.bind l) fun i Y X N r m j a b=>WS.now m j a b)
theorem wx (j:vv K E c fc) (m:pw K E t f) (l:pw K E u g):pw K E (OL c t u) (cM fc f g):=by
 intro B S H U Z ρ D s a w;refine j B S H U Z ρ _ s a (WS.imp (WS.bind w) fun b T Z1 P i h e=> ?_);cases b with
 |true=>exact m B S P T Z1 ρ D h (a.Vm i) e
 |false=>exact l B S P T Z1 ρ D h (a.Vm i) e
theorem gm (h:cW K E t f):pw K E (Ou t) (gL f):=by intro B S H U Z ρ D s b w;exact h B S H U Z ρ _ s b (WS.imp (WS.bind w) fun x T Z1 P i e a v g=>WS.now e a v g)
def eF (f:Str) (x:SV):List (Str×SV)->List (Str×SV)
 |[]=>[(f,x)]
 |(g,y)::r=>if g=f then(g,x)::r else(g,y)::eF f x r
theorem He (h:VY O K H U v x):∀{ws:List (Str×V)} {fs:List (Str×SV)},Paired (fun(p:Str×V) (q:Str×SV)=>p.1=q.1/\VY O K H U p.2 q.2) ws fs->Paired (fun(p:Str×V) (q:Str×SV)=>p.1=q.1/\VY O K H U p.2 q.2) (jz f v ws) (eF f x fs)
 |_,_,.nil=> .cons ⟨rfl,h⟩ .nil
 |(g,u)::ws,(g',y)::fs,.cons ⟨e,k⟩ t=>by
  cases e;unfold jz eF;by_cases z:g=f
  .rw[if_pos z,if_pos z];exact .cons ⟨rfl,h⟩ t
  .rw[if_neg z,if_neg z];exact .cons ⟨rfl,k⟩ (He h t)
def Hb (Z:bh) (C:Str):SV->Option (Nat×List (Str×SV))
 | .rf i=>match Z[i]? with
  |some (.obj D fs)=>if D=C then lD (i,fs) else Sw
  |_=>Sw
 |_=>Sw
theorem QC (s:Tz B K H U Z) (b:VY (ow B U Z) K H U v x) (h:Hb Z C x=lD (i,fs)):Z[i]? =lD (.obj C fs)/\∃a Ca dx ws,U[i]? =lD a/\v= .ref a/\Ta K S4 C=lD (lD (.ref Ca))/\H a=lD (.ins Ca dx ws)/\Paired (fun(p:Str×V) (q:Str×SV)=>p.1=q.1/\VY (ow B U Z) K H U p.2 q.2) ws fs:=by
 cases x with
 |fz d=>cases h
 |tp l=>cases h
 |rf j=>
  obtain⟨a,ha,rfl⟩:=b;unfold Hb at h;dsimp only at h;cases q:Z[j]? with
  |none=>rw[q] at h;cases h
  |some c=>
   rw[q] at h;cases c with
   |obj D n=>
    dsimp only at h;by_cases z:D=C
    .subst z;rw[if_pos rfl] at h;have e:=S7 h;cases e;obtain⟨Ca,dx,ws,m,g,f⟩:=s.ZD i a _ ha q;exact⟨q,a,Ca,dx,ws,ha,rfl,m,g,f⟩
    .rw[if_neg z] at h;cases h
   |_=>cases h
def eS (C f:Str) (fo fe:ef):fC:=fun ρ Z=>(fe ρ Z).bind fun x Z1=>(fo ρ Z1).bind fun o X=>(RS.TX X (Hb X C o)).bind fun p a=>if p.2.length<100 then .ok (.nx ρ) (a.set p.1 (.obj C (eF f x p.2))) else .bad
theorem iw (hc:gr K C L) (R:f∈L) (Q:cW K E to fo) (he:cW K E te fe):pw K E (Pk K to te f) (eS C f fo fe):=by
 intro B S H U Z ρ D s g w;refine he B S H U Z ρ _ s g (WS.imp (WS.bind w) fun x T Z1 P A G F v I=> ?_);refine Q B S P T Z1 ρ _ G (g.Vm A) (WS.imp (WS.bind F) fun o Y X N y l b u J=> ?_);obtain⟨⟨i,fs⟩,q,b⟩:=WS.TX b;obtain⟨j,a,e,dx,ws,ha,rfl,n,h1,m⟩:=QC l J q;obtain⟨Cb,p,g1,g2⟩:=hc;rw[n] at p;cases p;dsimp only at b;by_cases hn:fs.length<100
 .rw[if_pos hn] at b;have ev:Ev (ow B Y X) N (ow B Y X) (bJ N a (.ins e dx (jz f v ws))):=pX ha j (by intro z;cases z);have t:UW Y X N Y (X.set i (.obj C (eF f x fs))) (bJ N a (.ins e dx (jz f v ws))):=UW.put ha j (by intro z;cases z) (by intro z;cases z);have hl:=Paired.length m;refine⟨a,e,dx,ws,rfl,h1,g1,g2 f R,by omega,?_⟩;refine b Y _ t (l.put ha j (by intro z;cases z) (by intro z;cases z) ⟨e,dx,_,n,aR,He ((I.Vm y).ev ev fun _ _ h=>h) (Paired.W0 m fun _ _ r=>⟨r.1,r.2.ev ev fun _ _ h=>h⟩)⟩) S ((g.Vm (A.trans y)).Vm t)
 .rw[if_neg hn] at b;exact b.elim
abbrev KW:=bA->bh->RS (List D)
def PY (K:Ld) (E:XK) (b:TI) (e:KW):Prop:=
 ∀(B:cw) (S:L2.St) (H:Hp) (U:List SI) (Z:bh) (ρ:bA) (a:It->Hp->Prop),Tz B K H U Z->VO (ow B U Z) K H U S ρ->WS K E B H U Z (fun ds M Z' H'=>∀J,Ah K J (ow B M Z') H' ds->a J H') (e ρ Z)->b S H a
def fM (f:FI):KW:=fun ρ Z=>match f (bQ ρ) with
 | .ok (ds,_)=> .ok ds Z
 | .er x=> .er x Z
 | .bad=> .bad
theorem kZ (h:IO K E wi f):PY K E wi (fM f):=by
 intro B S H U Z ρ l s g w;refine h (ow B U Z) H (ow B U Z) S H (bQ ρ) l (Fs s g) ?_;unfold fM at w;cases q:f (bQ ρ) with
 |bad=>rw[q] at w;exact w.elim
 |er x=>rw[q] at w;exact fun c dx H' e k=>w c dx U H' (UW.same e) (s.grow e) k
 |ok r=>obtain⟨ds,a⟩:=r;rw[q] at w;exact fun O' J H' e R i=>w U H' (UW.same R.same) (s.grow R.same) J fun m N j n=>i m N (fun b o h z=>j b o h fun y=>z (R.bo b y)) n
def fQ (fe:ef):KW:=fun ρ Z=>(fe ρ Z).bind fun x Z1=>(match frz 4 Z1 x with
 |some (d,X)=>RS.TX X (fP d)
 |none=> .bad)
theorem md (h:cW K E tl fe):PY K E (FU K tl) (fQ fe):=by
 intro B S H U Z ρ n s g w;refine h B S H U Z ρ _ s g (WS.imp (WS.bind w) fun x T Z1 P m i a v j=> ?_);cases q:frz 4 Z1 x with
 |none=>rw[q] at a;exact a.elim
 |some p=>
  obtain⟨d,X⟩:=p;rw[q] at a;obtain⟨e,f,l⟩:=xO 4 i j q;dsimp only at a;cases qs:fP d with
  |none=>rw[qs] at a;exact a.elim
  |some ds=>
   rw[qs] at a;cases l with
   |tup h b=>cases qs;exact⟨_,rfl,.inr ⟨⟨_,h.1⟩,a T P f e _ (HB h b)⟩⟩
   |lst h b=>cases qs;exact⟨_,rfl,.inl ⟨⟨_,h.1.sq⟩,a T P f e _ (Cp h b)⟩⟩
   |_=>cases qs
def lA (gt:AJ) (b:fC):List D->fC
 |[],ρ,Z=> .ok (.nx ρ) Z
 |d::r,ρ,Z=>(gt (.fz d) ρ Z).bind fun a Z1=>(b a Z1).bind fun e X=>match e with
  | .nx ρ2=>lA gt b r ρ2 X
  | .ct ρ2=>lA gt b r ρ2 X
  | .bk ρ2=> .ok (.nx ρ2) X
  | .rt x=> .ok (.rt x) X
def zA (a:KW) (gt:AJ) (b:fC):fC:=fun ρ Z=>(a ρ Z).bind fun ds Z1=>lA gt b ds ρ Z1
theorem Kw (hi:PY K E wi fi) (hg:JC K E g gt) (hb:pw K E tb b):pw K E (OA wi g tb) (zA fi gt b):=by
 intro B S H U Z ρ D s L w;refine hi B S H U Z ρ _ s L (WS.imp (WS.bind w) fun ds T Z1 P e1 s1 w1 J it=> ?_);refine⟨fun i m a H'=>m=ds.length - i/\i<=ds.length/\∃Y X ρ2,UW T Z1 P Y X H'/\Tz B K H' Y X/\VO (ow B Y X) K H' Y a ρ2/\WS K E B H' Y X (zd B K D) (lA gt b (ds.drop i) ρ2 X),⟨_,rfl,T5 _,T,Z1,ρ,.refl,s1,L.Vm e1,w1⟩,?_⟩;rintro i m j N ⟨rfl,hi,Y,X,ρ2,e2,s2,sl2,w2⟩;obtain⟨go,n⟩:=it (ow B Y X) N e2.ev s2.noO;by_cases t:i<ds.length
 .obtain⟨g1,g2⟩:=go i t
  refine .inr ⟨g1,fun a H'=>i+1<=ds.length/\∃Y X ρ2,UW T Z1 P Y X H'/\Tz B K H' Y X/\VO (ow B Y X) K H' Y a ρ2/\WS K E B H' Y X (zd B K D) (lA gt b (ds.drop (i+1)) ρ2 X),fun a H' ⟨h1,h2⟩=>⟨ds.length - (i+1),by omega,rfl,h1,h2⟩,fun x I y=> ?_⟩;obtain⟨Q,d,hd,dv⟩:=g2 x I y;have ed:ds.drop i=d::ds.drop (i+1):=by obtain⟨_,q⟩:=SD.mp hd;rw[VD t,q]
  rw[ed] at w2;have G:UW Y X N Y X I:=UW.same Q;refine hg B j I Y X ρ2 x (.fz d) _ (s2.grow Q) (sl2.Vm G) dv (WS.imp (WS.bind (WS.from G w2)) fun A C Z4 H4 e4 s4 w3 z F=> ?_);refine hb B z H4 C Z4 A _ s4 F (WS.imp (WS.bind w3) fun fl l R H5 e5 r p=> ?_);have o:=e2.trans (G.trans (e4.trans e5));cases fl with
  |nx f=>exact fun u h=>⟨t,l,R,f,o,r,h,p⟩
  |ct f=>exact fun u h=>⟨t,l,R,f,o,r,h,p⟩
  |bk f=>exact WS.now (E:=E) r p
  |rt x=>exact WS.now (E:=E) r p
 .have e:i=ds.length:=by omega
  subst e;rw[V1 (SU _)] at w2;exact .inl ⟨n,WS.now s2 w2 j sl2⟩
def uM (c:uP) (b:fC):Nat->fC
 |0,_,_=> .bad
 |n+1,ρ,Z=>(c ρ Z).bind fun k Z1=>if k=Sz then(b ρ Z1).bind fun a X=>match a with
  | .nx ρ2=>uM c b n ρ2 X
  | .ct ρ2=>uM c b n ρ2 X
  | .bk ρ2=> .ok (.nx ρ2) X
  | .rt x=> .ok (.rt x) X else .ok (.nx ρ) Z1
def qu (c:uP) (b:fC):fC:=uM c b 1000000
theorem qA (G:vv K E c fc) (I:pw K E tb b):pw K E (Gq c tb) (qu fc b):=by
 intro B S H U Z ρ D s C w;refine⟨fun m e H'=>∃Y X a,UW U Z H Y X H'/\Tz B K H' Y X/\VO (ow B Y X) K H' Y e a/\WS K E B H' Y X (zd B K D) (uM fc b m a X),⟨_,U,Z,ρ,.refl,s,C,w⟩,?_⟩;rintro m g N ⟨Y,X,a,Q,F,i,y⟩;cases m with
 |zero=>exact y.elim
 |succ m=>
  refine G B g N Y X a _ F i (WS.imp (WS.bind y) fun k t R H3 u z o=> ?_);cases k with
  |true=>
   rw[if_pos rfl] at o⊢;refine⟨fun e H'=>∃Y X a,UW U Z H Y X H'/\Tz B K H' Y X/\VO (ow B Y X) K H' Y e a/\WS K E B H' Y X (zd B K D) (uM fc b m a X),fun e H' q=>⟨m,Wj m,q⟩,?_⟩;refine I B g H3 t R a _ z (i.Vm u) (WS.imp (WS.bind o) fun J j A H5 L p n=> ?_);have l:=Q.trans (u.trans L);cases J with
   |nx f=>exact fun r h=>⟨j,A,f,l,p,h,n⟩
   |ct f=>exact fun r h=>⟨j,A,f,l,p,h,n⟩
   |bk f=>exact WS.now (E:=E) p n
   |rt x=>exact WS.now (E:=E) p n
  |false=>rw[if_neg S9] at o⊢;exact WS.now z o g (i.Vm u)
end
section
variable {B O O':cw} {K:Ld} {E:XK} {H H' S L:Hp} {U R X Y:List SI} {Z Z' Z1 T:bh} {M:L2.St} {ρ:bA} {v:V}
def ck (gt:AJ) (ft:uP) (fe:ef):List D->bA->bh->List SV->RS (List SV)
 |[],_,Z,acc=> .ok acc Z
 |d::r,ρ,Z,acc=>(gt (.fz d) ρ Z).bind fun a Z1=>(ft a Z1).bind fun b T=>if b=Sz then(fe a T).bind fun x e=>(if acc.length<1000000 then ck gt ft fe r a e (acc++[x]) else .bad) else ck gt ft fe r a T acc
def e9 (n:Nat) (fj:List Nat) (ρ:bA):bA:=SS n Sw++fj.map fun j=>(ρ[j]?).join
def eU (n:Nat) (fj:List Nat) (a:KW) (gt:AJ) (ft:uP) (fe:ef):ef:=fun ρ Z=>(a ρ Z).bind fun ds Z1=>(g7 (ck gt ft fe ds (e9 n fj ρ) Z1 [])).bind fun xs T=> .ok (.rf T.length) (T++[.lst xs])
theorem Kx {own:List Str} {e:List (Str×Nat)} {n:Nat} {fj:List Nat} (hn:own.length=n) (h:e.map (·.2)=fj) (i:VO O K H U M ρ):VO O K H U (jy own e M) (e9 n fj ρ):=by
 unfold jy e9;rw[Cm hn];have l:e.length=fj.length:=by rw[<-h,Sy]
 refine⟨by rw[SH,SH,TB,TB,Sy,Sy,l],fun j x b=> ?_⟩;by_cases g:j<n
 .rw[S1 (by rw[TB];exact g),Vb,if_pos g] at b;cases b
 .rw[TC (by rw[TB];omega),TB,SX] at b⊢
  subst h;rw[SX] at b;cases q:e[j - n]? with
  |none=>rw[q] at b;cases b
  |some p=>
   rw[q] at b;have a:(ρ[p.2]?).join=lD x:=S7 b;have f:ρ[p.2]? =lD (lD x):=by
    cases qq:ρ[p.2]? with
    |none=>rw[qq] at a;cases a
    |some o=>rw[qq] at a;exact congrArg lD a
   obtain⟨u,r,m⟩:=i.2 p.2 x f;exact⟨u,by show lD ((M[p.2]?).join)=_;rw[r];rfl,m⟩
theorem IG {p:SI} {c:Cell} (a:U.length=Z.length) (e:c≠ .dead):ow (de B p) U Z=ow B (U++[p]) (Z++[c]):=by
 funext b;refine propext ⟨fun z=> ?_,fun z=> ?_⟩
 .rcases z with(z|z)|⟨i,d,h1,h2,h3⟩
  .exact .inl z
  .exact .inr ⟨U.length,c,by rw[z];exact aW,by rw[a];exact aW,e⟩
  .exact .inr ⟨i,d,iV h1,iV h2,h3⟩
 .rcases z with z|z
  .exact .inl (.inl z)
  .rcases wM a z with z|z
   .exact .inr z
   .exact .inl (.inr z)
theorem Tz.adopt {p:SI} {vs:List V} {xs:List SV} (s:Tz (de B p) K H U Z) (l:H p=lD (.lst vs)) (m:Vy (ow (de B p) U Z) K H U vs xs) (n:¬B p):Tz B K H (U++[p]) (Z++[.lst xs]):=by
 have t:ow (de B p) U Z=ow B (U++[p]) (Z++[.lst xs]):=IG s.len (by intro z;cases z);have b:∀(i:Nat) (a:SI),U[i]? =lD a->(U++[p])[i]? =lD a:=fun i a h=>iV h;have g:∀i:Nat,U[i]?≠lD p:=s.ba p (.inr rfl);refine⟨by rw[SH,SH,s.len];rfl,fun i j a e f=> ?_,fun a h=>s.bn a (.inl h),fun a h i q=> ?_,fun i a h=> ?_,fun i a d e f=> ?_⟩
 .rcases cz e with g1|⟨e1,e2⟩<;>rcases cz f with g2|⟨e3,e4⟩
  .exact s.nd i j a g1 g2
  .rw[e4] at g1;exact absurd g1 (g i)
  .rw[e2] at g2;exact absurd g2 (g j)
  .omega
 .rcases cz q with q|⟨_,e2⟩
  .exact s.ba a (.inl h) i q
  .subst e2;exact n h
 .rcases cz h with h|⟨_,e2⟩
  .exact s.al i a h
  .rw[e2,l];simp
 .rw[<-t]
  rcases cz f with g2|⟨e1,e2⟩
  .rcases cz e with g1|⟨e1,_⟩
   .exact(s.ZD i a d g1 g2).ev .refl b fun o q=>q
   .have:=(SD.mp g2).1;have:=s.len;omega
  .rcases cz e with g1|⟨_,e3⟩
   .have:=(SD.mp g1).1;have:=s.len;omega
   .rw[e2,e3];exact⟨vs,l,Paired.W0 m fun _ _ r=>r.ev .refl b⟩
theorem Tz.hide {p:SI} {o:HO} (s:Tz B K H U Z) (j:H p=Sw):Tz (de B p) K (bJ H p o) U Z:=by have f:UP H (bJ H p o):=cy j o;have g:=s.grow f;have ev:Ev (ow B U Z) H (ow (de B p) U Z) (bJ H p o):=fun b u h n=>⟨f b u h,fun z=>z.elim (fun z=>z.elim (fun z=>n (.inl z)) fun z=>by rw[z,j] at h;cases h) fun z=>n (.inr z)⟩;refine⟨g.len,g.nd,fun a h=>h.elim (g.bn a) fun e=>by rw[e,aR];simp,fun a h i q=>h.elim (fun h=>g.ba a h i q) fun e=>by rw[e] at q;exact s.al i p q j,g.al,fun i a c m l=> ?_⟩;exact(s.ZD i a c m l).ev ev (fun _ _ h=>h) fun o q=>f _ _ q
theorem Tz.ahm {p:SI} {o e:HO} (s:Tz (de B p) K H U Z) (j:H p=lD o):Tz (de B p) K (bJ H p e) U Z:=by
 have ev:Ev (ow (de B p) U Z) H (ow (de B p) U Z) (bJ H p e):=Ev.mut (.inl (.inr rfl)) e;have n:∀b,H b≠Sw->bJ H p e b≠Sw:=fun b h=>by
  by_cases z:b=p
  .subst z;rw[aR];simp
  .rw[aD z];exact h
 refine⟨s.len,s.nd,fun a h=>n a (s.bn a h),s.ba,fun i a h=>n a (s.al i a h),fun i a c f g=>(s.ZD i a c f g).ev ev (fun _ _ h=>h) fun u q=> ?_⟩;have:a≠p:=fun z=>s.ba p (.inr rfl) i (by rw[<-z];exact f);rw[aD this];exact q
theorem UW.dd {p:SI} {o:HO} (e:UW X Z1 S U Z H) (a:S p=Sw):UW X Z1 S U Z (bJ H p o):=⟨e.pre,fun b u h n=>by rw[aD (b7 h a)];exact e.kp b u h n,e.lv⟩
theorem Tz.adG {p:SI} (s:Tz (de B p) K H U Z):Tz B K H U Z:=
 ⟨s.len,s.nd,fun a h=>s.bn a (.inl h),fun a h=>s.ba a (.inl h),s.al,fun i a c f e=>(s.ZD i a c f e).ev (fun b o h n=>⟨h,fun y=>n (y.elim (fun y=> .inl (.inl y)) .inr)⟩) (fun _ _ h=>h) fun _ h=>h⟩
theorem sS {own:List Str} {fv:List (Str×Nat)} {g:TG} {tc:TT} {te:TE} {gt:AJ} {ft:uP} {fe:ef} {n:Nat} {fj:List Nat} {J:It} {Q:VK} {ds:List D} (hn:own.length=n) (hf:fv.map (·.2)=fj)
  (hg:JC K E g gt) (ht:vv K E tc ft) (he:cW K E te fe) (s1:Tz B K S X Z1) (sl1:VO (ow B X Z1) K S X M ρ) (it:Ah K J (ow B X Z1) S ds) (w1:WS K E B S X Z1 (PQ B K Q) ((ck gt ft fe ds (e9 n fj ρ) Z1 []).bind fun xs T=> .ok (.rf T.length) (T++[.lst xs]))):
  ∀D,S D=Sw->Ht J D (jy own fv M) g tc te S fun H'=>Q (.ref D) H':=by
 intro p P;have slc:VO (ow B X Z1) K S X (jy own fv M) (e9 n fj ρ):=Kx hn hf sl1;generalize qr:ck gt ft fe ds (e9 n fj ρ) Z1 []=rr at w1;by_cases w:rr= .bad
 .subst w;exact w1.elim
 .
  have hB:¬B p:=fun z=>s1.bn p z P;have evH:∀{Y:List SI} {T:bh} {H':Hp},UW X Z1 S Y T H'->Ev (ow B X Z1) S (ow (de B p) Y T) H':=fun e b o h n=>⟨e.kp b o h fun z=>n (.inr z),fun z=>by
   rcases z with(z|z)|z
   .exact n (.inl z)
   .rw[z,P] at h;cases h
   .exact(e.lv b z).elim (fun q=>n (.inr q)) fun q=>by rw[h] at q;cases q⟩
  refine⟨fun i m σ' H'=>m=ds.length - i/\i<=ds.length/\∃Y T ρc acc ys,UW X Z1 S Y T H'/\Tz (de B p) K H' Y T/\VO (ow (de B p) Y T) K H' Y σ' ρc/\H' p=lD (.lst ys)/\Vy (ow (de B p) Y T) K H' Y ys acc/\ck gt ft fe (ds.drop i) ρc T acc=rr,
   ⟨_,rfl,T5 _,X,Z1,e9 n fj ρ,[],[],UW.same (cy P _),s1.hide P,?_,aR,.nil,qr⟩,?_⟩
  .exact⟨slc.1,fun j x hx=>let⟨v,h1,h2⟩:=slc.2 j x hx;⟨v,h1,h2.ev (evH (UW.same (cy P _))) fun _ _ h=>h⟩⟩
  .rintro i m σ2 L ⟨rfl,hi,Y,T,ρ2,acc,ys,e2,s2,sl2,hy,vy,f⟩
   obtain⟨go,stop⟩:=it (ow (de B p) Y T) L (evH e2) s2.noO;by_cases WO:i<ds.length
   .obtain⟨g1,g2⟩:=go i WO
    refine .inr ⟨g1,fun σ5 C=>i+1<=ds.length/\∃Y T ρc acc ys,UW X Z1 S Y T C/\Tz (de B p) K C Y T/\VO (ow (de B p) Y T) K C Y σ5 ρc/\C p=lD (.lst ys)/\Vy (ow (de B p) Y T) K C Y ys acc/\ck gt ft fe (ds.drop (i+1)) ρc T acc=rr,
     fun σ5 C ⟨h1,h2⟩=>⟨ds.length - (i+1),by omega,rfl,h1,h2⟩,fun x H3 y=> ?_⟩
    obtain⟨s3,d,hd,dv⟩:=g2 x H3 y;have ed:ds.drop i=d::ds.drop (i+1):=by obtain⟨_,q⟩:=SD.mp hd;rw[VD WO,q]
    rw[ed] at f;unfold ck at f;have e3:UW Y T L Y T H3:=UW.same s3;have kD:∀{αx αy:List SI} {Zx Zy:bh} {Hx Hy:Hp} {o:HO},Tz (de B p) K Hx αx Zx->UW αx Zx Hx αy Zy Hy->Hx p=lD o->Hy p=lD o:=fun sx ex h=>ex.kp _ _ h fun⟨i,c,q,_⟩=>sx.ba p (.inr rfl) i q;have t:∀{G:List SI} {Z3:bh} {H3:Hp} {z:Xc} {A:bh},UW X Z1 S G Z3 H3->RS.er z A=rr->∀c dx R H',UW G Z3 H3 R A H'->Tz (de B p) K H' R A->XOk K (ow (de B p) R A) H' c dx z->E c dx H':=fun{G Z3 H3 z A} e3 q c dx R H' e s' x'=>by subst q;exact w1 c dx R H' (e3.trans e) s'.adG (XOk.sub (fun b y=>y.elim (fun y=> .inl (.inl y)) .inr) x')
    refine hg (de B p) σ2 H3 Y T ρ2 x (.fz d) _ (s2.grow s3) (sl2.Vm e3) dv ?_;cases qg:gt (.fz d) ρ2 T with
    |er z A=>rw[qg] at f;exact t (e2.trans e3) f
    |bad=>rw[qg] at f;exact w f.symm
    |ok l Z4=>
     rw[qg] at f;intro α4 H4 e4 s4 σ4 sl4;refine ht (de B p) σ4 H4 α4 Z4 l _ s4 sl4 ?_;have f:((ft l Z4).bind fun b T=>if b=Sz then(fe l T).bind fun x Z3=>(if acc.length<1000000 then ck gt ft fe (ds.drop (i+1)) l Z3 (acc++[x]) else .bad) else ck gt ft fe (ds.drop (i+1)) l T acc)=rr:=f;cases qt:ft l Z4 with
     |er z A=>rw[qt] at f;exact t (e2.trans (e3.trans e4)) f
     |bad=>rw[qt] at f;exact w f.symm
     |ok b Z5=>
      rw[qt] at f;intro α5 C e5 s5;have I:=sl4.Vm e5;have u:=e3.trans (e4.trans e5);cases b with
      |false=>have f:ck gt ft fe (ds.drop (i+1)) l Z5 acc=rr:=f;exact⟨WO,α5,Z5,l,acc,ys,e2.trans u,s5,I,kD s2 u hy,Vy.Vm u vy,f⟩
      |true=>
       have f:((fe l Z5).bind fun x Z3=>(if acc.length<1000000 then ck gt ft fe (ds.drop (i+1)) l Z3 (acc++[x]) else .bad))=rr:=f;rw[if_pos rfl];refine he (de B p) σ4 C α5 Z5 l _ s5 I ?_;cases qe:fe l Z5 with
       |er z A=>rw[qe] at f;exact t (e2.trans u) f
       |bad=>rw[qe] at f;exact w f.symm
       |ok x6 Z6=>
        rw[qe] at f;intro F H6 e6 s6 v6 hv6;have f:(if acc.length<1000000 then ck gt ft fe (ds.drop (i+1)) l Z6 (acc++[x6]) else .bad)=rr:=f;by_cases N:acc.length<1000000
        .rw[if_pos N] at f;have e36:=u.trans e6;have hy6:H6 p=lD (.lst ys):=kD s2 e36 hy;have vy6:=Vy.Vm e36 vy;have em:Ev (ow (de B p) F Z6) H6 (ow (de B p) F Z6) (bJ H6 p (.lst (ys++[v6]))):=Ev.mut (.inl (.inr rfl)) _;have sl6:=I.Vm e6;refine⟨ys,hy6,ut (by rw[vy6.length];exact N),WO,F,Z6,l,acc++[x6],ys++[v6],(e2.trans e36).dd P,s6.ahm hy6,⟨sl6.1,fun j x hx=>let⟨v,h1,h2⟩:=sl6.2 j x hx;⟨v,h1,h2.ev em fun _ _ h=>h⟩⟩,aR,BU (Paired.W0 vy6 fun _ _ r=>r.ev em fun _ _ h=>h) (hv6.ev em fun _ _ h=>h),f⟩
        .rw[if_neg N] at f;exact absurd f.symm w
   .have e:i=ds.length:=by omega
    subst e;rw[V1 (SU _)] at f;have f:RS.ok acc T=rr:=f;subst f;refine .inl ⟨stop,?_⟩;refine w1 (Y++[p]) L ⟨fun i a h=>iV (e2.pre i a h),e2.kp,fun b z=>(wM s2.len z).elim (e2.lv b) fun z=> .inr (by rw[z];exact P)⟩ (s2.adopt hy vy hB) (.ref p) ⟨p,by rw[<-s2.len];exact aW,rfl⟩
theorem Pq {A C:Type} {P:C->List SI->bh->Hp->Prop} {r:RS A} {k:A->bh->C} {m:A->bh->bh} (w:WS K E B H U Z P ((g7 r).bind fun a o=> .ok (k a o) (m a o))):WS K E0 B H U Z P (r.bind fun a o=> .ok (k a o) (m a o)):=by
 cases r with
 |ok a o=>exact w
 |er x o=>exact w.elim
 |bad=>exact w
theorem fZ {own:List Str} {h:List (Str×Nat)} {a:TI} {g:TG} {e:TT} {b:TE} {i:KW} {gt:AJ} {ft:uP} {fe:ef} {n:Nat} {fj:List Nat} (hn:own.length=n) (q:h.map (·.2)=fj)
  (hi:PY K E a i) (p:JC K E0 g gt) (o:vv K E0 e ft) (r:cW K E0 b fe):cW K E (sH own h a g e b) (eU n fj i gt ft fe):=by
 intro B M H U Z ρ Q s f w;refine hi B M H U Z ρ _ s f (WS.imp (WS.bind w) fun ds X Z1 S t l j J m=> ?_);exact sS hn q p o r l (f.Vm t) m (Pq j)
def dg (N:Nat) (g:fC):ji:=fun xs Z=>(g (xs.map lD++SS (N - xs.length) Sw) Z).bind fun a Z1=>match a with
 | .rt x=> .ok x Z1
 | .nx _=> .ok (.fz .none) Z1
 |_=> .bad
theorem Gd {N:List Str} {vs:List V} {xs:List SV} (h:Vy O K H U vs xs):VO O K H U (L2.start N vs) (xs.map lD++SS (N.length - xs.length) Sw):=by
 have b:vs.length=xs.length:=Paired.length h;unfold L2.start;refine⟨by rw[SH,SH,Sy,Sy,TB,TB,b],fun i x a=> ?_⟩;by_cases hi:i<xs.length
 .rw[S1 (by rw[Sy];exact hi),SX] at a
  cases q:xs[i]? with
  |none=>rw[q] at a;cases a
  |some d=>rw[q] at a;cases a;obtain⟨v,e,f⟩:=AG h q;refine⟨v,?_,f⟩;rw[S1 (by rw[Sy,b];exact hi),SX,e];rfl
 .rw[TC (by rw[Sy];omega),Vb] at a;split at a<;>cases a
theorem Bi {N:List Str} {vs:List V} {xs:List SV} {g:fC} {t:TS} {Q:VK} {n:Nat} (f:pw K E t g) (h:dw K n (dg N.length g) vs H Q E):t {nx:=fun _ H'=>Q .Vh H',rt:=Q} (L2.start N vs) H:=by
 obtain⟨l,B,U,Z,xs,s,e,w⟩:=h;refine f B _ H U Z _ _ s (Gd e) (WS.imp (WS.bind w) fun i X Z1 S m b a=> ?_);cases i with
 |rt x=>exact WS.now (E:=E) b a
 |nx ρ=>exact fun M j=>WS.now (E:=E) b a .Vh .Vh
 |bk ρ=>exact a.elim
 |ct ρ=>exact a.elim
end
theorem Sf {P:Te} {w:TF} {K:Ld} {mg:Str->Option Sx} {base:Heap} {x a:Str} {b:U6} {f:SI} {fd:Uc} {N ps:List Str} {k n m:Nat} {g:fC} {i:ji} (F:VU K x a b f fd) (S:Vk N ps (aA b)) (hn:ps.length=n) (hm:N.length=m) (p:i=dg m g)
  (q:∀(e:Sx) (A:Tw) (outer:List Env) (s:SK) (H:Hp) (E:XK),U7 k (A.deeper (Tn a (aA b) s.heap.objs.size f e))->
   ∃t,YA (fV dS P w K mg base N a (aA b) f e A outer s H E).nox (cx b) t/\pw K E t g):FnOk P w K mg base dS (k+1) f fd ps (dw K n i):=by
 subst p hm;refine F.ok S (fun vs H Q E h=>h.1.trans hn.symm) (fun e A outer s H vs Q E o h=> ?_);obtain⟨t,j,l⟩:=q e A outer s H E o;exact⟨t,j,Bi (xs:=[]) l h⟩
theorem Rn {P:Te} {w:TF} {K:Ld} {mg:Str->Option Sx} {base:Heap} {x a:Str} {b:U6} {f:SI} {fd:Uc} {N ps:List Str} {k n m:Nat} {g:fC} {l:ji} (F:VU K x a b f fd) (S:Vk N ps (aA b)) (hn:ps.length=n) (hm:N.length=m) (v:l=dg m g)
  (z:∀(e:Sx) (A:Tw) (outer:List Env) (s:SK) (H:Hp) (E:XK),U7 k (A.deeper (Tn a (aA b) s.heap.objs.size f e))->
   ∃t,YA (fV (L4.jd P w) P w K mg base N a (aA b) f e A outer s H E) (cx b) t/\pw K E t g):FnOk P w K mg base (L4.jd P w) (k+1) f fd ps (dw K n l):=by
 subst v hm;obtain⟨G,C,kV,y,B,I,e,ct,o,rfl,p,j⟩:=F.ex;refine Fb p j S (fun vs H Q E h=>h.1.trans hn.symm) fun A outer s H vs Q E u i=> ?_;obtain⟨t,q,r⟩:=z e A outer s H E u;exact⟨t,q,Bi (xs:=[]) r i⟩
abbrev Pn (P:Te) (w:TF) (K:Ld) (mg:Str->Option Sx) (base:Heap) (k:Nat) (x:Str) (ps:List Str) (n:Nat) (F:ji):Prop:=yT P w K mg base k x ps (dw K n F)
end L10
namespace PySem.W
open PySem PySem.Calls PyProof.Rows PyProof.V PySem.Spec
section
variable {prog:Te} {w:TF} {A:Tw} {E:Sx->SK->Prop} {s:SK} {T:String} {r d:SI} {n:Nat} {P:Nat->Sx->Prop} {OK:Heap->Prop}
theorem collect_kdl (K:KdlSrc prog w T r d n P OK) (m:A.handled=Sw) (Up:OK s.heap) (hn:n<=SY)
  (q:∀h' tk acc,(∀b o,s.heap.get? b=lD o->h'.get? b=lD o)->ai8 P acc n->Q acc.toList {s with heap:=h',toks:=tk}):wpAny (model prog w) A (collect (.ref r)) Q E s:=by
 have i:=K.there _ Up;unfold collect;refine Sv (wpAny_runValue (V3 F.entry_proto_collect ?_));rw[Tw.under_plainId F.plain_proto_collect _];refine Sv (UR ?_);refine SQ ⟨VZ F.plain_list_iadd _,V3 F.entry_list_iadd ?_⟩;rw[Tw.under_plainId F.plain_list_iadd _];have p:(s.heap.push {cls:= .type "list",data:= .seq ([]:List Sx).toArray}).get? s.heap.objs.size=lD {cls:= .type "list",data:= .seq ([]:List Sx).toArray}:=Heap.get?_push_size _ rfl;refine kdl_extend (R:=wants (fun v j=>wpAny (model prog w) A (match v with| .ref a=>(load a>>=fun o=>match o.data with| .seq xs _=>pure xs.toList|_=>unsupported "internal:collect")|_=>unsupported "internal:collect") Q E j) E) (s:={s with heap:=s.heap.push {cls:= .type "list",data:= .seq ([]:List Sx).toArray}}) K m (K.keep _ _ Up fun b _ o e=>Heap.get?_push_of_some _ e) _ (Ul i.1) (Ul i.2) _ 0 p (fun h' tk h t l f g=> ?_) hn;refine Sv (adz f ?_);exact SQ (q h' tk h (fun b o e=>l b o (Th (Heap.lt_size e)) (Heap.get?_push_of_some _ e)) g)
end
end PySem.W
namespace PyProof.Rows
open PySem
section
variable {prog:Te} {w:TF} {A:Tw} {E:Sx->SK->Prop} {s:SK} {T:String} {r d:SI} {n:Nat} {P:Nat->Sx->Prop} {OK:Heap->Prop}
theorem Bz (K:PySem.W.KdlSrc prog w T r d n P OK) (p:A.handled=Sw) (Up:OK s.heap) (l:n<64) (t:∀acc:Array Sx,ai8 P acc n->IntsAre acc.toList ns)
  (h:∀(a h':Heap) (g:Nat) (out:Array Sx) (e:Nat) (f:List Int),(∀b o,s.heap.get? b=lD o->a.get? b=lD o)->h'.get? a.objs.size=lD (seqObj "list" out e)->(∀b o,a.get? b=lD o->h'.get? b=lD o)->IntsAre out.toList f->f.Perm ns->f.Pairwise (·<=·)->Q (.ref a.objs.size) {s with heap:=h',toks:=g}):
  wpAny (model prog w) A (call (.builtin "sorted") [.ref r]) Q E s:=by
 refine Calls.call_function_entry kind_sorted plain_sorted entry_sorted (args_sorted1 _) (Sv (SQ (Sv (PySem.W.collect_kdl K p Up (by rw[U9];omega) (fun a g acc m hi=>Sv (ai7 ?_ (hsz:=by rw[Uh,hi.1,U9];omega)))))));have i:(a.push (seqObj "list" acc.toList.toArray 0)).get? a.objs.size=lD (seqObj "list" acc.toList.toArray 0):=Heap.get?_push_size _ rfl;have j:=t acc hi;refine Sv (UK (VT slot_list_sort ⟨_,i,rfl⟩ entry_list_sort (list_sort_tree i j (by rw[Uh,hi.1];exact l) fun out f y v u=>⟨_,rfl,SQ ⟨_,rfl,?_⟩⟩) (args_list_sort _)));obtain⟨e,q⟩:=ud i;exact h a _ g out e f m q (fun b B z=>qY (Th (Heap.lt_size z)) (Heap.get?_push_of_some _ z)) y v u
end
end PyProof.Rows
namespace L10
open PySem PySem.Spec PyProof.Rows L2 L3
def Q7 (p d:SI):HO:= .ext fun h=>h.IsValuesView p d
theorem P6 (x:h.IsValuesView p d):ObjOk P w H h p (Q7 p d):=⟨x,let⟨o,a,_⟩:=x;⟨o,a⟩,fun f e ⟨o,a,b⟩ k=>⟨o,k o a,b⟩⟩
def MW:V->List V->Hp->VK->Prop:=fun x vs H Q=>∃a Ti,x= .ref a/\vs=[]/\H a=lD (.dK Ti)/\∀p,H p=Sw->Q (.ref p) (bJ H p (Q7 p a))
theorem uT:Q9 X "dict.values" MW:=by intro g s m H x xs v n Q I i f h;obtain⟨a,Ti,rfl,rfl,e,q⟩:=h;cases i;cases f;obtain⟨z,l,vs,j,dd⟩:=zg I.Up e;refine Zp WK dd.typeIs PySem.F.entry_dict_values (PySem.F.args_dict_values_1 _) (meets_dict_values (dj X.prog X.w) a l) ⟨⟨vs,dd⟩,?_⟩;refine⟨.ref s.heap.objs.size,_,I.laid (fun b o e=>Heap.get?_push_of_some _ e) (SU _) (P6 ⟨_,Heap.get?_push_size _ rfl,rfl,rfl⟩),rfl,q _ (I.Up.fresh (SU _))⟩
def Ft:List V->Hp->VK->Prop:=fun xs H Q=>∃p a Ti,xs=[.ref p]/\H p=lD (Q7 p a)/\H a=lD (.dK Ti)/\∀l,H l=Sw->Q (.ref l) (bJ H l (.lst (Ti.map (·.2))))
theorem Db:∀{Ti:List (κ×V)} {vs:List (κ×Sx)},KV Ti vs->Vals (Ti.map (·.2)) (vs.map (·.2))
 |_,_,.nil=> .nil
 |_,_,.cons h t=> .cons h.2 (Db t)
theorem tF (n:X.calm=Sz):Vx X (.type "list") Ft:=by intro g s C H xs E Q I r h;obtain⟨p,a,Ti,rfl,w,e,q⟩:=h;obtain⟨u,rfl,l⟩:=kE r;cases l;obtain⟨z,G,vs,b,dd⟩:=zg I.Up e;obtain⟨K,B⟩:=dd.dictAt;obtain⟨i,_,_⟩:=I.Up p _ w;refine PySem.W.kdl_call (PySem.W.kdl_values) (I.ok.hd n) ⟨i,B⟩ (by rw[<-b.length];exact z) fun J F f c m t hi=> ?_;have A:=PySem.W.kdl_vals_eq f.toList (by rw[Uh];exact hi.1) fun j v y=>hi.2 j v (by rw[<-aaB];exact y);refine⟨.ref s.heap.objs.size,_,I.laid (o:= .lst (Ti.map (·.2))) m (SU _) ⟨by rw[Sy];exact z,f.toList,c,by rw[A];exact Db b,by rw[Array.toArray_toList];exact t⟩,rfl,q _ (I.Up.fresh (SU _))⟩
def GS:List V->Hp->VK->Prop:=fun xs H Q=>∃(p:SI) (Ti:List (cT×V)) (a:List Int),xs=[.ref p]/\H p=lD (.dK Ti)/\Ti.map (·.1)=a.map Sum.inl/\a.length<64/\∀(l:SI) (b:List Int),H l=Sw->b.Perm a->b.Pairwise (·<=·)->Q (.ref l) (bJ H l (.lst (b.map V.int)))
theorem tH:∀{vs:List (cT×Sx)} {ns:List Int} {us:List Sx},vs.map (·.1)=ns.map Sum.inl->us.length=vs.length->(∀(j:Nat) (u:Sx),us[j]? =lD u->∃k x,vs[j]? =lD (k,x)/\(dj prog w).is k u=Sz)->IntsAre us ns
 |[],[],[],_,_,_=> .nil
 |[],[],_::_,_,h,_=>by simp at h
 |[],_::_,_,h,_,_=>by simp at h
 |_::_,[],_,h,_,_=>by simp at h
 |_::_,_::_,[],_,h,_=>by simp at h
 |(k,y)::vs,n::ns,u::us,h1,h2,h3=>by rw[S6,S6,aku] at h1;obtain⟨g,x,e,b⟩:=h3 0 u rfl;cases e;have f:=h1.1;subst f;obtain⟨t,rfl⟩:=Sx.isInt_shape (show Sx.isInt n u=Sz from b);exact .cons _ _ (tH h1.2 (by simpa using h2) fun j a e=>h3 (j+1) a (by simpa using e))
theorem sf (E:X.calm=Sz):Vx X (.builtin "sorted") GS:=by
 intro i s O H xs P Q I r h;obtain⟨p,Ti,l,rfl,e,J,F,q⟩:=h;obtain⟨u,rfl,t⟩:=kE r;cases t;obtain⟨z,C,vs,b,dd⟩:=zg I.Up e;obtain⟨U,M⟩:=dd.dictAt;have m:vs.map (·.1)=l.map Sum.inl:=by rw[<-b.keys];exact J
 have S:vs.length=l.length:=by have:=congrArg XU m;simpa using this
 refine Bz (PySem.W.kdl_dict C) (I.ok.hd E) M (by omega) (fun N hi=>tH m (by rw[Uh];exact hi.1) fun j v K=>hi.2 j v (by rw[<-aaB];exact K)) fun G T R f L w A B g hi n y=> ?_;have a:=n.length_eq;have o:=I.kept (t':=s.toks) A;refine⟨.ref G.objs.size,_,o.laid g (SU _) ?_,rfl,q _ w (o.Up.fresh (SU _)) n y⟩;refine⟨?_,f.toList,L,jM hi,B⟩;rw[Sy,a];have:(64:Nat)<=SY:=by decide
 omega
end L10
namespace PySem
open Sem (wp)
namespace F
theorem lk_tuple_keys:typeLookup (.type "tuple") "keys"=pure Sw:=by rw[afQ,acs];kernel_rfl
theorem lk_tuple_hook:typeLookup (.type "tuple") "__getattr__"=pure Sw:=by rw[afQ,acs];kernel_rfl
theorem sub_ae:isSubtype (.type "AttributeError") (.type "AttributeError")=pure Sz:=by rw[isSubtype_type];kernel_rfl
end F
section
variable {prog:Te} {w:TF} {A:Tw} {E:Sx->SK->Prop} {h:Heap} {g:Array XQ} {d:abB} {t:Nat} {os:aaz} {a:SI} {o:Obj}
theorem AX {α:Type} {name f:Str} {Q:α->SK->Prop} {E:Sx->SK->Prop} (hm:f.length<=SY) (l:A.handled=Sw) (i:∀e h' t',(∀b o,h.get? b=lD o->h'.get? b=lD o)->(⟨h',g,d,t',os⟩:SK).TypeIs e "AttributeError"->E e ⟨h',g,d,t',os⟩):
  wpAny (model prog w) A (raiseAttrError (.ref a) name f:Sem α) Q E ⟨h,g,d,t,os⟩:=by
 have j:¬f.length>SY:=Nat.not_lt.mpr hm;unfold raiseAttrError newExc newTuple
 repeat (any_goals (first|assumption|wp_step))
 refine ZY (a:=Sz) F.sub_ae ?_
 repeat (any_goals (first|assumption|wp_step))
 refine ac6 l (i _ _ _ (fun b o e=> ?_) ?_)
 .exact(Heap.get?_update_other _ _ (Ne.symm (Th (Heap.lt_size (Heap.get?_push_of_some _ e))))).trans (Heap.get?_push_of_some _ (Heap.get?_push_of_some _ e))
 .exact⟨_,Heap.get?_update_self _ (Heap.get?_push_size _ rfl) rfl,rfl⟩
theorem pN {f:Tok} {Q:Fin->SK->Prop} {E:Sx->SK->Prop} {p:Array Sx} {n:Nat} {i:Array (Option Sx)} (j:h.get? a=lD ⟨.type "tuple",Sw,.seq p n,i⟩) (m:A.handled=Sw) (l:∀e h' t',(∀b o,h.get? b=lD o->h'.get? b=lD o)->(⟨h',g,d,t',os⟩:SK).TypeIs e "AttributeError"->E e ⟨h',g,d,t',os⟩):
  wpAny (model prog w) A (Ua.«object.__getattribute__» ⟨[.ref a,.str "keys" f],[]⟩) Q E ⟨h,g,d,t,os⟩:=by
 have q:(⟨h,g,d,t,os⟩:SK).TypeIs (.ref a) "tuple":=⟨_,j,rfl⟩;have r:=F.lk_tuple_keys
 repeat (any_goals (first|assumption|wp_step))
 exact AX (by left) m l
theorem uF {f:Tok} {Q:Sx->SK->Prop} {E:Sx->SK->Prop} {u:Array Sx} {n:Nat} {l:Array (Option Sx)} (i:h.get? a=lD ⟨.type "tuple",Sw,.seq u n,l⟩) (q:A.handled=Sw) (m:∀e h' t',(∀b o,h.get? b=lD o->h'.get? b=lD o)->(⟨h',g,d,t',os⟩:SK).TypeIs e "AttributeError"->E e ⟨h',g,d,t',os⟩):
  wpAny (model prog w) A (getAttrBy (.ref a) (.str "keys" f) SN) Q E ⟨h,g,d,t,os⟩:=by
 have r:(⟨h,g,d,t,os⟩:SK).TypeIs (.ref a) "tuple":=⟨_,i,rfl⟩;have z:=F.slot_tuple_getattribute.lookup;have y:=F.slot_tuple_getattribute.bind (.ref a);have v:=F.lk_tuple_hook
 repeat (any_goals (first|assumption|wp_step))
 refine WA F.slot_tuple_getattribute.plain F.entry_tuple_ga (F.slot_tuple_getattribute.check _ _ _ _ _ _ _ _ r (F.args_tuple_getattribute_2 _ _) (pN i q fun e h' t' p j=> ?_));have fs:=F.sub_ae;show wpAny (model prog w) A (getattributeRaised (Sx.ref a) (Sx.str (Str.ofString "keys") f) (Sx.type "tuple") e Sw SN SN) Q E _;unfold getattributeRaised;refine Sv (ZI j fs ?_)
 repeat (any_goals (first|assumption|wp_step))
 exact m e h' t' p j
theorem rB (f:h.get? a=lD ⟨.type "tuple",Sw,.seq TV n,sl⟩) (l:A.handled=Sw) (i:∀h' t',(∀b o,h.get? b=lD o->h'.get? b=lD o)->Q Sw ⟨h',g,d,t',os⟩):
  wpAny (model prog w) A (getAttr? (.ref a) "keys") Q E ⟨h,g,d,t,os⟩:=by
 unfold getAttr? getAttrBy?;have fs:=F.sub_ae;refine Sv ?_
 repeat (any_goals (first|assumption|(specialize uF f l fun e h' t' j m=> ?_)|wp_step))
 exact i h' t' j
namespace F
theorem entry_upd_loop:entryFor table "dict.update.loop"=lD Ua.«dict.update.loop»:=entryFor_of_tree (by kernel_rfl)
theorem plain_upd_loop:plainId "dict.update.loop"=Sz:=by left
end F
end
section
variable {prog:Te} {w:TF} {A:Tw} {E:Sx->SK->Prop} {s:SK} {K:Type} [DecidableEq K] {knd:KeyKind prog w K} {I dd Y:SI} {Z:Array Sx} {ks:List (K×Sx)} {R:ZG->SK->Prop}
theorem Aa (Ti:List (K×Sx)) (k:K) (v:Sx):(stored Ti k v).length<=Ti.length+1:=by
 unfold stored;split
 .rw[Sy];omega
 .rw[SH];exact SU _
theorem qI:∀(a Ti:List (K×Sx)),(merged Ti a).length<=Ti.length+a.length
 |[],Ti=>SU _
 |p::r,Ti=>by have e:=qI r (stored Ti p.1 p.2);have b:=Aa Ti p.1 p.2;show(merged (stored Ti p.1 p.2) r).length<=_;rw[S3];omega
theorem Bg (a:List (K×Sx)):(merged [] a).length<=a.length:=by have:=qI a [];simpa using this
theorem Ju {P:Heap} (hh:A.handled=Sw) (Yx:Y≠I) (O:I≠dd) (N:Y≠dd) (hp:∀(i:Nat) (v:Sx),Z[i]? =lD v->∃q key k x,v= .ref q/\q≠dd/\q≠I/\ks[i]? =lD (k,x)/\knd.is k key=Sz/\P.IsTuple q #[key,x]) (hs:ks.length=Z.size) (hz:Z.size<=SY)
  (hR:∀h' l,h'.DictOf knd dd (merged [] ks)->(∀b o,b≠dd->b≠I->P.get? b=lD o->h'.get? b=lD o)->R (.ok (.ret .none)) {s with heap:=h',toks:=l}):
  ∀(m i:Nat) (h:Heap) (l:Nat),Z.size - i=m->i<=Z.size->h.IsTupleIter I Y i->h.IsTuple Y Z->h.DictOf knd dd (merged [] (ks.take i))->(∀b o,b≠dd->b≠I->P.get? b=lD o->h.get? b=lD o)->
   codeAny (model prog w) A (.builtin "dict.update.loop" ⟨[.ref dd,.ref I,rawInt i,.none],[]⟩) R {s with heap:=h,toks:=l}:=by
 have W:=Walks.tuple (prog:=prog) (w:=w) (A:=A.in1) hh I Y Yx Z;intro m
 induction m with
 |zero=>
  intro i h l hm hi B u t r;have e:i=Z.size:=by omega
  subst e;refine V3 F.entry_upd_loop ?_;rw[Tw.under_plainId F.plain_upd_loop _];refine Sv (W.done _ _ _ ⟨B,u⟩ fun h' f g=> ?_);rw[Xo (by omega)] at t;refine Sv (SQ (SQ ?_));refine hR h' f (t.at fun o e=>g dd o (by simp;exact fun z=>O z.symm) e) fun b o j a e=>g b o (by simp;exact a) (r b o j a e)
 |succ m ih=>
  intro i h l hm hi B u t r;have U:i<Z.size:=by omega
  refine V3 F.entry_upd_loop ?_;rw[Tw.under_plainId F.plain_upd_loop _];refine Sv (W.item i _ _ _ U ⟨B,u⟩ fun v h' f hv T g=> ?_);obtain⟨q,key,k,x,rfl,G,n,J,H,ht⟩:=hp i v hv;have C:=ht.at fun o e=>g q o (by simp;exact n) (r q o G n e);have S:=t.at fun o e=>g dd o (by simp;exact fun z=>O z.symm) e;have y:=fun b o j a e=>g b o (by simp;exact a) (r b o j a e);obtain⟨oq,p,M,nq,L⟩:=C;obtain⟨cq,dq,dtq,X⟩:=oq;cases M;cases L;have hT:({s with heap:=h',toks:=f}:SK).TypeIs (.ref q) "tuple":=⟨_,p,rfl⟩;refine Sv (UK (Sv ?_));refine YE ?_;unfold Ua.Dict.pairItems;refine Sv (abP hT ?_);rw[if_pos (by decide)];refine Sv ?_;unfold seqItems?;refine Sv (adz p (SQ (SQ ?_)));refine UK (wpAny_dictSet_pairs H S (fun a d2 s2=> ?_) ?_)
  .refine SQ ⟨VZ F.plain_upd_loop _,?_⟩;have Q:∀b o,b≠dd->h'.get? b=lD o->a.get? b=lD o:=fun b o hb e=>(s2.2 b hb).trans e;refine ih (i+1) a (f+1) (by omega) U (T.1.at fun o e=>Q I o O e) (T.2.at fun o e=>Q Y o N e) ?_ fun b o j a e=>Q b o j (y b o j a e);rw[merged_take_succ [] ks i (k,x) J];exact d2
  .have:(merged [] (ks.take i)).length<=(ks.take i).length:=Bg _;rw[UT] at this;omega
end
end PySem
namespace PySem
open Sem (wp)
open PyProof.Rows
section
variable {prog:Te} {w:TF} {A:Tw} {E:Sx->SK->Prop} {s:SK} {K:Type} [DecidableEq K] {knd:KeyKind prog w K} {Y:SI} {Z:Array Sx} {ks:List (K×Sx)} {R:ZG->SK->Prop}
theorem ra (B:A.handled=Sw) (z:s.heap.get? Y=lD ⟨.type "tuple",Sw,.seq Z n,sl⟩) (H:ks.length=Z.size) (hz:Z.size<=SY)
  (I:∀(i:Nat) (v:Sx),Z[i]? =lD v->∃q key k x,v= .ref q/\ks[i]? =lD (k,x)/\knd.is k key=Sz/\s.heap.IsTuple q #[key,x])
  (h:∀h' tk,h'.DictOf knd s.heap.objs.size (merged [] ks)->(∀b o,s.heap.get? b=lD o->h'.get? b=lD o)->Q (.ref s.heap.objs.size) {s with heap:=h',toks:=tk}):
  wpAny (model prog w) A (call (.type "dict") [.ref Y]) Q E s:=by
 refine callType_codes (Q₁:=fun obj f=>obj= .ref s.heap.objs.size/\f={s with heap:=s.heap.push {cls:= .type "dict",data:= .dict #[]}}) F.kt_called_dict (F.kt_typeCall_dict_1 _) F.entry_dict_init (kt_code_dict_new _ ⟨rfl,rfl⟩) ?_;rintro obj f ⟨rfl,rfl⟩;have a:(s.heap.push {cls:= .type "dict",data:= .dict #[]}).DictOf knd s.heap.objs.size []:=Heap.DictOf.new s.heap;have g:(s.heap.push {cls:= .type "dict",data:= .dict #[]}).get? Y=lD ⟨.type "tuple",Sw,.seq Z n,sl⟩:=Heap.get?_push_of_some _ z;have J:({s with heap:=s.heap.push {cls:= .type "dict",data:= .dict #[]}}:SK).TypeIs (.ref Y) "tuple":=⟨_,g,rfl⟩;refine⟨a.typeIs,F.args_dict_init_2 _ _,?_⟩;unfold Ua.«dict.__init__»;refine Sv ?_;unfold Ua.Dict.selfAndRest;refine Sv (acu a.typeIs ?_);refine SQ ?_;show wpAny _ _ (Ua.Dict.updateFrom "dict.__init__" s.heap.objs.size (.ref Y) [] .none) _ _ _;unfold Ua.Dict.updateFrom;refine Sv (abP J ?_);rw[if_pos (by decide)];refine Sv (rB g B fun h' C m=> ?_);rw[if_pos (show(Sw:Option Sx).isNone=Sz from rfl)];refine Sv (W7 ?_);have l:=m _ _ g;have t:h'.IsTuple Y Z:=⟨_,l,rfl,n,rfl⟩;refine Sv (Yn t ?_);refine SQ ⟨VZ F.plain_upd_loop _,?_⟩;have PP:s.heap.objs.size<h'.objs.size:=by obtain⟨o,_,_,p,_⟩:=a;exact Heap.lt_size (m _ _ p)
 have j:=Heap.lt_size z;refine Ju (A:=A.in1) (knd:=knd) B (Th (V8 j PP)) (Ul PP) (Th j) (fun i v e=> ?_) H hz (fun u r N G=> ?_) Z.size 0 _ C (by omega) (T5 _) ⟨_,Heap.get?_push_size _ rfl,rfl,rfl⟩ ⟨_,Heap.get?_push_of_some _ l,rfl,n,rfl⟩ ?_ fun b o _ _ e=>e
 .obtain⟨q,key,k,x,rfl,M,u,o,p,L⟩:=I i v e;have y:=Heap.lt_size p;exact⟨q,key,k,x,rfl,Th y,Th (V8 y PP),M,u,o,Heap.get?_push_of_some _ (m _ _ (Heap.get?_push_of_some _ p)),L⟩
 .refine⟨rfl,h u r N fun b o e=> ?_⟩;have lb:=Heap.lt_size e;exact G b o (Th lb) (Th (V8 lb PP)) (Heap.get?_push_of_some _ (m _ _ (Heap.get?_push_of_some _ e)))
 .have:=a.at (h':=h'.push {cls:= .type "tuple_iterator",data:= .fields #[.ref Y,.int 0 0]}) fun o e=>Heap.get?_push_of_some _ (m _ _ e);exact this
end
end PySem
namespace L10
open PySem PySem.Spec PyProof.Rows L2 L3
inductive ZE (K:Ld) (H:Hp):List V->List (cT×V)->Prop
 |nil:ZE K H [] []
 |cons {q:SI} {k:cT} {v:V} {vs:List V} {Ti:List (cT×V)}:Xa K H q [kV k,v]->ZE K H vs Ti->ZE K H (.ref q::vs) ((k,v)::Ti)
def FL (K:Ld):List V->Hp->VK->Prop:=fun xs H Q=>∃p ys Ti,xs=[.ref p]/\Xa K H p ys/\ZE K H ys Ti/\∀d,H d=Sw->Q (.ref d) (bJ H d (.dK (p9 [] Ti)))
theorem Iv (I:Inv X pins σ H s):∀{j:List V} {Ti:List (cT×V)} {us:List Sx},ZE X.K H j Ti->Vals j us->∃ks:List (cT×Sx),KV Ti ks/\ks.length=us.length/\∀(i:Nat) (v:Sx),us[i]? =lD v->∃q key k x,v= .ref q/\ks[i]? =lD (k,x)/\(dj X.prog X.w).is k key=Sz/\s.heap.IsTuple q #[key,x]
 |_,_,_,.nil,.nil=>⟨[],.nil,rfl,fun i v e=>by simp at e⟩
 |_,_,_,.cons (q:=q) (k:=k) (v:=v) h t,.cons r rs=>by
  obtain⟨ks,p,o,n⟩:=Iv I t rs;obtain⟨y,rv,pl,_⟩:=I.tuple h;cases r;obtain⟨g,f,rfl,m,l⟩:∃g f,y=[g,f]/\RelV (kV k) g/\RelV v f:=by
   cases rv with
   |cons a b=>cases b with
    |cons b c=>cases c;exact⟨_,_,rfl,a,b⟩
  refine⟨(k,f)::ks,.cons ⟨rfl,l⟩ p,by rw[S3,S3,o],fun i u e=> ?_⟩;cases i with
  |zero=>cases e;exact⟨q,g,k,f,rfl,rfl,vC m,pl⟩
  |succ i=>exact n i u (by simpa using e)
theorem Ae (J:X.calm=Sz):Vx X (.type "dict") (FL X.K):=by
 intro f s L H xs N Q I r h;obtain⟨p,M,Ti,rfl,z,A,q⟩:=h;obtain⟨u,rfl,j⟩:=kE r;cases j;obtain⟨U,rv,⟨o,B,⟨b,n,G⟩,a⟩,y⟩:=I.aec z;obtain⟨S,g,w,t⟩:=Iv I A rv;obtain⟨R,P,m,l⟩:=o;cases b;cases G;cases a;have C:=rv.length;have E:=g.length;refine ra (I.ok.hd J) B (by rw[S8];exact w) (by rw[S8,<-C];exact y) (fun i v e=>t i v (by simpa using e)) fun T O dd F=> ?_;refine⟨.ref s.heap.objs.size,_,I.laid F (SU _) ?_,rfl,q _ (I.Up.fresh (SU _))⟩;refine AU ?_ ?_ (KV.merge g .nil) dd
 .have:=nj Ti [];rw[U2] at this;omega
 .exact beq_eq_false_iff_ne.mpr (Ul I.big)
end L10
namespace L10
open PySem PyProof.Rows L2 L3
theorem Pa:Ue "dict"=lD (.type "dict"):=by left
section
variable {B O O':cw} {K:Ld} {E:XK} {H H' R P:Hp} {Y α' U T:List SI} {Z Z' Z1 X:bh} {S:L2.St} {ρ:bA} {v:V}
def uE:SV->Option cT
 | .fz (.int i)=>lD (.inl i)
 | .fz (.str x)=>lD (.inr x)
 |_=>Sw
theorem rN (e:uE x=lD k) (h:VY O K H Y v x):v=kV k:=by
 unfold uE at e;split at e
 .cases e;cases h;rfl
 .cases e;cases h;rfl
 .cases e
abbrev w9 (O:cw) (K:Ld) (H:Hp) (Y:List SI):List (cT×V)->List (cT×SV)->Prop:=Paired (fun(p:cT×V) (q:cT×SV)=>p.1=q.1/\VY O K H Y p.2 q.2)
def iM (Z:bh):SV->Option (Nat×List (cT×SV))
 | .rf i=>match Z[i]? with
  |some (.Yu Ti)=>lD (i,Ti)
  |_=>Sw
 |_=>Sw
theorem og (s:Tz B K H Y Z) (b:VY (ow B Y Z) K H Y v x) (h:iM Z x=lD (i,Ti)):Z[i]? =lD (.Yu Ti)/\∃a ws,Y[i]? =lD a/\v= .ref a/\H a=lD (.dK ws)/\w9 (ow B Y Z) K H Y ws Ti:=by
 cases x with
 |fz d=>cases h
 |tp l=>cases h
 |rf j=>
  obtain⟨a,ha,rfl⟩:=b;unfold iM at h;dsimp only at h;cases q:Z[j]? with
  |none=>rw[q] at h;cases h
  |some c=>
   rw[q] at h;cases c with
   |Yu m=>have e:=S7 h;cases e;obtain⟨ws,g,f⟩:=s.ZD i a _ ha q;exact⟨q,a,ws,ha,rfl,g,f⟩
   |_=>cases h
def ke (Ti:List (cT×SV)) (k:cT):Option SV:=(Ti.find? fun a=>decide (a.1=k)).map (·.2)
def kF (Ti:List (cT×SV)) (k:cT) (x:SV):List (cT×SV):=
 if(Ti.any fun a=>decide (a.1=k))=Sz then Ti.map (fun a=>if a.1=k then(a.1,x) else a) else Ti++[(k,x)]
def nV (Ti:List (cT×SV)) (k:cT):List (cT×SV):=Ti.filter fun a=>decide (a.1≠k)
theorem rL:∀{ws:List (cT×V)} {Ti:List (cT×SV)},w9 O K H Y ws Ti->(∀x,ke Ti k=lD x->∃v,kQ ws k=lD v/\VY O K H Y v x)/\(ke Ti k=Sw->kQ ws k=Sw)
 |_,_,.nil=>⟨fun x e=>(by cases e),fun _=>rfl⟩
 |(a,u)::ws,(b,y)::Ti,.cons ⟨h1,h2⟩ t=>by
  cases h1;unfold ke kQ;rw[TQ,TQ];by_cases e:a=k
  .simp only[decide_eq_true e];exact⟨fun x h=>⟨u,rfl,by cases h;exact h2⟩,fun h=>by cases h⟩
  .simp only[decide_eq_false e];exact rL t
theorem P4:∀{ws:List (cT×V)} {Ti:List (cT×SV)},w9 O K H Y ws Ti->(ws.any fun kv=>decide (kv.1=k))=Ti.any fun kv=>decide (kv.1=k)
 |_,_,.nil=>rfl
 |(a,u)::ws,(b,y)::Ti,.cons ⟨h1,h2⟩ t=>by cases h1;rw[Wk,Wk,P4 t]
theorem Pc (f:VY O K H Y v x):∀{ws:List (cT×V)} {Ti:List (cT×SV)},w9 O K H Y ws Ti->w9 O K H Y (ws.map (fun kv=>if kv.1=k then(kv.1,v) else kv)) (Ti.map (fun kv=>if kv.1=k then(kv.1,x) else kv))
 |_,_,.nil=> .nil
 |(a,u)::ws,(b,y)::Ti,.cons ⟨h1,h2⟩ t=>by
  cases h1;rw[S6,S6];by_cases e:a=k
  .rw[if_pos e,if_pos e];exact .cons ⟨rfl,f⟩ (Pc f t)
  .rw[if_neg e,if_neg e];exact .cons ⟨rfl,h2⟩ (Pc f t)
theorem FP (h:w9 O K H Y ws Ti) (r:p.1=q.1/\VY O K H Y p.2 q.2):w9 O K H Y (ws++[p]) (Ti++[q]):=by
 induction h with
 |nil=>exact .cons r .nil
 |cons a _ b=>exact .cons a b
theorem Cr (a:VY O K H Y v x) (h:w9 O K H Y ws Ti):w9 O K H Y (jN ws k v) (kF Ti k x):=by
 unfold jN kF;rw[P4 h];split
 .exact Pc a h
 .exact FP h ⟨rfl,a⟩
theorem sT:∀{ws:List (cT×V)} {Ti:List (cT×SV)},w9 O K H Y ws Ti->w9 O K H Y (pi ws k) (nV Ti k)
 |_,_,.nil=> .nil
 |(a,u)::ws,(b,y)::Ti,.cons ⟨h1,h2⟩ t=>by
  cases h1;unfold pi nV;rw[Xg,Xg];by_cases e:a=k
  .have z:decide (a≠k)=SN:=decide_eq_false fun n=>n e;simp only[z];exact sT t
  .have z:=decide_eq_true e;simp only[z];exact .cons ⟨rfl,h2⟩ (sT t)
def yP (neg:Bool) (a fd:ef):ef:=fun ρ Z=>(a ρ Z).bind fun x Z1=>(fd ρ Z1).bind fun o X=>(RS.TX X (uE x)).bind fun k X=>(RS.TX X (iM X o)).bind fun p X=> .ok (.fz (.bool ((ke p.2 k).isSome !=neg))) X
theorem GU (h:w9 O K H Y ws Ti):(kQ ws k).isSome=(ke Ti k).isSome:=by
 obtain⟨b,a⟩:=rL h;cases q:ke Ti k with
 |none=>rw[a q];rfl
 |some x=>obtain⟨u,e,_⟩:=b x q;rw[e];rfl
theorem LF (p:cW K E tk fk) (hd:cW K E td fd):cW K E (QO tk td) (yP SN fk fd):=by intro B S H Y Z ρ Q s e w;refine p B S H Y Z ρ _ s e (w.bind.imp fun x U Z1 R t h g v m=> ?_);refine hd B S R U Z1 ρ _ h (e.Vm t) (g.bind.imp fun o T X P y f b u n=> ?_);obtain⟨k,l,b⟩:=WS.TX b;obtain⟨⟨i,Ti⟩,j,b⟩:=WS.TX b;obtain⟨_,a,ws,ha,rfl,r,q⟩:=og f n j;refine⟨a,kQ ws k,rfl,by rw[rN l m];exact ZQ.k r,?_⟩;rw[GU q];refine WS.now f b _ ?_;rw[Bool.bne_false];exact .bl _
def vx (fd a:ef):ef:=fun ρ Z=>(fd ρ Z).bind fun o Z1=>(a ρ Z1).bind fun x X=>(RS.TX X (uE x)).bind fun k X=>(RS.TX X (iM X o)).bind fun p X=>RS.TX X (ke p.2 k)
theorem yu (hd:cW K E td fd) (t:cW K E tk fk):cW K E (MG td tk) (vx fd fk):=by
 intro B S H Y Z ρ Q s e w;refine hd B S H Y Z ρ _ s e (w.bind.imp fun o U Z1 R G j g u r=> ?_);refine t B S R U Z1 ρ _ j (e.Vm G) (g.bind.imp fun x T X P F f b v p=> ?_);obtain⟨k,m,b⟩:=WS.TX b;obtain⟨⟨i,Ti⟩,l,b⟩:=WS.TX b;obtain⟨_,a,ws,ha,rfl,C,A⟩:=og f (r.Vm F) l;dsimp only at b;cases q:ke Ti k with
 |none=>rw[q] at b;exact b.elim
 |some y=>rw[q] at b;obtain⟨z,n,h⟩:=(rL A).1 y q;exact⟨a,z,rfl,by rw[rN m p,<-n];exact ZQ.k C,WS.now f b z h⟩
def yh (fd e b:ef):fC:=fun ρ Z=>(b ρ Z).bind fun y Z1=>(fd ρ Z1).bind fun o X=>(e ρ X).bind fun x a=>(RS.TX a (uE x)).bind fun k a=>(RS.TX a (iM a o)).bind fun p a=>if p.2.length<1000000 then .ok (.nx ρ) (a.set p.1 (.Yu (kF p.2 k y))) else .bad
theorem FX (hd:cW K E td fd) (hk:cW K E tk fk) (hv:cW K E tv fv):pw K E (M7 td tk tv) (yh fd fk fv):=by
 intro B S H Y Z ρ D s f w;refine hv B S H Y Z ρ _ s f (WS.imp (WS.bind w) fun y U Z1 R q L I t m=> ?_);refine hd B S R U Z1 ρ _ L (f.Vm q) (WS.imp (WS.bind I) fun o T X P p J G u hu=> ?_);refine hk B S P T X ρ _ J (f.Vm (q.trans p)) (WS.imp (WS.bind G) fun x b g j n A e z Q=> ?_);obtain⟨k,N,e⟩:=WS.TX e;obtain⟨⟨i,Ti⟩,M,e⟩:=WS.TX e;obtain⟨l,a,ws,ha,rfl,g1,C⟩:=og A (hu.Vm n) M;dsimp only at e;by_cases hn:Ti.length<1000000
 .rw[if_pos hn] at e;have ev:Ev (ow B b g) j (ow B b g) (bJ j a (.dK (jN ws k t))):=pX ha l (by intro z;cases z);have F:UW b g j b (g.set i (.Yu (kF Ti k y))) (bJ j a (.dK (jN ws k t))):=UW.put ha l (by intro z;cases z) (by intro z;cases z);have hl:=Paired.length C;refine⟨a,_,rfl,by rw[rN N Q];exact ab6.k g1 (ut (by omega)),?_⟩;exact e b _ F (A.put ha l (by intro z;cases z) (by intro z;cases z) ⟨_,aR,Cr ((m.Vm (p.trans n)).ev ev fun _ _ h=>h) (Paired.W0 C fun _ _ r=>⟨r.1,r.2.ev ev fun _ _ h=>h⟩)⟩) S ((f.Vm (q.trans (p.trans n))).Vm F)
 .rw[if_neg hn] at e;exact e.elim
def zz (fd a:ef):ef:=fun ρ Z=>(fd ρ Z).bind fun o Z1=>(RS.TX Z1 (iM Z1 o)).bind fun _ Z1=>(a ρ Z1).bind fun x X=>(RS.TX X (uE x)).bind fun k X=>(RS.TX X (iM X o)).bind fun p X=>(RS.TX X (ke p.2 k)).bind fun y X=> .ok y (X.set p.1 (.Yu (nV p.2 k)))
theorem Fr (hd:cW K E td fd) (L:cW K E tk fk):cW K E (Hq td tk) (zz fd fk):=by intro B S H Y Z ρ Q s j w;refine hd B S H Y Z ρ _ s j (w.bind.imp fun o U Z1 R e1 m f u n=> ?_);obtain⟨⟨i0,afc⟩,G,f⟩:=WS.TX f;obtain⟨_,a,e,_,rfl,N,_⟩:=og m n G;refine⟨a,rfl,.inl ⟨e,.inl N⟩,?_⟩;refine L B S R U Z1 ρ _ m (j.Vm e1) (f.bind.imp fun x T X P e2 l b v J=> ?_);obtain⟨k,F,b⟩:=WS.TX b;obtain⟨⟨i,Ti⟩,C,b⟩:=WS.TX b;obtain⟨g,a',ws,ha,ea,M,p⟩:=og l (n.Vm e2) C;cases ea;dsimp only at b;obtain⟨y,q,b⟩:=WS.TX b;obtain⟨z,I,A⟩:=(rL p).1 y q;have ev:Ev (ow B T X) P (ow B T X) (bJ P a (.dK (pi ws k))):=pX ha g (by intro z;cases z);have t:UW T X P T (X.set i (.Yu (nV Ti k))) (bJ P a (.dK (pi ws k))):=UW.put ha g (by intro z;cases z) (by intro z;cases z);refine⟨ws,k,z,M,rN F J,I,?_⟩;exact b T _ t (l.put ha g (by intro z;cases z) (by intro z;cases z) ⟨_,aR,sT (Paired.W0 p fun _ _ r=>⟨r.1,r.2.ev ev fun _ _ h=>h⟩)⟩) z (A.Vm t)
theorem oj (s:Tz B K H Y Z) (a:H p=Sw) (w:WS K E B H Y Z (PQ B K Q) (.ok (.rf Z.length) (Z++[c]))) (f:∀e:UW Y Z H (Y++[p]) (Z++[c]) (bJ H p o),COk (ow B (Y++[p]) (Z++[c])) K (bJ H p o) (Y++[p]) p c):Q (.ref p) (bJ H p o):=by have b:UP H (bJ H p o):=cy a _;have e:UW Y Z H (Y++[p]) (Z++[c]) (bJ H p o):=UW.aan s.len b a;exact w _ _ e (s.aan b a (by rw[aR];simp) (f e)) _ ⟨p,by rw[<-s.len];exact aW,rfl⟩
def B5 (fd:ef):ef:=fun ρ Z=>(fd ρ Z).bind fun o Z1=>(RS.TX Z1 (iM Z1 o)).bind fun p Z1=> .ok (.rf Z1.length) (Z1++[.lst (p.2.map (·.2))])
theorem yr:∀{ws:List (cT×V)} {Ti:List (cT×SV)},w9 O K H Y ws Ti->Vy O K H Y (ws.map (·.2)) (Ti.map (·.2))
 |_,_,.nil=> .nil
 |_,_,.cons h t=> .cons h.2 (yr t)
theorem zK (hd:cW K E td fd):cW K E (GV Ft (gP (Qf K "dict" MW td) lY)) (B5 fd):=by intro B S H Y Z ρ Q s m w;refine hd B S H Y Z ρ _ s m (w.bind.imp fun o U Z1 R F h f u t=> ?_);obtain⟨⟨i,Ti⟩,q,f⟩:=WS.TX f;obtain⟨C,a,ws,ha,rfl,g,A⟩:=og h t q;refine⟨.inr (.inr (.inl ⟨rfl,.inl ⟨ws,g⟩⟩)),a,ws,rfl,rfl,g,fun p y=> ?_⟩;have b:UP R (bJ R p (Q7 p a)):=cy y _;have n:=h.grow b;have j:=WS.from (UW.same b) f;refine⟨p,a,ws,rfl,aR,b _ _ g,fun l z=> ?_⟩;refine oj n z j fun e=>⟨_,aR,yr (Paired.W0 A fun _ _ r=>⟨r.1,(r.2.Vm (UW.same b)).Vm e⟩)⟩
def Bt:cT->Option Int
 | .inl i=>lD i
 | .inr _=>Sw
def vW (fd:ef):ef:=fun ρ Z=>(fd ρ Z).bind fun o Z1=>(RS.TX Z1 (iM Z1 o)).bind fun p Z1=>(RS.TX Z1 (aI Bt (p.2.map (·.1)))).bind fun a Z1=>if a.length<64 then .ok (.rf Z1.length) (Z1++[.lst ((lU a).map fun i=>SV.fz (.int i))]) else .bad
theorem sC:∀{ks:List cT} {ns:List Int},aI Bt ks=lD ns->ks=ns.map Sum.inl
 |[],_,e=>by cases e;rfl
 |k::r,ns,e=>by
  unfold aI at e;cases k with
  |inr x=>cases e
  |inl i=>
   dsimp only[Bt] at e;cases q:aI Bt r with
   |none=>rw[q] at e;cases e
   |some a=>rw[q] at e;cases e;rw[S6,<-sC q]
theorem yy:∀{ws:List (cT×V)} {Ti:List (cT×SV)},w9 O K H Y ws Ti->ws.map (·.1)=Ti.map (·.1)
 |_,_,.nil=>rfl
 |_,_,.cons h t=>by rw[S6,S6,h.1,yy t]
theorem Dj (O:cw) (K:Ld) (H:Hp) (Y:List SI):∀ns:List Int,Vy O K H Y (ns.map V.int) (ns.map fun i=>SV.fz (.int i))
 |[]=> .nil
 |n::r=> .cons (.int n) (Dj O K H Y r)
theorem zw (hd:cW K E td fd):cW K E (GV GS (gP td lY)) (vW fd):=by
 intro B S H Y Z ρ Q s h w;refine hd B S H Y Z ρ _ s h (w.bind.imp fun o U Z1 R F g b u n=> ?_);obtain⟨⟨i,Ti⟩,m,b⟩:=WS.TX b;obtain⟨A,a,ws,ha,rfl,y,t⟩:=og g n m;obtain⟨f,j,b⟩:=WS.TX b;by_cases hn:f.length<64
 .rw[if_pos hn] at b;refine⟨a,ws,f,rfl,y,by rw[yy t];exact sC j,hn,fun l C r q p=> ?_⟩;have z:=mz (q.trans (fK f).symm) p (eV f);subst z;exact oj g r b fun e=>⟨_,aR,Dj _ _ _ _ _⟩
 .rw[if_neg hn] at b;exact b.elim
def tm:D->Option (cT×SV)
 | .tuple [.int i,d]=>lD (.inl i,.fz d)
 | .tuple [.str x,d]=>lD (.inr x,.fz d)
 |_=>Sw
def v3:SV->Option (List (cT×SV))
 | .fz (.tuple ds)=>aI tm ds
 |_=>Sw
theorem DN (e:v3 x=lD ps):∃ds,x= .fz (.tuple ds)/\aI tm ds=lD ps:=by
 unfold v3 at e;split at e
 .exact⟨_,rfl,e⟩
 .cases e
def nF (Ti a:List (cT×SV)):List (cT×SV):=a.foldl (fun b e=>kF b e.1 e.2) Ti
def yZ (fe:ef):ef:=fun ρ Z=>(fe ρ Z).bind fun x Z1=>(RS.TX Z1 (v3 x)).bind fun ps Z1=> .ok (.rf Z1.length) (Z1++[.Yu (nF [] ps)])
theorem zq:∀{vs:List V} {ds:List D} {ps:List (cT×SV)},L3.US O K H vs ds->aI tm ds=lD ps->∃Ti,ZE K H vs Ti/\w9 O K H Y Ti ps
 |_,_,_,.nil,e=>by cases e;exact⟨[],.nil,.nil⟩
 |_,_,_,.cons (d:=d) (ds:=ds) h t,e=>by
  unfold aI at e;cases q:tm d with
  |none=>rw[q] at e;cases e
  |some p=>
   rw[q] at e;dsimp only at e;cases q2:aI tm ds with
   |none=>rw[q2] at e;cases e
   |some ps=>
    rw[q2] at e;cases e;obtain⟨Ti,i,g⟩:=zq t q2;unfold tm at q;split at q
    .cases q
     cases h with
     |tup h f=>cases f with
      |cons a b=>cases b with
       |cons b c=>cases c;cases a;exact⟨(.inl _,_)::Ti,.cons h.1 i,.cons ⟨rfl,b⟩ g⟩
    .cases q
     cases h with
     |tup h f=>cases f with
      |cons a b=>cases b with
       |cons b c=>cases c;cases a;exact⟨(.inr _,_)::Ti,.cons h.1 i,.cons ⟨rfl,b⟩ g⟩
    .cases q
theorem C0:∀{e:List (cT×V)} {f:List (cT×SV)} {ws:List (cT×V)} {Ti:List (cT×SV)},w9 O K H Y e f->w9 O K H Y ws Ti->w9 O K H Y (p9 ws e) (nF Ti f)
 |_,_,_,_,.nil,h=>h
 |(a,u)::e,(b,y)::f,_,_,.cons r t,h=>by obtain⟨i,g⟩:=r;cases i;show w9 O K H Y (p9 (jN _ a u) e) (nF (kF _ a y) f);exact C0 t (Cr g h)
theorem Iy (n:cW K E te fe):cW K E (GV (FL K) (gP te lY)) (yZ fe):=by
 intro B S H Y Z ρ Q s f w;refine n B S H Y Z ρ _ s f (w.bind.imp fun x U Z1 R p g b u l=> ?_);obtain⟨ps,q,a⟩:=WS.TX b;obtain⟨ds,rfl,q⟩:=DN q;have a:=a;cases l with
 |tup h m=>obtain⟨Ti,j,i⟩:=zq m q;exact⟨_,_,Ti,rfl,h.1,j,fun d o=>oj g o a fun e=>⟨_,aR,C0 (Paired.W0 i fun _ _ r=>⟨r.1,r.2.Vm e⟩) .nil⟩⟩
end
end L10
namespace PySem
open PyProof.Rows
def mK:Option Int->Int->Option Int
 |none,x=>lD x
 |some m,x=>lD (if x>m then x else m)
def Qr:Option (Int×Tok)->Array Sx
 |none=> #[]
 |some (m,t)=> #[.int m t,.int m t]
def Nc (d:Sx):Option (Int×Tok)->Sx
 |none=>d
 |some (m,t)=> .int m t
namespace F
theorem args_maxd (a b:Sx):checkBuiltinCall "max" ⟨[a],[("default",b)]⟩=pure ():=by kernel_rfl
end F
section
variable {prog:Te} {w:TF} {A:Tw} {E:Sx->SK->Prop} {R:ZG->SK->Prop} {I l S:SI} {vs:List Sx} {d:Sx}
theorem Lc (hh:A.handled=Sw) (Yx:l≠I) (r:S≠I) (Q:S≠l) {s:SK}:
  ∀{B:List Sx} {ns:List Int},IntsAre B ns->∀(i:Nat) (h:Heap) (M:Nat) (b:Option (Int×Tok)) (c:Nat),vs=vs.take i++B->i<=vs.length->h.IsListIter I l i->h.IsList l vs.toArray->h.get? S=lD {cls:= .type "list",dict:=Sw,data:= .seq (Qr b) c,slots:= #[]}->
  (∀h' M b',b'.map (·.1)=ns.foldl mK (b.map (·.1))->(∀a o,a≠I->a≠S->h.get? a=lD o->h'.get? a=lD o)->R (.ok (.ret (Nc d b'))) {s with heap:=h',toks:=M})->
  codeAny (model prog w) A (.builtin "max.loop" ⟨[.ref I,.none,.ref S],[("default",d)]⟩) R {s with heap:=h,toks:=M}:=by
 have W:=Walks.list (prog:=prog) (w:=w) (A:=A.in1) hh I l Yx vs.toArray;intro B ns hi
 induction hi with
 |nil=>
  intro i h M b c u hi it li T L;have e:i=vs.toArray.size:=by rw[Tr] at u;have:=congrArg XU u;rw[UT] at this;rw[S8];omega
  refine V3 F.entry_max_loop ?_;rw[Tw.under_plainId F.plain_max_loop _];refine Sv (UA T rfl ?_);refine Sv (YE (W.done _ _ _ (e▸⟨it,li⟩) fun h' g y=> ?_));have f:=y S _ (by simpa using r) T;cases b with
  |none=>refine Sv (W7 (SQ ?_));exact L h' g Sw rfl fun a o j z e=>y a o (by simpa using j) e
  |some p=>obtain⟨m,t⟩:=p;refine Sv (aah f rfl (Sv (VN (SQ ?_))) (hz:=by show 2<=SY;decide));exact L _ g (lD (m,t)) rfl fun a o j z e=>(Heap.get?_update_other _ _ (Ne.symm z)).trans (y a o (by simpa using j) e)
 | @cons n t aiH afh hr ih=>
  intro i h M b c u hi it li T L;have WO:i<vs.toArray.size:=by have:=congrArg XU u;rw[SH,UT,S3] at this;rw[S8];omega
  have O:vs[i]? =lD (.int n t):=by rw[u,TC (by rw[UT];omega),UT,Nat.min_eq_left hi,aeU];rfl
  have C:vs=vs.take (i+1)++aiH:=by rw[U5,O];rw[Tg];exact u
  have G:i+1<=vs.length:=by rw[S8] at WO;exact WO
  refine V3 F.entry_max_loop ?_;rw[Tw.under_plainId F.plain_max_loop _];refine Sv (UA T rfl ?_);refine Sv (YE (W.item i _ _ _ WO ⟨it,li⟩ fun v h' g hP K y=> ?_));have ev:v= .int n t:=by have U:=hP;rw[List.getElem?_toArray,O] at U;exact(S7 U).symm
  subst ev;have f:=y S _ (by simpa using r) T;have J:(toString "max"++toString ".loop":String)= "max.loop":=by decide
  cases b with
  |none=>
   show wpAny _ A.in1 (updateSeq S (fun _=> #[Sx.int n t,Sx.int n t])>>=_) _ _ _;refine Sv (aah f rfl ?_);rw[J];refine SQ ⟨VZ F.plain_max_loop _,ih (i+1) _ g (lD (n,t)) _ C G (K.1.at fun o e=> ?_) (K.2.at fun o e=> ?_) (Heap.get?_update_self _ f rfl) fun z q Y X N=>L z q Y X fun a o j H e=>N a o j H ((Heap.get?_update_other _ _ (Ne.symm H)).trans (y a o (by simpa using j) e))⟩
   .exact(Heap.get?_update_other _ _ r).trans e
   .exact(Heap.get?_update_other _ _ Q).trans e
  |some p=>
   obtain⟨m,Z⟩:=p;show wpAny _ A.in1 (tryCatch (holding [Sx.int n t,Sx.int n t] (richCompare .Gt (Sx.int n t) (Sx.int m Z)>>=_)) _>>=_) _ _ _;have ahw:=CmpOf.ints_gt (prog:=prog) (w:=w) (A:=A.in1) (P:=fun(k:Nat) v=>(k=0/\v=Sx.int n t)\/(k=1/\v=Sx.int m Z)) (fun k=>if k=0 then n else m) fun k v u=>by
    rcases u with⟨rfl,rfl⟩|⟨rfl,rfl⟩
    .exact⟨t,rfl⟩
    .exact⟨Z,rfl⟩
   refine Sv (YE (UK (Sv (ahw 0 1 _ _ _ _ _ (.inl ⟨rfl,rfl⟩) (.inr ⟨rfl,rfl⟩) ?_))));refine Sv (UK (UQ ?_));refine Sv (VN (SQ ?_));show wpAny _ A.in1 (if decide (n>m)=Sz then _ else _) _ _ _;by_cases hb:n>m
   .rw[if_pos (decide_eq_true hb)]
    refine Sv (aah f rfl (Sv (VN ?_)) (hz:=by show 2<=SY;decide));rw[J];refine SQ ⟨VZ F.plain_max_loop _,ih (i+1) _ g (lD (n,t)) _ C G (K.1.at fun o e=> ?_) (K.2.at fun o e=> ?_) (Heap.get?_update_self _ f rfl) fun z q Y X N=>L z q Y ?_ fun a o j H e=>N a o j H ((Heap.get?_update_other _ _ (Ne.symm H)).trans (y a o (by simpa using j) e))⟩
    .exact(Heap.get?_update_other _ _ r).trans e
    .exact(Heap.get?_update_other _ _ Q).trans e
    .rw[X];show _=afh.foldl mK (lD (if n>m then n else m));rw[if_pos hb];rfl
   .rw[if_neg (by rw[decide_eq_false hb];exact S9)];refine Sv (VN ?_);rw[J];refine SQ ⟨VZ F.plain_max_loop _,ih (i+1) _ g (lD (m,Z)) c C G K.1 K.2 f fun z q Y X N=>L z q Y ?_ fun a o j H e=>N a o j H (y a o (by simpa using j) e)⟩;rw[X];show _=afh.foldl mK (lD (if n>m then n else m));rw[if_neg hb];rfl
theorem EU (n:A.handled=Sw) (g:s.heap.IsList l vs.toArray) (hi:IntsAre vs ns)
  (q:∀h' tk b,b.map (·.1)=ns.foldl mK Sw->(∀a o,s.heap.get? a=lD o->h'.get? a=lD o)->Q (Nc d b) {s with heap:=h',toks:=tk}):
  wpAny (model prog w) A (call (.builtin "max") [.ref l] [("default",d)]) Q E s:=by
 have j:l<s.heap.objs.size:=by obtain⟨_,e,_⟩:=g;exact Heap.lt_size e
 have h:(toString "max"++toString ".loop":String)= "max.loop":=by decide
 refine X5 (WA F.plain_max F.entry_max (ZY (F.args_maxd _ _) ?_));refine Sv (ZY (show Ua.Builtins.bindParams "max" ["key","default"] 0 ⟨[],[("default",d)]⟩=pure [Sw,lD d] from rfl) ?_);refine Sv (SQ ?_);refine Sv (WM g ?_);refine Sv (UR ?_);rw[h];have f:(s.heap.push {cls:= .type "list_iterator",data:= .fields #[.ref l,.int 0 0]}).objs.size=s.heap.objs.size+1:=Heap.size_push _ _;refine SQ ⟨VZ F.plain_max_loop _,Lc n (Th j) (by rw[f];exact Nat.succ_ne_self _) (by rw[f];exact Ul (W3 j)) hi 0 _ s.toks Sw 0 rfl (T5 _) ⟨_,Heap.get?_push_of_some _ (Heap.get?_push_size _ rfl),rfl,rfl⟩ ((g.push _).push _) (Heap.get?_push_size _ rfl) fun h' tk b p m=> ?_⟩;refine q h' tk b p fun a o e=> ?_;have i:=Heap.lt_size e;exact m a o (Th i) (by rw[f];exact Th (W3 i)) (Heap.get?_push_of_some _ (Heap.get?_push_of_some _ e))
end
end PySem
namespace L10
open PySem PySem.Spec PyProof.Rows L2 L3
def MN (K:Ld) (i:Int):List V->Hp->VK->Prop:=fun xs H Q=>∃(p:SI) (a:List Int),xs=[.ref p]/\Xp K H p (a.map V.int)/\Q (.int ((a.foldl mK Sw).getD i)) H
theorem B2 (C:X.calm=Sz) (B:Gl X "max") (hm:X.mg "max"=Sw) (ha:PA X [l] ta) (g:QQ l=SN:=by rfl):
  PE X (.Call (.Name "max" p) [l] [⟨lD "default",.Constant (.int i) j p1,p2⟩] pos) (GV (MN X.K i) ta):=by
 intro e s n H Q I h;refine V7 (pR I B hm zZ (callWith_kw (cO (ha pos e s n H _ I h) fun G o ⟨vs,F,f,v,w⟩=> ?_) (by rw[ve _ _ _ g];rfl) (by rw[ve _ _ _ g];rfl) rfl rfl));obtain⟨a,y,rfl,z,q⟩:=w;obtain⟨u,rfl,r⟩:=kE v;cases r;obtain⟨N,rv,pl,L⟩:=f.list z;refine afR (adx (afS ?_));have O:=f.tok (o.toks+1);refine EU (f.ok.hd C) pl.isList (j4 rv) fun M J b E A=> ?_;refine⟨.int ((y.foldl mK Sw).getD i),F,f.kept A,?_,q⟩;rw[<-E];cases b with
 |none=>exact⟨_,rfl⟩
 |some p=>obtain⟨m,t⟩:=p;exact⟨t,rfl⟩
def Gj (i:Int):List D->Option RV
 |[.list ds]=>(kM ds).map fun a=> .fz (.int ((a.foldl mK Sw).getD i))
 |_=>Sw
theorem Dm {K:Ld}:G5 K (MN K i) (Gj i):=by
 intro O H xs ds rv Q n f e q;unfold Gj at e;split at e
 .rename_i m
  cases f with
  |cons l j=>
   cases j;cases qa:kM m with
   |none=>rw[qa] at e;cases e
   |some b=>rw[qa] at e;cases e;obtain⟨a,vs,rfl,h,g⟩:=Er l;obtain rfl:=mH g qa;exact⟨a,b,rfl,h.sq,q.at (.int _)⟩
 .cases e
end L10
namespace L10
open PySem L2 L3
section
variable {B O O':cw} {K:Ld} {E:XK} {H H' H1 H2:Hp} {X Y T α2:List SI} {Z U Z1 Z2:bh} {σ:L2.St} {ρ:bA} {v:V}
theorem hJ {l r:List A} (h:(l++r)[i]? =lD y):l[i]? =lD y\/∃j,i=l.length+j/\r[j]? =lD y:=by
 by_cases hi:i<l.length
 .rw[S1 hi] at h;exact .inl h
 .rw[TC (by omega)] at h;exact .inr ⟨i - l.length,by omega,h⟩
theorem LR {l r:List A} {i:Nat} (h:l[i]? =lD y):(l++r)[i]? =lD y:=by rw[S1 (SD.mp h).1];exact h
theorem Gn {l r:List A} (h:r[i]? =lD y):(l++r)[l.length+i]? =lD y:=by rw[TC (by omega),Xm];exact h
theorem Jg (g:X.length=Z.length) (h:Lv (X++ps) (Z++cs) b):Lv X Z b\/b∈ps:=by
 obtain⟨i,d,f,e,a⟩:=h;rcases hJ f with g1|⟨j,e1,g1⟩
 .rcases hJ e with g2|⟨k,e2,g2⟩
  .exact .inl ⟨i,d,g1,g2,a⟩
  .have:=(SD.mp g1).1;omega
 .exact .inr (Tt g1)
theorem UW.ZR (s:Tz B K H X Z) (e:UP H H') (f:∀p∈ps,H p=Sw):UW X Z H (X++ps) (Z++cs) H':=
 ⟨fun i a h=>LR h,fun b u q _=>e b u q,fun b z=>(Jg s.len z).imp id fun z=>f b z⟩
theorem Tz.ZR (s:Tz B K H X Z) (e:UP H H') (f:∀p∈ps,H p=Sw) (m:∀p∈ps,H' p≠Sw) (nd:∀(i j:Nat) (a:SI),ps[i]? =lD a->ps[j]? =lD a->i=j) (t:ps.length=cs.length)
  (new:∀(i:Nat) (a:SI) (c:Cell),ps[i]? =lD a->cs[i]? =lD c->COk (ow B (X++ps) (Z++cs)) K H' (X++ps) a c):Tz B K H' (X++ps) (Z++cs):=by
 have ev:UW X Z H (X++ps) (Z++cs) H':=UW.ZR s e f;have n:∀b,H b≠Sw->H' b≠Sw:=fun b h z=>h (e.free z);refine⟨by rw[SH,SH,s.len,t],fun i j a g l=> ?_,fun a h=>n a (s.bn a h),fun a h i q=> ?_,fun i a h=> ?_,fun i a d g l=> ?_⟩
 .rcases hJ g with g1|⟨i',e1,g1⟩<;>rcases hJ l with g2|⟨j',e2,g2⟩
  .exact s.nd i j a g1 g2
  .exact absurd (f a (Tt g2)) (s.al i a g1)
  .exact absurd (f a (Tt g1)) (s.al j a g2)
  .have:=nd i' j' a g1 g2;omega
 .rcases hJ q with q|⟨j,_,q⟩
  .exact s.ba a h i q
  .exact s.bn a h (f a (Tt q))
 .rcases hJ h with h|⟨j,_,h⟩
  .exact n a (s.al i a h)
  .exact m a (Tt h)
 .have r:=s.len
  rcases hJ l with g2|⟨j,e2,g2⟩
  .rcases hJ g with g1|⟨k,e1,g1⟩
   .exact(s.ZD i a d g1 g2).ev ev.ev ev.pre fun o q=>e _ _ q
   .have:=(SD.mp g2).1;omega
  .rcases hJ g with g1|⟨k,e1,g1⟩
   .have:=(SD.mp g1).1;omega
   .have:k=j:=by omega
    subst this;exact new k a d g1 g2
def EY (U:bh):Nat->List AV->Option (List AV×List (List D)×List Nat)
 |_,[]=>lD ([],[],[])
 |n,.fz d::r=>match EY U n r with
  |some (l,cs,js)=>lD (.fz d::l,cs,js)
  |none=>Sw
 |n,.rf i::r=>match sh U (.rf i) with
  |some (.list ds)=>(match EY U (n+1) r with
   |some (l,cs,js)=>lD (.rf n::l,ds::cs,i::js)
   |none=>Sw)
  |_=>Sw
def Re (ds:List D):Cell:= .lst (ds.map .fz)
def rE (x:SV) (U Z:bh):RS SV:=match x with
 | .fz d=> .ok (.fz d) Z
 | .rf i=>(match sh U (.rf i) with
  |some (.list ds)=>nv Z (.ow ds)
  |_=> .bad)
 | .tp l=>(match EY U Z.length l with
  |some (l',cs,js)=>if js.Nodup then .ok (.tp l') (Z++cs.map Re) else .bad
  |none=> .bad)
theorem xC (h:sh Z (.rf i)=lD (.list ds)):∃xs,Z[i]? =lD (.lst xs)/\aI ze xs=lD ds:=by
 unfold sh at h;dsimp only at h;cases q:Z[i]? with
 |none=>rw[q] at h;cases h
 |some c=>
  rw[q] at h;cases c with
  |lst xs=>
   dsimp only at h;cases q2:aI ze xs with
   |none=>rw[q2] at h;cases h
   |some a=>rw[q2] at h;cases h;exact⟨xs,rfl,q2⟩
  |_=>cases h
theorem oa (s:Tz B K H X Z) (h:sh Z (.rf i)=lD (.list ds)):∃a vs,X[i]? =lD a/\H a=lD (.lst vs)/\L3.US (ow B X Z) K H vs ds/\ow B X Z a:=by obtain⟨xs,b,f⟩:=xC h;obtain⟨a,ha⟩:=s.at b;obtain⟨vs,j,g⟩:=s.ZD i a _ ha b;exact⟨a,vs,ha,j,lX (dM (R:=VY (ow B X Z) K H X) (fun v x y r e=>AH r e) g f),.inr ⟨i,_,ha,b,by intro z;cases z⟩⟩
theorem HI {o:cw} (s:Tz o K H' Y U):∀{n:Nat} {l u:List AV} {cs:List (List D)} {g:List Nat} {xs:List V},EY U n l=lD (u,cs,g)->Paired (AOk (ow o Y U) K H' Y) xs l->
  ∃ps:List SI,ps.length=g.length/\cs.length=g.length/\(∀(k j:Nat),g[k]? =lD j->∃a ds vs,ps[k]? =lD a/\cs[k]? =lD ds/\Y[j]? =lD a/\H' a=lD (.lst vs)/\L3.US (ow o Y U) K H' vs ds/\ow o Y U a)/\
   ∀(b:List SI),b.length=n->Paired (AOk (ow o Y U) K H' (b++ps)) xs u
 |_,[],_,_,_,_,e,.nil=>by cases e;exact⟨[],rfl,rfl,fun k j h=>by simp at h,fun b _=> .nil⟩
 |n,.fz d::r,u,cs,g,_,e,.cons h t=>by
  unfold EY at e;cases q:EY U n r with
  |none=>rw[q] at e;cases e
  |some p=>obtain⟨I,F,w⟩:=p;rw[q] at e;cases e;obtain⟨ps,C,A,z,y⟩:=HI s q t;exact⟨ps,C,A,z,fun b f=> .cons h (y b f)⟩
 |n,.rf i::r,u,cs,g,_,e,.cons h t=>by
  unfold EY at e;cases qs:sh U (.rf i) with
  |none=>rw[qs] at e;cases e
  |some d=>
   rw[qs] at e;cases d with
   |list ds=>
    dsimp only at e;cases q:EY U (n+1) r with
    |none=>rw[q] at e;cases e
    |some p=>
     obtain⟨I,F,w⟩:=p;rw[q] at e;cases e;obtain⟨ps,C,A,z,y⟩:=HI s q t;obtain⟨a,vs,ha,J,M,L⟩:=oa s qs;refine⟨a::ps,by rw[S3,S3,C],by rw[S3,S3,A],fun k j G=> ?_,fun b f=> ?_⟩
     .cases k with
      |zero=>cases G;exact⟨a,ds,vs,rfl,rfl,ha,J,M,L⟩
      |succ k=>exact z k j (by simpa using G)
     .have N:b++a::ps=(b++[a])++ps:=by simp
      obtain⟨P,m,rfl⟩:=h;rw[ha] at m;cases m;refine .cons ⟨a,by rw[<-f];exact Gn (l:=b) (r:=a::ps) (i:=0) rfl,rfl⟩ ?_;rw[N];exact y (b++[a]) (by rw[SH,f];rfl)
   |_=>cases e
theorem Ey (s:Tz B K H X Z) (w:WS K E B H X Z (PQ B K Q) (rE x U Z)) (e':UW [] [] H Y U H') (G:Tz (ow B X Z) K H' Y U) (J:VY (ow (ow B X Z) Y U) K H' Y v x):Q v H':=by
 have C:=fun b o h=>e'.kp b o h fun⟨i,c,q,_⟩=>by simp at q
 have sub:∀b,ow B X Z b->ow (ow B X Z) Y U b:=fun b z=> .inl z;have fr:=fun i a c R h2 h3=>(e'.lv a ⟨i,c,R,h2,h3⟩).elim (fun⟨i,c,q,_⟩=>by simp at q) id;cases x with
 |fz d=>exact w X H' (UW.same C) (s.grow C) v (DV.ev (Ev.sub sub) J)
 |rf i=>
  unfold rE at w;dsimp only at w;cases qs:sh U (.rf i) with
  |none=>rw[qs] at w;exact w.elim
  |some d=>
   rw[qs] at w;cases d with
   |list ds=>obtain⟨a,vs,ha,R,hd,M⟩:=oa G qs;obtain⟨xs,e,_⟩:=xC qs;obtain⟨a',F,rfl⟩:=J;rw[ha] at F;cases F;exact sI s w C (fr i a _ ha e (by intro z;cases z)) R hd sub M
   |_=>exact w.elim
 |tp l=>
  unfold rE at w;dsimp only at w;cases qg:EY U Z.length l with
  |none=>rw[qg] at w;exact w.elim
  |some p=>
   obtain⟨l',cs,I⟩:=p;rw[qg] at w;dsimp only at w;by_cases hn:I.Nodup
   .rw[if_pos hn] at w
    obtain⟨a,xs,rfl,ht,hl⟩:=J;obtain⟨ps,g1,g2,g3,g4⟩:=HI G qg hl;have A:∀(k:Nat) (b:SI),ps[k]? =lD b->∃j ds vs,I[k]? =lD j/\cs[k]? =lD ds/\Y[j]? =lD b/\H' b=lD (.lst vs)/\L3.US (ow (ow B X Z) Y U) K H' vs ds/\ow (ow B X Z) Y U b:=fun k b hb=>by
     have f:k<I.length:=by rw[<-g1];exact(SD.mp hb).1
     obtain⟨b',ds,vs,e,y,u,m,t,g⟩:=g3 k _ (SM f);rw[hb] at e;cases e;exact⟨_,ds,vs,SM f,y,u,m,t,g⟩
    have nB:∀(j:Nat) (b:SI),Y[j]? =lD b->ow (ow B X Z) Y U b->H b=Sw:=fun j b N M=>by
     rcases M with z|⟨i,c,z1,z2,z3⟩
     .exact absurd N (G.ba b z j)
     .exact fr i b c z1 z2 z3
    have fp:∀p∈ps,H p=Sw:=fun p L=>by obtain⟨k,f⟩:=Wf.mp L;obtain⟨j,ds,vs,e,y,u,m,t,g⟩:=A k p f;exact nB j p u g
    have n:∀b,ow B (X++ps) (Z++cs.map Re) b->ow (ow B X Z) Y U b:=fun b z=>by
     rcases z with z|z
     .exact .inl (.inl z)
     .rcases Jg s.len z with z|z
      .exact .inl (.inr z)
      .obtain⟨k,f⟩:=Wf.mp z;obtain⟨j,ds,vs,e,y,u,m,t,g⟩:=A k b f;exact g
    have ev:=UW.ZR (cs:=cs.map Re) s C fp;refine w (X++ps) H' ev (s.ZR C fp (fun p L=> ?_) (fun i j b hi N=> ?_) (by rw[Sy,g1,g2]) fun i b c hi hc=> ?_) (.ref a) ⟨a,xs,rfl,ht.ev (Ev.sub n),Paired.W0 (g4 X s.len) fun _ _ r=>r.ev (Ev.sub n) fun _ _ h=>h⟩
    .obtain⟨k,f⟩:=Wf.mp L;obtain⟨j,ds,vs,e,y,u,m,t,g⟩:=A k p f;rw[m];simp
    .obtain⟨j1,_,_,S,_,p3,_⟩:=A i b hi;obtain⟨j2,_,_,r1,_,r3,_⟩:=A j b N;have:=G.nd j1 j2 b p3 r3;subst this;have P:=(SD.mp S).1;exact(List.getElem?_inj P hn).mp (S.trans r1.symm)
    .obtain⟨j,ds,vs,e,y,u,m,t,g⟩:=A i b hi;rw[SX,y] at hc;cases hc;exact⟨vs,m,lK _ _ (t.ev (Ev.sub n))⟩
   .rw[if_neg hn] at w;exact w.elim
def vf (F:ji) (n:Nat) (xs:List SV) (Z:bh):RS SV:=if xs.length=n then(match aI ze xs with
 |some ds=>(match F (ds.map .fz) [] with
  | .ok x U=>rE x U Z
  | .er x _=> .er x Z
  | .bad=> .bad)
 |none=> .bad) else .bad
def yO (F:ji) (n:Nat) (fa:yV):ef:=fun ρ Z=>(fa ρ Z).bind fun xs Z1=>g7 (vf F n xs Z1)
theorem Fv (h:∀a,B a->H a≠Sw):Tz B K H [] []:=⟨rfl,fun i j a h=>by simp at h,h,fun a h i=>by simp,fun i a h=>by simp at h,fun i a c h=>by simp at h⟩
theorem C4:∀{xs:List SV} {ds:List D},aI ze xs=lD ds->xs=ds.map .fz
 |[],_,e=>by cases e;rfl
 |x::r,ds,e=>by
  unfold aI at e;cases x with
  |fz d=>
   dsimp only[ze] at e;cases q:aI ze r with
   |none=>rw[q] at e;cases e
   |some a=>rw[q] at e;cases e;rw[S6,<-C4 q]
  |rf i=>cases e
  |tp l=>cases e
theorem Je (s:Tz B K H X Z) (e:Vy (ow B X Z) K H X vs xs) (w:WS K E B H X Z (PQ B K Q) (vf F n xs Z)):dw K n F vs H Q E:=by
 unfold vf at w;by_cases hn:xs.length=n
 .rw[if_pos hn] at w
  refine⟨e.length.trans hn,?_⟩;cases q:aI ze xs with
  |none=>rw[q] at w;exact w.elim
  |some ds=>
   rw[q] at w;dsimp only at w;have l:=C4 q;refine⟨ow B X Z,[],[],ds.map .fz,Fv s.owd,?_,?_⟩
   .rw[l] at e;exact lK _ _ ((IP e).ev (Ev.sub fun b z=>z.elim id fun⟨i,c,q,_⟩=>by simp at q))
   .cases qF:F (ds.map .fz) [] with
    |bad=>rw[qF] at w;exact w.elim
    |ok x U=>rw[qF] at w;exact fun Y H' f j v a=>Ey s w f j a
    |er x U=>
     rw[qF] at w;intro c dx Y H' f j k;have g:=fun b o h=>f.kp b o h fun⟨i,c,q,_⟩=>by simp at q
     exact w c dx X H' (UW.same g) (s.grow g) (XOk.sub (fun b z=> .inl z) k)
 .rw[if_neg hn] at w;exact w.elim
theorem u6 (ha:w6 K E ta fa):cW K E (l6 (dw K n F) [] E0 ta) (yO F n fa):=by intro B σ H X Z ρ Q s b w;refine ha B σ H X Z ρ _ s b (w.bind.imp fun xs T Z1 H1 g e a vs f=> ?_);rw[Tr];exact Je e f (WS.e0 a)
def Qc (F:ji):FN:=fun ds=>match F (ds.map .fz) [] with
 | .ok (.fz d) _=> .ok (.fz d)
 | .ok (.rf i) Z=>(match sh Z (.rf i) with
  |some (.list ds)=> .ok (.ow ds)
  |_=> .bad)
 | .ok (.tp _) _=> .bad
 | .er x _=> .er x
 | .bad=> .bad
theorem Nr (h:qM K n (Qc F) vs H Q E):dw K n F vs H Q E:=by
 obtain⟨u,B,ds,A,G,w⟩:=h;refine⟨u,B,[],[],ds.map .fz,Fv A,lK _ _ (G.ev (Ev.sub fun b z=>z.elim id fun⟨i,c,q,_⟩=>by simp at q)),?_⟩;unfold Qc at w;cases qF:F (ds.map .fz) [] with
 |bad=>rw[qF] at w;exact w.elim
 |er x U=>rw[qF] at w;intro c dx Y H' f j k;exact w c dx H' (fun b o h=>f.kp b o h fun⟨i,c,q,_⟩=>by simp at q) (XOk.sub (fun b z=> .inl z) k)
 |ok x U=>
  rw[qF] at w;intro Y H' f j v m;have g:=fun b o h=>f.kp b o h fun⟨i,c,q,_⟩=>by simp at q
  cases x with
  |fz d=>exact w v H' g (DV.ev (Ev.sub fun b z=> .inl z) m)
  |tp l=>exact w.elim
  |rf i=>
   dsimp only at w;cases qs:sh U (.rf i) with
   |none=>rw[qs] at w;exact w.elim
   |some d=>
    rw[qs] at w;cases d with
    |list I=>obtain⟨a,p,ha,C,y,t⟩:=oa j qs;obtain⟨xs,r,_⟩:=xC qs;obtain⟨J,e,rfl⟩:=m;rw[ha] at e;cases e;refine w a p H' g ((f.lv a ⟨i,_,ha,r,by intro z;cases z⟩).elim (fun⟨i,c,q,_⟩=>by simp at q) id) C (y.ev (Ev.sub fun b z=>z.elim (fun z=> .inl z) fun z=>by rw[z];exact t))
    |_=>exact w.elim
end
def b8 (P:Te) (w:TF) (K:Ld) (mg:Str->Option Sx) (base:Heap) (a:wW) (k:Nat) (C m:Str) (ps:List Str) (sp:Sp):Prop:=
 ∃Ca f fd,Ta K S4 C=lD (lD (.ref Ca))/\Cls K Ca/\Meth K Ca m f/\FnOk P w K mg base a k f fd ps sp/\Binds K fd ps []
def vN (P:Te) (w:TF) (K:Ld) (mg:Str->Option Sx) (base:Heap) (a:wW) (k:Nat) (C:Str) (ps:List Str) (sp:Sp):Prop:=
 ∃Ca f fd,Ta K S4 C=lD (lD (.ref Ca))/\mg C=lD (.ref Ca)/\Mk K Ca f/\FnOk P w K mg base a k f fd ps sp/\Binds K fd ps []
def xu (K:Ld) (C m:Str) (sp:Sp) (E:XK) (b:TE) (t:TA):TE:=fun a H Q=>∃Ca,Ta K S4 C=lD (lD (.ref Ca))/\vY Ca m sp [] E b t a H Q
def A9 (K:Ld) (C:Str) (sp:Sp) (E:XK) (t:TA):TE:=fun a H Q=>∃Ca,Ta K S4 C=lD (lD (.ref Ca))/\zv Ca sp [] E t a H Q
section
variable {X:Cx} {Y:wW} {E:XK} {k j:Nat} {C m:Str} {ps:List Str} {sp:Sp} {o e:T4} {es:List T4} {U:TE} {t:TA} {Z pos p:Pos}
theorem Dz (M:b8 X.prog X.w X.K X.mg X.base Y k C m ps sp) (l:fJ Y X E) (q:U7 j X.A) (r:PE X o U) (ha:PA X (e::es) t) (b:k<=j:=by decide)
  (dR:To (e::es) X.env=(SN,eval e X.env)::To es X.env:=by rfl) (F:(backTo pos (To es X.env)).any (·.1)=SN:=by rfl)
  (n:eval (.Call (.Attribute o m Z) (e::es) [] pos) X.env=(do
   let ov<-eval o X.env
   standAt Z.atName
   let(f,first)<-holding [ov] (getMethod ov m pl)
   callWith pos f first (backTo pos (To (e::es) X.env)) (backToKw pos (keywordEach [] X.env))):=by rfl):PE X (.Call (.Attribute o m Z) (e::es) [] pos) (xu X.K C m sp E U t):=by
 obtain⟨L,f,G,B,z,y,v,u⟩:=M;intro a s i H Q I ⟨J,g,h⟩;rw[B] at g;cases g;exact JI r z y v (q.mono b) u .nil l ha dR F n a s i H Q I h
theorem IQ (M:b8 X.prog X.w X.K X.mg X.base Y k C m ps sp) (l:fJ Y X E) (q:U7 j X.A) (r:PE X o U) (b:k<=j:=by decide)
  (n:eval (.Call (.Attribute o m Z) [] [] pos) X.env=(do
   let ov<-eval o X.env
   standAt Z.atName
   let(f,first)<-holding [ov] (getMethod ov m pl)
   callWith pos f first (backTo pos (To [] X.env)) (backToKw pos (keywordEach [] X.env))):=by rfl):PE X (.Call (.Attribute o m Z) [] [] pos) (xu X.K C m sp E U lY):=by
 obtain⟨J,f,F,B,z,y,v,u⟩:=M;intro a s i H Q I ⟨G,g,h⟩;rw[B] at g;cases g;exact Gh r z y v (q.mono b) u .nil l n a s i H Q I h
theorem HR (M:vN X.prog X.w X.K X.mg X.base Y k C ps sp) (l:fJ Y X E) (n:U7 j X.A) (ha:PA X (e::es) t) (b:k+1<=j:=by decide) (q:Gl X C:=by rfl)
  (F:(C==("__debug__":Str))=SN:=by decide) (r:To (e::es) X.env=(SN,eval e X.env)::To es X.env:=by rfl) (G:(backTo pos (To es X.env)).any (·.1)=SN:=by rfl):
  PE X (.Call (.Name C p) (e::es) [] pos) (A9 X.K C sp E t):=by
 obtain⟨N,f,J,B,z,y,v,u⟩:=M;intro a s i H Q I ⟨L,g,h⟩;rw[B] at g;cases g;exact LJ y v (n.mono b) q z u .nil l ha F r G a s i H Q I h
end
section
variable {K:Ld} {E:XK} {C m:Str} {F:ji} {n:Nat} {to:TE} {Y:TA} {fo:ef} {fa:yV} {L:List Str}
theorem Gm (a:gr K C L) (f:cW K E to fo) (ha:w6 K E Y fa):cW K E (xu K C m (dw K n F) E to Y) (qH C m F n fo fa):=by obtain⟨g,a,_⟩:=a;exact fun B b H α Z ρ Q s e w=>⟨g,a,IA a f ha B b H α Z ρ Q s e w⟩
theorem wL (a:gr K C L) (f:cW K E to fo) (ha:w6 K E Y fa):cW K E (xu K C m (dw K n F) E0 to Y) (a8 C m F n fo fa):=by obtain⟨g,a,_⟩:=a;exact fun B b H α Z ρ Q s e w=>⟨g,a,EB a f ha B b H α Z ρ Q s e w⟩
theorem GB (a:gr K C L) (ha:w6 K E Y fa):cW K E (A9 K C (dw K n F) E Y) (Ez C F n fa):=by obtain⟨f,a,_⟩:=a;exact fun B b H α Z ρ Q s e w=>⟨f,a,KK a ha B b H α Z ρ Q s e w⟩
theorem KH (a:gr K C L) (ha:w6 K E Y fa):cW K E (A9 K C (dw K n F) E0 Y) (vP C F n fa):=by obtain⟨f,a,_⟩:=a;exact fun B b H α Z ρ Q s e w=>⟨f,a,GI a ha B b H α Z ρ Q s e w⟩
end
section
variable {ρ ρ1 ρ2:bA} {Z Z1 Y X Z4:bh} {x y z:SV} {i n:Nat} {d dx dy:D} {ds:List D} {b:Bool}
theorem bj (h:ρ[i]? =lD (lD x)):ao i ρ Z= .ok x Z:=by unfold ao;rw[h]
theorem ah (h:f (bQ ρ)= .ok (.fz d,ρ')):af f ρ Z= .ok (.fz d) Z:=by unfold af;rw[h]
theorem eN (h:f (bQ ρ)= .ok (.ow ds,ρ')):af f ρ Z= .ok (.rf Z.length) (Z++[.lst (ds.map .fz)]):=by unfold af;rw[h];rfl
theorem bZ (h:f (bQ ρ)= .ok (b,ρ')):cr f ρ Z= .ok b Z:=by unfold cr;rw[h]
theorem iE (h:f (bQ ρ)= .ok (ds,ρ')):fM f ρ Z= .ok ds Z:=by unfold fM;rw[h]
theorem d6 (g:e ρ Z= .ok (.rf i) Z1) (h:Z1[i]? =lD (.obj C fs)) (a:fs.lookup f=lD x):aV C f e ρ Z= .ok x Z1:=by unfold aV;rw[g,RS.bind_ok];dsimp only;rw[h];dsimp only;rw[if_pos rfl,a];rfl
theorem dL (ha:fa ρ Z= .ok x Z1) (e:fb ρ Z1= .ok y Y) (a:re f x y Y= .ok z X):lw f fa fb ρ Z= .ok z X:=by unfold lw;rw[ha,RS.bind_ok,e,RS.bind_ok,a]
theorem cJ (h:f dx dy=lD (.fz d)):re f (.fz dx) (.fz dy) Z= .ok (.fz d) Z:=by unfold re;show((RS.TX Z (f dx dy)).bind fun rv Z1=>nv Z1 rv)=_;rw[h];rfl
theorem wH (e:sh Z x=lD dx) (a:sh Z y=lD dy) (h:f dx dy=lD (.fz d)):re f x y Z= .ok (.fz d) Z:=by unfold re;rw[e,a];show((RS.TX Z (f dx dy)).bind fun rv Z1=>nv Z1 rv)=_;rw[h];rfl
theorem Pp (a:sh Z x=Sw\/sh Z y=Sw) (j:qJ 6 Z x=lD dx) (g:qJ 6 Z y=lD dy) (h:f dx dy=lD (.fz d)) (hd:EG d=Sz):re f x y Z= .ok (.fz d) Z:=by
 have e:((RS.TX Z (qJ 6 Z x)).bind fun dx Z1=>(RS.TX Z1 (qJ 6 Z1 y)).bind fun dy Y=>(RS.TX Y (f dx dy)).bind fun rv X=>qW X rv)= .ok (.fz d) Z:=by rw[j];show((RS.TX Z (qJ 6 Z y)).bind fun dy Y=>(RS.TX Y (f dx dy)).bind fun rv X=>qW X rv)=_;rw[g];show((RS.TX Z (f dx dy)).bind fun rv X=>qW X rv)=_;rw[h];show(if EG d=Sz then RS.ok (SV.fz d) Z else RS.bad)=_;rw[if_pos hd]
 unfold re;rcases a with a|a
 .rw[a];exact e
 .rw[a];cases sh Z x<;>exact e
theorem oJ:∀ds:List D,aI ze (ds.map .fz)=lD ds
 |[]=>rfl
 |d::r=>by rw[S6];unfold aI;rw[oJ r];rfl
theorem ez (h:Z[i]? =lD (.lst (ds.map .fz))):sh Z (.rf i)=lD (.list ds):=by unfold sh;dsimp only;rw[h];dsimp only;rw[oJ];rfl
theorem bu (h:fa ρ Z= .ok (.fz (.bool b)) Z1):bN fa ρ Z= .ok b Z1:=by unfold bN;rw[h];rfl
theorem jI (h:fa ρ Z= .ok Sz Z1) (k:fb ρ Z1=r):o0 fa fb ρ Z=r:=by unfold o0;rw[h,RS.bind_ok,if_pos rfl,k]
theorem iC (h:fa ρ Z= .ok SN Z1):o0 fa fb ρ Z= .ok SN Z1:=by unfold o0;rw[h,RS.bind_ok,if_neg S9]
theorem oZ (h:fa ρ Z= .ok Sz Z1):Dr fa fb ρ Z= .ok Sz Z1:=by unfold Dr;rw[h,RS.bind_ok,if_pos rfl]
theorem lH (h:fa ρ Z= .ok SN Z1) (k:fb ρ Z1=r):Dr fa fb ρ Z=r:=by unfold Dr;rw[h,RS.bind_ok,if_neg S9,k]
theorem xU (h:fa ρ Z= .ok b Z1):yE fa ρ Z= .ok (!b) Z1:=by unfold yE;rw[h];rfl
theorem vR (h:bN fa ρ Z= .ok Sz Z1) (k:fb ρ Z1=r):A8 fa fb ρ Z=r:=by unfold A8;rw[h,RS.bind_ok,if_pos rfl,k]
theorem Ec (h:bN fa ρ Z= .ok SN Z1):A8 fa fb ρ Z= .ok (.fz (.bool SN)) Z1:=by unfold A8;rw[h,RS.bind_ok,if_neg S9]
theorem KO (h:c ρ Z= .ok Sz Z1) (k:fa ρ Z1=r):Ph c fa fb ρ Z=r:=by unfold Ph;rw[h,RS.bind_ok,if_pos rfl,k]
theorem KQ (h:c ρ Z= .ok SN Z1) (k:fb ρ Z1=r):Ph c fa fb ρ Z=r:=by unfold Ph;rw[h,RS.bind_ok,if_neg S9,k]
theorem aM:aC ρ Z= .ok [] Z:=rfl
theorem aq (ha:fa ρ Z= .ok x Z1) (a:fr ρ Z1= .ok xs Y):aj fa fr ρ Z= .ok (x::xs) Y:=by unfold aj;rw[ha,RS.bind_ok,a,RS.bind_ok]
theorem pz (ha:fa ρ Z= .ok (ds.map .fz) Z1) (a:ds.length<=1000):mP fa ρ Z= .ok (.fz (.tuple ds)) Z1:=by unfold mP;rw[ha,RS.bind_ok,Sy,if_pos a];unfold QX;rw[oJ];rfl
theorem MK (ha:fa ρ Z= .ok xs Z1) (a:xs.length<=1000) (f:aI ze xs=Sw) (e:aI Q1 xs=lD l):mP fa ρ Z= .ok (.tp l) Z1:=by unfold mP;rw[ha,RS.bind_ok,if_pos a];unfold QX;rw[f];dsimp only;rw[e];rfl
theorem nc (ha:fa ρ Z= .ok xs Z1) (a:aI (sh Z1) xs=lD ds) (h:f ds=lD (.fz d)):jT f fa ρ Z= .ok (.fz d) Z1:=by unfold jT;rw[ha,RS.bind_ok];unfold uD;rw[a];show((RS.TX Z1 (f ds)).bind fun rv Z1=>nv Z1 rv)=_;rw[h];rfl
theorem A0 (ha:fa ρ Z= .ok (ds.map .fz) Z1) (hn:ds.length=n) (a:F ds= .ok (.fz d)):jP F n fa ρ Z= .ok (.fz d) Z1:=by unfold jP;rw[ha,RS.bind_ok];unfold yo;rw[Sy,if_pos hn,oJ];dsimp only;rw[a];rfl
theorem xi (ha:fa ρ Z= .ok (ds.map .fz) Z1) (hn:ds.length=n) (a:F ds= .ok (.ow es)):jP F n fa ρ Z= .ok (.rf Z1.length) (Z1++[.lst (es.map .fz)]):=by unfold jP;rw[ha,RS.bind_ok];unfold yo;rw[Sy,if_pos hn,oJ];dsimp only;rw[a];rfl
theorem yU:g7 (RS.ok a Z)= .ok a Z:=rfl
theorem DF (e:fo ρ Z= .ok (.rf i) Z1) (f:Z1[i]? =lD (.obj C fs)) (hm:fs.lookup m=Sw) (ha:fa ρ Z1= .ok xs Y) (hn:(SV.rf i::xs).length=n) (g:F (.rf i::xs) Y= .ok x X):a8 C m F n fo fa ρ Z= .ok x X:=by
 have a:na Z1 C m (.rf i)=Sz:=by unfold na;dsimp only;rw[f];dsimp only;rw[hm,decide_eq_true rfl];rfl
 unfold a8;rw[e,RS.bind_ok,if_pos a,ha,RS.bind_ok,if_pos hn,g];rfl
theorem NW (ha:fa ρ Z= .ok xs Z1) (hn:(SV.rf Z1.length::xs).length=n) (a:F (.rf Z1.length::xs) (Z1++[.obj C []])= .ok (.fz .none) Y):vP C F n fa ρ Z= .ok (.rf Z1.length) Y:=by unfold vP;rw[ha,RS.bind_ok];unfold uW;rw[if_pos hn,a,RS.bind_ok,if_pos (show EF (.fz .none)=Sz from rfl)];rfl
theorem cG (ha:fa ρ Z= .ok (.fz dx) Z1) (a:fb ρ Z1= .ok (.fz dy) Y) (h:bw dx dy=lD (.fz d)):g6 fa fb ρ Z= .ok (.fz d) Y:=by unfold g6;rw[ha,RS.bind_ok,a,RS.bind_ok];exact cJ h
theorem wA (a:fo ρ Z= .ok (.rf i) Z1) (h:Z1[i]? =lD (.lst xs)) (f:fe ρ Z1= .ok x Y) (g:Y[i]? =lD (.lst ys)) (e:ys.length<1000000):kJ fo fe ρ Z= .ok (.fz .none) (Y.set i (.lst (ys++[x]))):=by
 have l:i9 Z1 (.rf i)=lD (i,xs):=by unfold i9;dsimp only;rw[h]
 have j:i9 Y (.rf i)=lD (i,ys):=by unfold i9;dsimp only;rw[g]
 unfold kJ;rw[a,RS.bind_ok,l];show((fe ρ Z1).bind _)=_;rw[f,RS.bind_ok,j];show(if ys.length<1000000 then _ else _)=_;rw[if_pos e]
theorem nZ (h:Z[i]? =lD (.Yu Ti)):iM Z (.rf i)=lD (i,Ti):=by unfold iM;dsimp only;rw[h]
theorem Az (a:fk ρ Z= .ok x Z1) (hd:fd ρ Z1= .ok (.rf i) Y) (f:uE x=lD k) (e:Y[i]? =lD (.Yu Ti)):yP neg fk fd ρ Z= .ok (.fz (.bool ((ke Ti k).isSome !=neg))) Y:=by unfold yP;rw[a,RS.bind_ok,hd,RS.bind_ok,f];show((RS.TX Y (iM Y (.rf i))).bind _)=_;rw[nZ e];rfl
theorem Mh (hd:fd ρ Z= .ok (.rf i) Z1) (a:fk ρ Z1= .ok x Y) (g:uE x=lD k) (f:Y[i]? =lD (.Yu Ti)) (e:ke Ti k=lD y):vx fd fk ρ Z= .ok y Y:=by unfold vx;rw[hd,RS.bind_ok,a,RS.bind_ok,g];show((RS.TX Y (iM Y (.rf i))).bind _)=_;rw[nZ f];show RS.TX Y (ke Ti k)=_;rw[e];rfl
theorem JU (a:fv ρ Z= .ok y Z1) (hd:fd ρ Z1= .ok (.rf i) Y) (f:fk ρ Y= .ok x X) (h:uE x=lD k) (g:X[i]? =lD (.Yu Ti)) (e:Ti.length<1000000):yh fd fk fv ρ Z= .ok (.nx ρ) (X.set i (.Yu (kF Ti k y))):=by unfold yh;rw[a,RS.bind_ok,hd,RS.bind_ok,f,RS.bind_ok,h];show((RS.TX X (iM X (.rf i))).bind _)=_;rw[nZ g];show(if Ti.length<1000000 then _ else _)=_;rw[if_pos e]
theorem Kn (hd:fd ρ Z= .ok (.rf i) Z1) (h:Z1[i]? =lD (.Yu afc)) (a:fk ρ Z1= .ok x Y) (g:uE x=lD k) (f:Y[i]? =lD (.Yu Ti)) (e:ke Ti k=lD y):zz fd fk ρ Z= .ok y (Y.set i (.Yu (nV Ti k))):=by unfold zz;rw[hd,RS.bind_ok,nZ h];show((fk ρ Z1).bind _)=_;rw[a,RS.bind_ok,g];show((RS.TX Y (iM Y (.rf i))).bind _)=_;rw[nZ f];show((RS.TX Y (ke Ti k)).bind _)=_;rw[e];rfl
theorem KJ (hd:fd ρ Z= .ok (.rf i) Z1) (h:Z1[i]? =lD (.Yu Ti)):B5 fd ρ Z= .ok (.rf Z1.length) (Z1++[.lst (Ti.map (·.2))]):=by unfold B5;rw[hd,RS.bind_ok,nZ h];rfl
theorem LV (hd:fd ρ Z= .ok (.rf i) Z1) (h:Z1[i]? =lD (.Yu Ti)) (e:aI Bt (Ti.map (·.1))=lD ns) (a:ns.length<64):vW fd ρ Z= .ok (.rf Z1.length) (Z1++[.lst ((lU ns).map fun i=>SV.fz (.int i))]):=by unfold vW;rw[hd,RS.bind_ok,nZ h];show((RS.TX Z1 (aI Bt (Ti.map (·.1)))).bind _)=_;rw[e];show(if ns.length<64 then _ else _)=_;rw[if_pos a]
theorem KZ (a:fe ρ Z= .ok x Z1) (h:v3 x=lD ps):yZ fe ρ Z= .ok (.rf Z1.length) (Z1++[.Yu (nF [] ps)]):=by unfold yZ;rw[a,RS.bind_ok,h];rfl
variable {fl:FlS} {r:RS FlS}
theorem cS (h:f ρ Z= .ok (.nx ρ1) Z1) (k:g ρ1 Z1=r):aO f g ρ Z=r:=by unfold aO;rw[h,RS.bind_ok];exact k
theorem pZ (h:f ρ Z= .ok (.rt x) Z1):aO f g ρ Z= .ok (.rt x) Z1:=by unfold aO;rw[h];rfl
theorem gK (h:c ρ Z= .ok Sz Z1) (k:f ρ Z1=r):cM c f g ρ Z=r:=by unfold cM;rw[h,RS.bind_ok,if_pos rfl,k]
theorem jR (h:c ρ Z= .ok SN Z1) (k:g ρ Z1=r):cM c f g ρ Z=r:=by unfold cM;rw[h,RS.bind_ok,if_neg S9,k]
theorem gX (h:f ρ Z= .ok x Z1):gL f ρ Z= .ok (.rt x) Z1:=by unfold gL;rw[h];rfl
theorem jm (h:f ρ Z= .ok x Z1):bU f ρ Z= .ok (.nx ρ) Z1:=by unfold bU;rw[h];rfl
theorem lG (h:f ρ Z= .ok x Z1) (e:ρ.set i (lD x)=ρ1):cY f (dY i) ρ Z= .ok (.nx ρ1) Z1:=by subst e;unfold cY;rw[h];rfl
theorem jq:dA ρ Z= .ok (.nx ρ) Z:=rfl
theorem jX (h:fe ρ Z= .ok x Z1) (a:fo ρ Z1= .ok (.rf i) Y) (j:Y[i]? =lD (.obj C fs)) (g:fs.length<100):eS C f fo fe ρ Z= .ok (.nx ρ) (Y.set i (.obj C (eF f x fs))):=by
 have e:Hb Y C (.rf i)=lD (i,fs):=by unfold Hb;dsimp only;rw[j];dsimp only;rw[if_pos rfl]
 unfold eS;rw[h,RS.bind_ok,a,RS.bind_ok,e];show(if fs.length<100 then _ else _)=_;rw[if_pos g]
theorem pI (h:f ρ Z= .ok x Z1) (k:frz 4 Z1 x=lD (d,Y)):oW f ρ Z= .ok (.fz d) Y:=by unfold oW;rw[h,RS.bind_ok];unfold Ko;rw[k]
theorem iW (e:xs.map lD++SS (N - xs.length) Sw=ρ) (h:g ρ Z= .ok (.rt x) Z1):dg N g xs Z= .ok x Z1:=by subst e;unfold dg;rw[h];rfl
theorem oQ (e:xs.map lD++SS (N - xs.length) Sw=ρ) (h:g ρ Z= .ok (.nx ρ1) Z1):dg N g xs Z= .ok (.fz .none) Z1:=by subst e;unfold dg;rw[h];rfl
end
section
variable {ρ ρ1 ρ2:bA} {Z Z1 Y Z3 Z4:bh} {x y z:SV} {i n:Nat} {d dx dy:D} {ds:List D} {b:Bool}
theorem iz (e:α->D) (f:α->SV) (Z:bh) (I:bA->Prop):∀(xs:List α) (ρ:bA) (a:List SV),I ρ->a.length+xs.length<=1000000->(∀x∈xs,∀ρ,I ρ->∃ρ',gt (.fz (e x)) ρ Z= .ok ρ' Z/\ft ρ' Z= .ok Sz Z/\fe ρ' Z= .ok (f x) Z/\I ρ')->ck gt ft fe (xs.map e) ρ Z a= .ok (a++xs.map f) Z
 |[],ρ,a,_,_,_=>by show RS.ok a Z=_;rw[V0,Tr]
 |x::r,ρ,a,h0,hl,hs=>by obtain⟨ρ',m,l,j,h⟩:=hs x S5 ρ h0;rw[S3] at hl;show((gt (.fz (e x)) ρ Z).bind _)=_;rw[m,RS.bind_ok,l,RS.bind_ok,if_pos rfl,j,RS.bind_ok,if_pos (by omega),iz e f Z I r ρ' _ h (by rw[SH,XI];omega) fun y g=>hs y (S2 _ g),Tg];rfl
theorem ig (hi:fi ρ Z= .ok ds Z1) (a:ck gt ft fe ds (e9 n fj ρ) Z1 []= .ok xs Y):eU n fj fi gt ft fe ρ Z= .ok (.rf Y.length) (Y++[.lst xs]):=by unfold eU;rw[hi,RS.bind_ok,a,yU,RS.bind_ok]
theorem rK (m:Nat):∀(ds:List D),km (frz m) Z (ds.map .fz)=lD (ds,Z)
 |[]=>rfl
 |d::r=>by rw[S6];unfold km;rw[show frz m Z (.fz d)=lD (d,Z) by cases m<;>rfl];dsimp only;rw[rK m r]
theorem j8 (h:Z[i]? =lD (.lst (ds.map .fz))):frz 4 Z (.rf i)=lD (.list ds,Z.set i .dead):=by unfold frz;rw[h];dsimp only;rw[rK]
theorem GP (h:fe ρ Z= .ok (.rf i) Z1) (a:Z1[i]? =lD (.lst (ds.map .fz))):fQ fe ρ Z= .ok ds (Z1.set i .dead):=by unfold fQ;rw[h,RS.bind_ok,j8 a];rfl
def Ri (N C:bA->bh->Prop) (T:SV->bh->Prop):RS FlS->Prop
 | .ok (.nx ρ) Z=>N ρ Z
 | .ok (.ct ρ) Z=>C ρ Z
 | .ok (.rt v) Z=>T v Z
 |_=>False
structure Wy (r:RS FlS) (N C:bA->bh->Prop) (T:SV->bh->Prop):Prop where
 out:Ri N C T r
variable {f g:fC} {fe:ef} {N C:bA->bh->Prop} {T:SV->bh->Prop}
theorem Wy.eq (e:r=r') (h:Wy r' N C T):Wy r N C T:=by rw[e];exact h
theorem ub (h:Wy (f ρ Z) (fun r o=>Wy (g r o) N C T) C T):Wy (aO f g ρ Z) N C T:=by
 refine⟨?_⟩;have h:=h.out;unfold aO;cases q:f ρ Z with
 |bad=>rw[q] at h;exact h.elim
 |er x o=>rw[q] at h;exact h.elim
 |ok a o=>
  rw[q] at h;cases a with
  |nx r=>exact(show Wy (g r o) N C T from h).out
  |ct r=>exact h
  |rt v=>exact h
  |bk r=>exact h.elim
theorem yF (h:c ρ Z= .ok b Z1) (a:b=Sz->Wy (f ρ Z1) N C T) (e:b=SN->Wy (g ρ Z1) N C T):Wy (cM c f g ρ Z) N C T:=by
 unfold cM;rw[h,RS.bind_ok];cases b with
 |true=>exact a rfl
 |false=>exact e rfl
theorem tM (e:c ρ Z= .ok Sz Z1) (a:Wy (f ρ Z1) N C T):Wy (cM c f g ρ Z) N C T:=yF e (fun _=>a) fun h=>by cases h
theorem eK (e:c ρ Z= .ok SN Z1) (a:Wy (g ρ Z1) N C T):Wy (cM c f g ρ Z) N C T:=yF e (fun h=>by cases h) fun _=>a
theorem NH (e:fe ρ Z= .ok x Z1) (a:gt x ρ Z1= .ok ρ1 Y) (h:N ρ1 Y):Wy (cY fe gt ρ Z) N C T:=by refine⟨?_⟩;unfold cY;rw[e,RS.bind_ok,a,RS.bind_ok];exact h
theorem oY (a:f ρ Z= .ok (.nx ρ1) Z1) (h:N ρ1 Z1):Wy (f ρ Z) N C T:=⟨by rw[a];exact h⟩
theorem P7 (a:f ρ Z= .ok (.rt x) Z1) (h:T x Z1):Wy (f ρ Z) N C T:=⟨by rw[a];exact h⟩
theorem ju (a:fe ρ Z= .ok x Z1) (h:N ρ Z1):Wy (bU fe ρ Z) N C T:=oY (jm a) h
theorem NQ (a:fe ρ Z= .ok x Z1) (h:T x Z1):Wy (gL fe ρ Z) N C T:=P7 (gX a) h
theorem Lk (h:T (.fz .none) Z):Wy (vH ρ Z) N C T:=⟨h⟩
theorem mf (h:N ρ Z):Wy (dA ρ Z) N C T:=⟨h⟩
theorem j7 {gt:AJ} (e:fe ρ Z= .ok x Z1) (a:gt x ρ Z1= .ok ρ1 Y) (h:Wy (g ρ1 Y) N C T):Wy (aO (cY fe gt) g ρ Z) N C T:=ub (NH e a h)
theorem DC (a:f ρ Z= .ok (.nx ρ1) Z1) (h:Wy (g ρ1 Z1) N C T):Wy (aO f g ρ Z) N C T:=ub (oY a h)
theorem mi (a:fe ρ Z= .ok x Z1) (h:Wy (g ρ Z1) N C T):Wy (aO (bU fe) g ρ Z) N C T:=ub (ju a h)
theorem zn {h a:fC} (m:c ρ Z= .ok b Z1) (j:b=Sz->Wy (aO h g ρ Z1) N C T) (l:b=SN->Wy (aO a g ρ Z1) N C T):Wy (aO (cM c h a) g ρ Z) N C T:=by
 have e:aO (cM c h a) g ρ Z=if b=Sz then aO h g ρ Z1 else aO a g ρ Z1:=by unfold aO cM;rw[m,RS.bind_ok];cases b<;>rfl
 refine .eq e ?_;cases b with
 |true=>exact j rfl
 |false=>exact l rfl
theorem xo {a l:fC} (j:c ρ Z= .ok Sz Z1) (e:Wy (aO a g ρ Z1) N C T):Wy (aO (cM c a l) g ρ Z) N C T:=zn j (fun _=>e) fun h=>by cases h
theorem tN {l a:fC} (j:c ρ Z= .ok SN Z1) (e:Wy (aO a g ρ Z1) N C T):Wy (aO (cM c l a) g ρ Z) N C T:=zn j (fun h=>by cases h) fun _=>e
theorem xG (h:T (.fz .none) Z):Wy (aO vH g ρ Z) N C T:=ub (Lk h)
theorem oX (h:Wy (g ρ Z) N C T):Wy (aO dA g ρ Z) N C T:=ub (mf h)
theorem Pu {a e:fC} (h:Wy (aO a (aO e g) ρ Z) N C T):Wy (aO (aO a e) g ρ Z) N C T:=by
 refine .eq ?_ h;unfold aO;cases a ρ Z with
 |bad=>rfl
 |er x o=>rfl
 |ok j o=>cases j<;>rfl
theorem ON (a:xs.map lD++SS (n - xs.length) Sw=ρ) (h:Wy (g ρ Z) (fun _ Z'=>T (.fz .none) Z') (fun _ _=>False) T):∃x Z',dg n g xs Z= .ok x Z'/\T x Z':=by
 have h:=h.out;unfold dg;rw[a];cases q:g ρ Z with
 |bad=>rw[q] at h;exact h.elim
 |er x o=>rw[q] at h;exact h.elim
 |ok e o=>
  rw[q] at h;cases e with
  |nx r=>exact⟨_,_,rfl,h⟩
  |ct r=>exact h.elim
  |rt v=>exact⟨_,_,rfl,h⟩
  |bk r=>exact h.elim
theorem jF {W:bh->Prop} (a:xs.map lD++SS (n - xs.length) Sw=ρ) (h:Wy (g ρ Z) (fun _ Z'=>SV.fz .none=v/\W Z') (fun _ _=>False) (fun r Z'=>r=v/\W Z')):∃Z',dg n g xs Z= .ok v Z'/\W Z':=by obtain⟨x,Z',l,j,e⟩:=ON (T:=fun r Z'=>r=v/\W Z') a h;exact⟨Z',by rw[l,j],e⟩
end
end L10
namespace L10
open PySem PySem.SeqAt PySem.Spec PySem.W PyProof.Rows L2 L3
section
variable {K:Ld} {E:XK}
def uw (k:Int):List Int->Option Nat
 |[]=>Sw
 |n::r=>if n=k then lD 0 else(uw k r).map (·+1)
theorem xm {k:Int}:∀{ns:List Int} {j:Nat},uw k ns=lD j->ns[j]? =lD k/\∀m,m<j->ns[m]?≠lD k
 |[],_,h=>by cases h
 |n::r,j,h=>by
  unfold uw at h;split at h
  .rename_i e;cases h;exact⟨by rw[<-e];rfl,fun m hm=>by omega⟩
  .rename_i e
   cases q:uw k r with
   |none=>rw[q] at h;cases h
   |some i=>
    rw[q] at h;cases h;obtain⟨b,a⟩:=xm q;refine⟨b,fun m hm=> ?_⟩;cases m with
    |zero=>intro z;exact e (S7 z)
    |succ m=>exact a m (by have hm:m+1<i+1:=hm;omega)
def Nd (K:Ld):V->List V->Hp->VK->Prop:=fun x xs H Q=>∃(l:SI) (a:List Int) (k:Int) (j:Nat),x= .ref l/\Xp K H l (a.map V.int)/\xs=[.int k]/\a[j]? =lD k/\(∀m,m<j->a[m]?≠lD k)/\j<1000/\Q (.int (j:Nat)) H
theorem ER {X:Cx}:Q9 X "list.index" (Nd X.K):=by
 rintro C s U H x xs v Y Q I N f ⟨l,w,k,j,rfl,hl,rfl,hj,hno,hs,q⟩;obtain rfl:v= .ref l:=N;obtain⟨u,rfl,g⟩:=f.one;obtain⟨t,rfl⟩:=g;obtain⟨b,r,⟨o,n,J,T,hd,A⟩,_⟩:=I.list hl;have L:b.length=w.length:=by have:=r.length;rw[Sy] at this;exact this.symm
 have a:∀(m:Nat) (hm:m<b.length),∃t,b[m]= .int (w[m]'(by omega)) t:=fun m hm=>by obtain⟨u,G,g⟩:=r.get (i:=m) (x:= .int (w[m]'(by omega))) (by rw[SX,SM (by omega)];rfl);obtain⟨t,rfl⟩:=g;rw[SM hm] at G;exact⟨t,S7 G⟩
 obtain⟨Z,R⟩:=SD.mp hj;obtain⟨P,O,p,h⟩:=o;obtain rfl:P= .type "list":=T;obtain rfl:p= .seq b.toArray n:=A;refine W6 ZC ⟨_,J,rfl⟩ PySem.F.entry_list_index (PySem.F.args_list_index_2 _ _) (list_indexAt l b.toArray n O h (.int k t) (Sx.isInt k) j (by rw[S8];omega) (by omega) ?_ fun m hm lt=> ?_) ⟨J,fun y S=> ?_,?_⟩
 .obtain⟨t,e⟩:=a j (by omega);rw[abg,e,R];simp[Sx.isInt]
 .have B:m<b.length:=by rw[S8] at hm;exact hm
  obtain⟨t,e⟩:=a m B;rw[abg,e];have:=hno m lt;rw[SM (by omega)] at this;simp only[Sx.isInt];exact beq_eq_false_iff_ne.mpr fun z=>this (by rw[z])
 .obtain⟨m,hm,rfl⟩:=abe.mp (by simpa using S:y∈b);obtain⟨M,e⟩:=a m hm;rw[e];exact(MeetsSeq.EqGives.int _ k M t).at _ _
 .exact⟨.int (j:Nat),H,I.tok _,⟨_,rfl⟩,q⟩
def IB (ds:List D) (d:D):Option Nat:=match kM ds,d with
 |some ns,.int k=>(match uw k ns with
  |some j=>if j<1000 then lD j else Sw
  |none=>Sw)
 |_,_=>Sw
def Hm (fe:FE) (ρ:bq):Option (Option PV)->Res (PV×bq)
 |some (lD (.fz (.list ds)))=>(fe ρ).bind fun a=>(Res.TX (uA a.2 a.1)).bind fun d=>(Res.TX (IB ds d)).bind fun j=> .ok (.fz (nd j),a.2)
 |_=> .bad
def E4 (i:Nat) (fe:FE):FE:=fun ρ=>Hm fe ρ ρ[i]?
theorem Ol {i:Nat} {n:TE} {fe:FE} (G:EO K E n fe):EO K E (Q0 K "list" (Nd K) (zM i) (gP n lY)) (E4 i fe):=by
 intro B S O u H ρ Q R w;unfold E4 at w;cases qi:ρ[i]? with
 |none=>rw[qi] at w;exact w.elim
 |some o=>
  cases o with
  |none=>rw[qi] at w;exact w.elim
  |some pv=>
   cases pv with
   |ow ds=>rw[qi] at w;exact w.elim
   |pl j=>rw[qi] at w;exact w.elim
   |fz J=>
    cases J with
    |list ds=>
     rw[qi] at w;obtain⟨v,I,m⟩:=R.slot i _ qi;have m:L3.DV O K H v (.list ds):=m;cases m with
     |lst e l=>
      refine⟨_,I,.inl ⟨rfl,_,e.1.sq⟩,?_⟩;refine G B S O u H ρ _ R (WR.imp (WR.bind w) fun b f N y P q t C=> ?_);obtain⟨d,A,f⟩:=f.TX;obtain⟨j,a,z⟩:=f.TX;have g:=kI t C A;unfold IB at a;cases qa:kM ds with
      |none=>rw[qa] at a;cases a
      |some p=>
       rw[qa] at a;cases d with
       |int k=>
        dsimp only at a;cases qk:uw k p with
        |none=>rw[qk] at a;cases a
        |some F=>
         rw[qk] at a;dsimp only at a;by_cases h:F<1000
         .rw[if_pos h] at a
          cases a;have g:y= .int k:=by cases g;rfl
          subst g;obtain⟨M,L⟩:=xm qk;have r:=e.ev q;have ev:=mH l qa;rw[ev] at r;exact⟨_,p,k,_,rfl,r.1.sq,rfl,M,L,h,z N _ P q t (.int _)⟩
         .rw[if_neg h] at a;cases a
       |_=>cases a
    |_=>rw[qi] at w;exact w.elim
end
end L10
namespace L10
open PySem PyProof.Rows L2 L3
section
variable {B O O':cw} {K:Ld} {E:XK} {H H' H1 H2:Hp} {α α' α1 α2:List SI} {Z Z' Z1 Y:bh} {σ:L2.St} {ρ:bA} {v:V}
theorem t6 {fa fb:ef} {y z:SV} {i:Nat} {n:Int} {xs:List SV} (ha:fa ρ Z= .ok (.rf i) Z1) (e:fb ρ Z1= .ok y Y) (hn:FO y=lD n) (a:Y[i]? =lD (.lst xs)) (b:mX xs n=lD z):g6 fa fb ρ Z= .ok z Y:=by unfold g6;rw[ha,RS.bind_ok,e,RS.bind_ok];unfold Pj;simp only[a,hn];show RS.TX Y (mX xs n)=_;rw[b];rfl
end
end L10
namespace L10
open PySem PySem.Spec PyProof.Rows L2 L3
end L10
namespace L10
open PySem PyProof.Rows L2 L3
section
variable {O Z:cw} {K:Ld} {H H':Hp} {a b:SI} {xs:List V} {Y:Heap->Prop}
def Q5 (a:SI) (O:cw) (H:Hp) (Z:cw) (H':Hp):Prop:=∀b o,b≠a->H b=lD o->¬O b->H' b=lD o/\¬Z b
theorem Y1.evx (i:H a=lD (.ext Y)) (h:Y1 O K H b xs) (e:Q5 a O H Z H'):Y1 Z K H' b xs:=by
 obtain⟨h,k⟩:=h;by_cases z:O b
 .exact⟨WC.same (mI H') (k z),fun _=>k z⟩
 .rcases h with(h|⟨o,h⟩)|h
  .obtain⟨g,f⟩:=e b _ (fun y=>by rw[y,i] at h;cases h) h z;exact⟨.inl (.inl g),fun y=>absurd y f⟩
  .obtain⟨g,f⟩:=e b _ (fun y=>by rw[y,i] at h;cases h) h z;exact⟨.inl (.inr ⟨o,g⟩),fun y=>absurd y f⟩
  .exact⟨.inr h,fun _=> .inr h⟩
theorem XA.evx (i:H a=lD (.ext Y)) (h:XA O K H b xs) (e:Q5 a O H Z H'):XA Z K H' b xs:=by
 obtain⟨h,k⟩:=h;by_cases z:O b
 .exact⟨(mI H').tup (k z),fun _=>k z⟩
 .rcases h with(h|⟨o,h⟩)|h
  .obtain⟨g,f⟩:=e b _ (fun y=>by rw[y,i] at h;cases h) h z;exact⟨.inl (.inl g),fun y=>absurd y f⟩
  .obtain⟨g,f⟩:=e b _ (fun y=>by rw[y,i] at h;cases h) h z;exact⟨.inl (.inr ⟨o,g⟩),fun y=>absurd y f⟩
  .exact⟨.inr h,fun _=> .inr h⟩
mutual
theorem DV.evx (f:H a=lD (.ext Y)) (e:Q5 a O H Z H'):∀{v:V} {d:D},L3.DV O K H v d->L3.DV Z K H' v d
 |_,_,.Vh=> .Vh
 |_,_,.bl b=> .bl b
 |_,_,.int i=> .int i
 |_,_,.str x=> .str x
 |_,_,.tup h hs=> .tup (XA.evx f h e) (US.evx f e hs)
 |_,_,.lst h hs=> .lst (Y1.evx f h e) (US.evx f e hs)
theorem US.evx (f:H a=lD (.ext Y)) (e:Q5 a O H Z H'):∀{vs:List V} {ds:List D},L3.US O K H vs ds->L3.US Z K H' vs ds
 |_,_,.nil=> .nil
 |_,_,.cons h hs=> .cons (DV.evx f e h) (US.evx f e hs)
end
end
end L10
namespace PySem
open Sem (wp)
open PyProof.Rows
section
variable {prog:Te} {w:TF} {A:Tw} {E:Sx->SK->Prop} {s:SK} {t:SI} {xs:Array (Int×Tok)}
theorem HF {vs:List Sx} {ns:List Int} {Q:Sx->SK->Prop} (q:A.handled=Sw) (i:s.heap.IsList t vs.toArray) (hi:IntsAre vs ns) (y:0<ns.length)
  (h:∀h' M (u:Tok) tk,(∀b o,s.heap.get? b=lD o->h'.get? b=lD o)->M∈ns->(∀a,a∈ns->a<=M)->Q (.int M u) {s with heap:=h',toks:=tk}):
  wpAny (model prog w) A (call (.builtin "max") [.ref t]) Q E s:=by
 obtain⟨xs,e⟩:=hi.allInts.items;have f:ns=xs.toList.map (·.1):=by rw[<-hi.numsOf,<-nums_intItems,<-e]
 have g:0<xs.size:=by have l:=y;rw[f,Sy,Uh] at l;exact l
 rw[e] at i;refine max_intList q i g fun v h' tk m n=> ?_;obtain⟨t,rfl⟩:=intItems_at m;obtain⟨z,r⟩:=argBest_gt (numAt xs) (xs.size - 1);refine h _ _ t tk n ?_ fun a ha=> ?_
 .rw[f,numAt_eq];exact getD_mem (by rw[Sy,Uh];omega)
 .rw[f] at ha;obtain⟨j,p,rfl⟩:=mem_getD ha;rw[Sy,Uh] at p;rw[<-numAt_eq];exact r j (by omega)
end
end PySem
namespace L10
open PySem PySem.Spec PyProof.Rows L2 L3
def Ng (K:Ld):List V->Hp->VK->Prop:=fun xs H Q=>∃(a:SI) (b:List Int),xs=[.ref a]/\Xp K H a (b.map V.int)/\0<b.length/\∀M,M∈b->(∀i,i∈b->i<=M)->Q (.int M) H
theorem mG {X:Cx} (l:X.calm=Sz):Vx X (.builtin "max") (Ng X.K):=by intro b s o H xs p Q I r h;obtain⟨a,v,rfl,g,hn,q⟩:=h;obtain⟨u,rfl,f⟩:=kE r;cases f;obtain⟨y,e,i,_⟩:=I.list g;exact HF (I.ok.hd l) i.isList (j4 e) hn fun w M u t j n m=>⟨.int M,H,I.kept j,⟨_,rfl⟩,q M n m⟩
def i6:List D->Option RV
 |[.list ds]=>(match kM ds with
  |some a=>if 0<a.length then lD (.fz (.int (Ep a))) else Sw
  |none=>Sw)
 |_=>Sw
theorem rR {K:Ld}:G5 K (Ng K) i6:=by
 intro O H xs ds rv Q n m e q;unfold i6 at e;split at e
 .split at e
  .rename_i b l
   split at e
   .rename_i hn
    cases e;cases m with
    |cons p o=>cases o;obtain⟨a,vs,rfl,f,r⟩:=Er p;rw[mH r l] at f;refine⟨a,b,rfl,f.sq,hn,fun M h g=> ?_⟩;obtain⟨j,i⟩:=we hn;have:M=Ep b:=ac5 (i M h) (g _ j);subst this;exact q.at (.int _)
   .cases e
  .cases e
 .cases e
end L10
namespace L10
open PySem PyProof.Rows L2 L3
end L10
namespace L3
open PySem PySem.Spec PyProof.Rows L2
end L3
namespace L3
open PySem L2
structure NI (K:Ld) (f:SI) (n:Str) (t:U6):Prop where
 a:Ta K S4 n=lD (lD (.ref f))
 F:∃fd,VU K n n t f fd
structure MI (K:Ld) (C f:SI) (m q:Str) (t:U6):Prop where
 a:TR K (.ref C) m=lD (lD (.ref f))
 i:Vv K (.ref f)=Sz
 F:∃fd,VU K m q t f fd
structure CI (K:Ld) (C:SI) (n:Str) (fs:List Str):Prop where
 a:Ta K S4 n=lD (lD (.ref C))
 pg:V5 K C Str.empty=Sz
 hd:WH K C=Sz
 po:Yl K C=Sz
 sa:TR K (.ref C) "__setattr__"=lD (lD (.builtin "object.__setattr__"))
 mm:YT K C=Sz
 kc:UH K (.ref C)=Sz
 fl:∀x∈fs,WL K C x
def BA (n q:Str) (t:U6) (ps:List Str):Prop:=∀(kV b e:Sx) (f:Option SI) (g ct:Sx) (a:List Sx),a.length=ps.length->bindArgs (Uu n q (gh t) (cx t) (aA t) .none kV b e f g ct) ⟨a,[]⟩=pure (ps.zip a)
section
variable {P:Te} {w:TF} {K:Ld} {mg:Str->Option Sx} {base h:Heap} {f C:SI} {n m q:Str} {t:U6} {ps fs:List Str} {Z k:Nat} {sp sp':Sp}
theorem CI.cls (c:CI K C n fs):Cls K C:=⟨c.pg,c.hd,c.po,c.sa⟩
theorem CI.cf (c:CI K C n fs):L10.gr K n fs:=⟨C,c.a,c.cls,c.fl⟩
theorem NI.cal (i:NI K f n t) (X:K.In h) (G:h.Ns S4 mg) (b:BA n n t ps) (ok:∀fd,VU K n n t f fd->FnOk P w K mg base dS Z f fd ps sp):yT P w K mg base Z n ps sp:=
 let⟨fd,z⟩:=i.F;⟨f,fd,ok fd z,z.binds b,z.kp,UN X G i.a⟩
theorem NI.law (i:NI K f "law" t) (X:K.In h) (G:h.Ns S4 mg) (b:mg "law"=lD (.ref fa)) (p:BA "law" "law" t [x]) (ok:∀base fd,VU K "law" "law" t f fd->FnOk P w K mg base dS Z f fd [x] sp):∃fd:Uc,(∀(s:SK) (v:Sx),X4 s fd ⟨[v],[]⟩ [(x,v)])/\∀base:Heap,K.In base->base.Ns S4 mg->FnOk P w K mg base dS Z fa fd [x] sp:=by have e:=b.symm.trans (UN X G i.a);cases e;obtain⟨fd,z⟩:=i.F;obtain⟨A,y,kV,g,j,r,u,ct,l,rfl,B,o⟩:=z.ex;exact⟨_,fun s v=> .of_eq (p kV g j r u ct [v] rfl),fun base _ _=>ok base _ z⟩
theorem C2 (a:U7 k A):A.units+65<cLine:=by have:=a.un;omega
theorem En (p:SO K E u g) (h:YA X b u):∃t,YA X b t/\SO K E t g:=⟨_,h,p⟩
theorem z7 (p:L10.pw K E u g) (h:YA X b u):∃t,YA X b t/\L10.pw K E t g:=⟨_,h,p⟩
theorem pp {x a:Str} {b:U6} {fd:Uc} {N:List Str} {n m:Nat} {g:FS} {j:FN} (F:VU K x a b f fd) (S:Vk N ps (aA b)) (hn:ps.length=n) (hm:N.length=m) (l:j=gR m g)
  (o:∀(e:Sx) (A:Tw) (outer:List Env) (s:SK) (H:Hp) (E:XK),N.Nodup->U7 k (A.deeper (Tn a (aA b) s.heap.objs.size f e))->(A.deeper (Tn a (aA b) s.heap.objs.size f e)).units+64<cLine->(A.deeper (Tn a (aA b) s.heap.objs.size f e)).units+1<cLine->(A.deeper (Tn a (aA b) s.heap.objs.size f e)).units+65<cLine->
   ∃t,YA (fV dS P w K mg base N a (aA b) f e A outer s H E).nox (cx b) t/\SO K E t g):FnOk P w K mg base dS (k+1) f fd ps (qM K n j):=
 Sc F S hn hm l fun e A outer s H E i=>o e A outer s H E S.nd i i.units (Ct i) (C2 i)
theorem kN {n m:Nat} (F:VU K x qual st f fd) (S:Vk N ps (aA st)) (hn:ps.length=n) (hm:N.length=m) (e:FF=L10.dg m g)
  (i:∀(a:Sx) (A:Tw) (outer:List Env) (s:SK) (H:Hp) (E:XK),N.Nodup->U7 k (A.deeper (Tn qual (aA st) s.heap.objs.size f a))->(A.deeper (Tn qual (aA st) s.heap.objs.size f a)).units+64<cLine->(A.deeper (Tn qual (aA st) s.heap.objs.size f a)).units+1<cLine->(A.deeper (Tn qual (aA st) s.heap.objs.size f a)).units+65<cLine->
   ∃t,YA (fV dS P w K mg base N qual (aA st) f a A outer s H E).nox (cx st) t/\L10.pw K E t g):FnOk P w K mg base dS (k+1) f fd ps (L10.dw K n FF):=
 L10.Sf F S hn hm e fun a A outer s H E b=>i a A outer s H E S.nd b b.units (Ct b) (C2 b)
theorem KL {W:SI} {a:Array Sx} {g:Nat} {ss:Array (Option Sx)} {xs:List V} {ds:List D} (l:K.lookup W=lD ⟨.type "tuple",Sw,.seq a g,ss⟩) (e:a.size<=SY) (b:Vals xs a.toList) (hd:∀O H,US O K H xs ds):∀O H,DV O K H (.ref W) (.tuple ds):=fun O H=>
 .tup (xs:=xs) ⟨.inr ⟨_,_,_,l,⟨rfl,rfl⟩,rfl,e,b⟩,fun _=> .inr ⟨_,_,_,l,⟨rfl,rfl⟩,rfl,e,b⟩⟩ (hd O H)
end
end L3
namespace L2
open PySem PySem.Spec PyProof.Rows
end L2
namespace L3
open PySem PySem.Spec PyProof.Rows L2
end L3
namespace L10R
open PySem PySem.Calls PyProof.Rows
end L10R
namespace L2
open PySem PySem.Spec PyProof.Rows
end L2
namespace L10
open PySem PySem.Spec PyProof.Rows L2 L3
end L10
namespace L9
open PySem PySem.Spec PyProof.Rows L2 L3 L4
end L9
namespace L2
open PySem PySem.Spec PyProof.Rows
end L2
namespace L3
open PySem L2
end L3
namespace L10
open PySem PySem.Spec PyProof.Rows L2 L3
end L10
namespace L4
open PySem PySem.Spec PyProof.Rows L2 L3
end L4
namespace L3
open PySem L2
end L3
namespace LD
open PySem PyProof.Rows L2 L3
def lP (xs:List (KD×SI×V)) (k:KD):Option V:=(xs.find? fun x=>decide (x.1=k)).map (·.2.2)
def mV (xs:List (KD×SI×V)) (k:KD) (b:SI) (v:V):List (KD×SI×V):=
 if(xs.find? fun x=>decide (x.1=k)).isSome=Sz then xs.map (fun x=>if x.1=k then(x.1,x.2.1,v) else x) else xs++[(k,b,v)]
abbrev RX:List (KD×SI×V)->List (KD×SI×Sx)->Prop:=Paired fun x y=>x.1=y.1/\x.2.1=y.2.1/\RelV x.2.2 y.2.2
theorem wo:∀{xs:List (KD×SI×V)} {a:List (KD×SI×Sx)},RX xs a->xs.map (·.1)=a.map (·.1)
 |_,_,.nil=>rfl
 |_,_,.cons h t=>by rw[S6,S6,h.1,wo t]
theorem wY:∀{xs:List (KD×SI×V)} {a:List (KD×SI×Sx)},RX xs a->WZ (lP xs k) ((atKey a k).map (·.2))
 |_,_,.nil=>by unfold lP atKey;exact trivial
 |x::xs,y::a,.cons h t=>by
  unfold lP atKey;rw[TQ,TQ,h.1];by_cases e:y.1=k
  .rw[decide_eq_true e];exact h.2.2
  .rw[decide_eq_false e];exact wY t
theorem CL:∀{xs:List (KD×SI×V)} {a:List (KD×SI×Sx)},RX xs a->(xs.find? fun x=>decide (x.1=k)).isSome=(atKey a k).isSome
 |_,_,.nil=>rfl
 |x::xs,y::a,.cons h t=>by
  unfold atKey;rw[TQ,TQ,h.1];by_cases e:y.1=k
  .rw[decide_eq_true e];rfl
  .rw[decide_eq_false e];exact CL t
theorem HL (r:RelV v u):∀{xs:List (KD×SI×V)} {a:List (KD×SI×Sx)},RX xs a->RX (xs.map fun x=>if x.1=k then(x.1,x.2.1,v) else x) (a.map (putAt k u))
 |_,_,.nil=> .nil
 |x::xs,y::a,.cons h t=>by
  rw[S6,S6];refine .cons ?_ (HL r t);unfold putAt;by_cases e:y.1=k
  .rw[if_pos (h.1.trans e),if_pos e];exact⟨h.1,h.2.1,r⟩
  .rw[if_neg (by rw[h.1];exact e),if_neg e];exact h
theorem BP (h:x.1=y.1/\x.2.1=y.2.1/\RelV x.2.2 y.2.2):∀{xs:List (KD×SI×V)} {a:List (KD×SI×Sx)},RX xs a->RX (xs++[x]) (a++[y])
 |_,_,.nil=> .cons h .nil
 |_,_,.cons g t=> .cons g (BP h t)
theorem Gc (r:RelV v u) (h:RX xs ys):RX (mV xs k b v) (storedH ys k b u):=by
 unfold mV storedH;rw[CL h];split
 .exact HL r h
 .exact BP ⟨rfl,rfl,r⟩ h
theorem qU (xs:List (KD×SI×V)) (k:KD) (b:SI) (v:V):(mV xs k b v).length<=xs.length+1:=by
 unfold mV;split
 .rw[Sy];omega
 .rw[SH];exact SU _
def uc (K:Ld) (H:Hp) (xs:List (KD×SI×V)):Prop:=∀x∈xs,L2.DV K H (.ref x.2.1) x.1.1
section
variable {X:Cx} {Z:List (SI×Obj)} {Y:L2.St} {H:Hp} {s:SK} {a b:SI} {xs:List (KD×SI×V)} {k:KD} {v:V} {u r:Sx} {A:Tw} {E:Sx->SK->Prop}
theorem Nh:∀{xs:List (KD×SI×V)} {es:List Wc},Paired (fun(x:KD×SI×V) (e:Wc)=>e.hash=ui w x.1.1/\e.key= .ref x.2.1/\RelV x.2.2 e.val) xs es->∃ys,RX xs ys/\es=ys.map (entryOfKey (iQ P w))
 |_,_,.nil=>⟨[],.nil,rfl⟩
 |x::_,e::_,.cons ⟨h1,h2,h3⟩ t=>by obtain⟨ys,g,f⟩:=Nh t;refine⟨(x.1,x.2.1,e.val)::ys,.cons ⟨rfl,rfl,h3⟩ g,?_⟩;rw[S6,<-f];obtain⟨i,h,ev⟩:=e;dsimp only at h1 h2;subst h1 h2;rfl
theorem ME:∀{xs:List (KD×SI×V)} {f:List (KD×SI×Sx)},RX xs f->Paired (fun(x:KD×SI×V) (e:Wc)=>e.hash=ui w x.1.1/\e.key= .ref x.2.1/\RelV x.2.2 e.val) xs (f.map (entryOfKey (iQ P w)))
 |_,_,.nil=> .nil
 |_,_,.cons h t=> .cons ⟨by rw[h.1];rfl,by rw[h.2.1];rfl,h.2.2⟩ (ME t)
theorem uo (I:L2.Inv X Z Y H s) (h:L2.DV X.K H (.ref b) k.1):(iQ X.prog X.w).is s.heap k b:=L2.DV.reads I h rfl
theorem zk (I:L2.Inv X Z Y H s) (e:H a=lD (DkO a xs)) (j:uc X.K H xs):xs.length<=SY/\(a==Us)=SN/\∃ys,RX xs ys/\s.heap.DictOfH (iQ X.prog X.w) a ys:=by
 obtain⟨⟨⟨z,n,nd⟩,o,L,M,G,F,C,B⟩,_⟩:=(show ObjOk X.prog X.w H s.heap a (DkO a xs) from I.Up a _ e);obtain⟨ys,h,J⟩:=Nh B;refine⟨z,n,ys,h,o,L,M,G,F,C,J,?_,by rw[<-wo h];exact nd⟩;have all:∀{l:List (KD×SI×V)} {m:List (KD×SI×Sx)},RX l m->(∀x∈l,L2.DV X.K H (.ref x.2.1) x.1.1)->∀y∈m,(iQ X.prog X.w).is s.heap y.1 y.2.1:=by
  intro l m q
  induction q with
  |nil=>intro _ y f;exact nomatch f
  | @cons p q ps qs hq t ih=>
   intro g y f;rcases Tq.mp f with e|f
   .subst e;have:=uo I (g p (S5 ..));rw[hq.1,hq.2.1] at this;exact this
   .exact ih (fun x i=>g x (S2 _ i)) y f
 exact all h j
theorem Ax (z:xs.length<=SY) (hd:(a==Us)=SN) (e:RX xs ys) (dd:h'.DictOfH (iQ P w) a ys):ObjOk P w H' h' a (DkO a xs):=by obtain⟨o,f,g,h,n,m,l,y,j⟩:=dd;refine⟨⟨⟨z,hd,by rw[wo e];exact j⟩,o,f,g,h,n,m,by rw[l];exact ME e⟩,⟨o,h⟩,?_⟩;rintro C B ⟨q,o,f,g,t,p⟩ i;exact⟨q,o,f,g,i o t,p⟩
theorem rJ (e:A.units+64<cLine):(iQ X.prog X.w).room A.in1:=by show A.in1.units+8<cLine;rw[Tw.in1_units];omega
theorem O0 (l:A.units+64<cLine) (I:L2.Inv X Z Y H s) (e:H a=lD (DkO a xs)) (n:uc X.K H xs) (o:L2.DV X.K H (.ref b) k.1) (g:lP xs k=lD v) (h:∀w' s',L2.Inv X Z Y H s'->RelV v w'->Q w' s'):
  wpAny (model X.prog X.w) A (getItem (.ref a) (.ref b)) Q E s:=by
 obtain⟨z,y,t,f,dd⟩:=zk I e n;obtain⟨w',j,q⟩:=WZ.some_of (by rw[<-g];exact wY f);obtain⟨p,m,i⟩:=ZZ.mp j;refine adB (rJ l) (uo I o) dd m ?_;rw[i];exact h w' _ (I.tok _) q
theorem OO (g:A.units+64<cLine) (I:L2.Inv X Z Y H s) (e:H a=lD (DkO a xs)) (i:uc X.K H xs) (l:L2.DV X.K H (.ref b) k.1) (h:∀s',L2.Inv X Z Y H s'->Q (.bool (!(lP xs k).isSome)) s'):
  wpAny (model X.prog X.w) A (UJ .NotIn (.ref b) (.ref a)) Q E s:=by
 obtain⟨z,j,m,f,dd⟩:=zk I e i;refine wpAny_notIn_heap (rJ g) (uo I l) j dd ?_;have q:=(wY (k:=k) f).XN;rw[Yy] at q;rw[<-q];exact h _ (I.tok _)
theorem NP (m:A.units+64<cLine) (I:L2.Inv X Z Y H s) (e:H a=lD (DkO a xs)) (o:uc X.K H xs) (y:L2.DV X.K H (.ref b) k.1) (rv:RelV v r) (C:xs.length<SY) (h:∀s',L2.Inv X Z Y (bJ H a (DkO a (mV xs k b v))) s'->Q () s'):
  wpAny (model X.prog X.w) A (setItem (.ref a) (.ref b) r) Q E s:=by
 obtain⟨z,t,j,f,dd⟩:=zk I e o;have l:j.length<=SY:=by rw[<-Paired.length f];exact z
 have i:(mV xs k b v).length<=SY:=by have:=qU xs k b v;omega
 refine adC (hsz:=l) (rJ m) (uo I y) dd fun B g n=>h _ ?_;have p:∃q,B.get? a=lD q:=let⟨q,_,_,hq,_⟩:=g;⟨q,hq⟩
 exact ox I (by rw[e];exact True.intro) n p (Ax i t (Gc rv f) g)
theorem Dy (I:L2.Inv X Z Y H s) (e:H a=lD (DkO a xs)):s.TypeIs (.ref a) "dict"/\(∀b,Sx.ref a= .ref b->∃ob,s.heap.get? b=lD ob/\ob.dict=Sw)/\(a==Us)=SN:=by obtain⟨⟨⟨z,h,nd⟩,o,l,m,g,f,j,i⟩,_⟩:=(show ObjOk X.prog X.w H s.heap a (DkO a xs) from I.Up a _ e);refine⟨⟨o,g,f.1⟩,fun b q=> ?_,h⟩;cases q;exact⟨o,g,f.2.1⟩
end
section
variable (K:Ld)
def Na (neg:Bool) (ty g:TE):TE:=fun f H Q=>ty f H fun y h=>g f h fun x e=>∃a b xs k,x= .ref a/\y= .ref b/\e a=lD (DkO a xs)/\uc K e xs/\L2.DV K e (.ref b) k.1/\Q (.bl ((lP xs k).isSome !=neg)) e
def Gv (g ty:TE):TE:=fun f H Q=>g f H fun x h=>ty f h fun y e=>∃a b xs k v,x= .ref a/\y= .ref b/\e a=lD (DkO a xs)/\uc K e xs/\L2.DV K e (.ref b) k.1/\lP xs k=lD v/\Q v e
def Jv (h ty g:TE):TS:=fun D e H=>g e H fun v j=>h e j fun x i=>ty e i fun y f=>∃a b xs k,x= .ref a/\y= .ref b/\f a=lD (DkO a xs)/\uc K f xs/\L2.DV K f (.ref b) k.1/\xs.length<SY/\D.nx e (bJ f a (DkO a (mV xs k b v)))
def F1:TE:=fun _ H Q=>∀p,H p=Sw->Q (.ref p) (bJ H p (DkO p []))
end
section
variable {X:Cx} {o i e f Z:T4} {T U tx tv:TE} {pos Y apos VF:Pos}
theorem abT (v:X.A.units+64<cLine) (hi:PE X i U) (w:PE X o T):PC X .NotIn i o (Na X.K Sz U T):=by intro g s j H Q I h;refine cO (hi g s j H _ I h) fun N m ⟨y,J,F,n,q⟩=>cO (w g m j J _ F q) fun u M ⟨x,G,E,p,a,b,xs,k,B,z,e,r,t,l⟩=> ?_;subst B z;obtain rfl:=p;obtain rfl:=n;rw[Bool.bne_true] at l;exact OO v E e r t fun L C=>⟨.bl _,G,C,rfl,l⟩
theorem ab7 (B:X.A.units+64<cLine) (E:PE X o T) (hi:PE X i U) (C:NM i):PE X (.Subscript o i pos) (Gv X.K T U):=by intro j s l H Q I h;refine CY Zk.lookup C (cO (E j s l H _ I h) fun u n ⟨x,O,M,q,t⟩=>cO (hi j n l O _ M t) fun iv S ⟨y,N,m,p,a,b,xs,k,v,G,F,e,w,z,g,r⟩=> ?_);subst G F;obtain rfl:=q;obtain rfl:=p;exact⟨(Dy m e).1,O0 B m e w z g fun P R L J=>⟨v,N,L,J,r⟩⟩
theorem ab3 (E:X.A.units+64<cLine) (G:PE X o T) (hi:PE X i U) (C:PE X Z tv) (F:UB Z (lD (.Subscript o i Y)) pos.line X.env=pure SN):
  PS X (.Assign [.Subscript o i Y] Z pos) (Jv X.K T U tv):=by
 intro g s j H D I h;refine abO (cO (C g s j H _ I h) fun r m ⟨v,S,Q,rv,w⟩=>cO (G g m j S _ Q w) fun u l ⟨x,R,P,p,t⟩=>cO (hi g l j R _ P t) fun iv s3 ⟨y,H3,O,n,a,b,xs,k,M,L,e,z,B,J,q⟩=> ?_) F;subst M L;obtain rfl:=p;obtain rfl:=n;exact NP E O e z B rv J fun s4 N=>⟨j,_,N,q⟩
theorem aaj:PE X (.Dict [] [] pos) F1:=fun a s b H Q I h=>
 wpAny_Dict_empty ⟨.ref s.heap.objs.size,_,I.laid (fun _ _ q=>Heap.get?_push_of_some _ q) (SU _) (Ax (T5 _) (beq_eq_false_iff_ne.mpr (Ne.symm (Th I.big))) .nil (Heap.DictOfH.new s.heap)),rfl,h _ (I.Up.fresh (SU _))⟩
end
mutual
def PP:SG->SG->Option Bool
 | .int i,.int j=>lD (decide (i<j))
 | .str x,.str y=>lD (decide (x.cps.toList<y.cps.toList))
 | .tuple xs,.tuple ys=>QR xs ys
 |_,_=>Sw
def QR:List SG->List SG->Option Bool
 |[],[]=>lD SN
 |[],_::_=>lD Sz
 |_::_,[]=>lD SN
 |x::xs,y::ys=>if SG.eqv x y=Sz then QR xs ys else PP x y
end
end LD
namespace LD
open PySem PyProof.Rows
structure VE (es:List Wc) (Ti:List (Unit×Sx)):Prop where
 vals:es.map (·.val)=Ti.map (·.2)
end LD
namespace LD
open PySem PyProof.Rows L2 L3 L10
end LD
namespace L10
open PySem PyProof.Rows L2 L3 LD
def lc:SV->Option D
 | .fz d=>if keyD d=Sz then lD d else Sw
 |_=>Sw
def P0:SV->Option D
 | .fz d=>lD d
 |_=>Sw
def pE (Z:bh):SV->Option (Nat×List (D×D))
 | .rf i=>match Z[i]? with
  |some (.dd Ti)=>lD (i,Ti)
  |_=>Sw
 |_=>Sw
def g9 (Ti:List (D×D)) (k:D):Option D:=(Ti.find? fun a=>SG.eqv a.1 k).map (·.2)
def ou (Ti:List (D×D)) (k v:D):List (D×D):=if(Ti.find? fun a=>SG.eqv a.1 k).isSome=Sz then Ti.map (fun a=>if SG.eqv a.1 k=Sz then(a.1,v) else a) else Ti++[(k,v)]
section
variable {B O O':cw} {K:Ld} {E:XK} {H H' R P:Hp} {X α' U S:List SI} {Z Z' Z1 Y:bh} {T:L2.St} {ρ:bA} {v:V} {k:KD}
theorem ph (e:lc x=lD d) (h:VY O K H X v x):∃(k:KD) (b:SI),k.1=d/\v= .ref b/\L3.DV O K H (.ref b) d:=by
 cases x with
 |fz z=>
  have e:(if keyD z=Sz then lD z else Sw)=lD d:=e;by_cases a:keyD z=Sz
  .rw[if_pos a] at e
   cases e;have h:=h;cases d with
   |tuple xs=>cases h with
    |tup g f=>exact⟨⟨_,a⟩,_,rfl,rfl,.tup g f⟩
   |_=>simp[keyD] at a
  .rw[if_neg a] at e;cases e
 |rf i=>cases e
 |tp l=>cases e
theorem vd (s:Tz B K H X Z) (b:VY (ow B X Z) K H X v x) (h:pE Z x=lD (i,Ti)):Z[i]? =lD (.dd Ti)/\∃a xs,X[i]? =lD a/\v= .ref a/\H a=lD (DkO a xs)/\PrD (ow B X Z) K H xs Ti:=by
 cases x with
 |fz d=>cases h
 |tp l=>cases h
 |rf j=>
  obtain⟨a,ha,rfl⟩:=b;unfold pE at h;dsimp only at h;cases q:Z[j]? with
  |none=>rw[q] at h;cases h
  |some c=>
   rw[q] at h;cases c with
   |dd m=>have e:=S7 h;cases e;obtain⟨ws,g,f⟩:=s.ZD i a _ ha q;exact⟨q,a,ws,ha,rfl,g,f⟩
   |_=>cases h
theorem u0:∀{xs:List (KD×SI×V)} {Ti:List (D×D)},PrD O K H xs Ti->uc K H xs
 |_,_,.nil=>fun _ h=>nomatch h
 |x::xs,kv::Ti,.cons h t=>fun y a=>by
  rcases Tq.mp a with e|a
  .subst e;rw[h.1];exact h.2.1.plain
  .exact u0 t y a
theorem v8 {x:KD×SI×V} {a:D×D} (h:x.1.1=a.1):decide (x.1=k)=SG.eqv a.1 k.1:=by
 rw[<-h]
 haveI:Decidable (x.1.1=k.1):=Classical.propDecidable _
 rw[IC (fG x.1.2).1 (fG k.2).1];by_cases e:x.1=k
 .rw[decide_eq_true e,decide_eq_true (congrArg Subtype.val e)]
 .rw[decide_eq_false e,decide_eq_false fun z=>e (Subtype.ext z)]
theorem oM:∀{xs:List (KD×SI×V)} {Ti:List (D×D)},PrD O K H xs Ti->(∀d,g9 Ti k.1=lD d->∃v,lP xs k=lD v/\L3.DV O K H v d)/\(g9 Ti k.1=Sw->lP xs k=Sw)
 |_,_,.nil=>⟨fun x e=>(by cases e),fun _=>rfl⟩
 |x::xs,kv::Ti,.cons h t=>by
  unfold g9 lP;rw[TQ,TQ,v8 h.1];cases SG.eqv kv.1 k.1 with
  |true=>exact⟨fun d e=>⟨x.2.2,rfl,by cases e;exact h.2.2⟩,fun e=>by cases e⟩
  |false=>exact oM t
theorem AB (h:PrD O K H xs Ti):(lP xs k).isSome=(g9 Ti k.1).isSome:=by
 obtain⟨b,a⟩:=oM h;cases q:g9 Ti k.1 with
 |none=>rw[a q];rfl
 |some x=>obtain⟨u,e,_⟩:=b x q;rw[e];rfl
theorem IJ:∀{xs:List (KD×SI×V)} {Ti:List (D×D)},PrD O K H xs Ti->(xs.find? fun x=>decide (x.1=k)).isSome=(Ti.find? fun kv=>SG.eqv kv.1 k.1).isSome
 |_,_,.nil=>rfl
 |x::xs,kv::Ti,.cons h t=>by
  rw[TQ,TQ,v8 h.1];cases SG.eqv kv.1 k.1 with
  |true=>rfl
  |false=>exact IJ t
theorem MR (a:L3.DV O K H v d):∀{xs:List (KD×SI×V)} {Ti:List (D×D)},PrD O K H xs Ti->PrD O K H (xs.map fun x=>if x.1=k then(x.1,x.2.1,v) else x) (Ti.map fun kv=>if SG.eqv kv.1 k.1=Sz then(kv.1,d) else kv)
 |_,_,.nil=> .nil
 |x::xs,kv::Ti,.cons h t=>by
  rw[S6,S6];refine .cons ?_ (MR a t);have e:=v8 (k:=k) h.1;by_cases z:x.1=k
  .rw[if_pos z,if_pos (by rw[<-e];exact decide_eq_true z)];exact⟨h.1,h.2.1,a⟩
  .rw[if_neg z,if_neg (by rw[<-e,decide_eq_false z];simp)];exact h
theorem zp (r:x.1.1=kv.1/\L3.DV O K H (.ref x.2.1) kv.1/\L3.DV O K H x.2.2 kv.2):∀{xs:List (KD×SI×V)} {Ti:List (D×D)},PrD O K H xs Ti->PrD O K H (xs++[x]) (Ti++[kv])
 |_,_,.nil=> .cons r .nil
 |_,_,.cons g t=> .cons g (zp r t)
theorem z6 (e:L3.DV O K H (.ref b) k.1) (a:L3.DV O K H v d) (h:PrD O K H xs Ti):PrD O K H (mV xs k b v) (ou Ti k.1 d):=by
 unfold mV ou;rw[IJ h];split
 .exact MR a h
 .exact zp ⟨rfl,e,a⟩ h
theorem Gy (e:Ev O H O' H') (h:PrD O K H xs Ti):PrD O' K H' xs Ti:=Paired.W0 h fun _ _ q=>⟨q.1,q.2.1.ev e,q.2.2.ev e⟩
def CV (neg:Bool) (a fd:ef):ef:=fun ρ Z=>(a ρ Z).bind fun x Z1=>(fd ρ Z1).bind fun o Y=>(RS.TX Y (lc x)).bind fun k Y=>(RS.TX Y (pE Y o)).bind fun p Y=> .ok (.fz (.bool ((g9 p.2 k).isSome !=neg))) Y
theorem HY (r:cW K E tk fk) (hd:cW K E td fd):cW K E (Na K neg tk td) (CV neg fk fd):=by intro B T H X Z ρ Q s f w;refine r B T H X Z ρ _ s f (w.bind.imp fun x U Z1 R A l j v p=> ?_);refine hd B T R U Z1 ρ _ l (f.Vm A) (j.bind.imp fun o S Y P z g e u q=> ?_);obtain⟨d,n,e⟩:=WS.TX e;obtain⟨⟨i,Ti⟩,m,e⟩:=WS.TX e;obtain⟨_,a,xs,ha,rfl,y,h⟩:=vd g q m;obtain⟨k,b,rfl,rfl,t⟩:=ph n (p.Vm z);refine⟨a,b,xs,k,rfl,rfl,y,u0 h,t.plain,?_⟩;rw[AB h];exact WS.now g e _ (.bl _)
def tL (fd a:ef):ef:=fun ρ Z=>(fd ρ Z).bind fun o Z1=>(a ρ Z1).bind fun x Y=>(RS.TX Y (lc x)).bind fun k Y=>(RS.TX Y (pE Y o)).bind fun p Y=>(RS.TX Y (g9 p.2 k)).bind fun d Y=> .ok (.fz d) Y
theorem D7 (hd:cW K E td fd) (C:cW K E tk fk):cW K E (Gv K td tk) (tL fd fk):=by intro B T H X Z ρ Q s f w;refine hd B T H X Z ρ _ s f (w.bind.imp fun o U Z1 R J m j u A=> ?_);refine C B T R U Z1 ρ _ m (f.Vm J) (j.bind.imp fun x S Y P I g e v t=> ?_);obtain⟨d,q,e⟩:=WS.TX e;obtain⟨⟨i,Ti⟩,p,e⟩:=WS.TX e;obtain⟨_,a,xs,ha,rfl,G,h⟩:=vd g (A.Vm I) p;obtain⟨k,b,rfl,rfl,F⟩:=ph q t;obtain⟨y,n,e⟩:=WS.TX e;obtain⟨z,r,l⟩:=(oM h).1 y n;exact⟨a,b,xs,k,z,rfl,rfl,G,u0 h,F.plain,r,WS.now g e z l⟩
def xa (fd e b:ef):fC:=fun ρ Z=>(b ρ Z).bind fun y Z1=>(fd ρ Z1).bind fun o Y=>(e ρ Y).bind fun x a=>(RS.TX a (lc x)).bind fun k a=>(RS.TX a (pE a o)).bind fun p a=>(RS.TX a (P0 y)).bind fun d a=>if p.2.length<1000000 then .ok (.nx ρ) (a.set p.1 (.dd (ou p.2 k d))) else .bad
theorem N9 (e:P0 x=lD d) (h:VY O K H X v x):L3.DV O K H v d:=by
 cases x with
 |fz z=>cases e;exact h
 |rf i=>cases e
 |tp l=>cases e
theorem Ek (hd:cW K E td fd) (hk:cW K E tk fk) (hv:cW K E tv fv):pw K E (Jv K td tk tv) (xa fd fk fv):=by
 intro B T H X Z ρ D s g w;refine hv B T H X Z ρ _ s g (WS.imp (WS.bind w) fun y U Z1 R r L I t m=> ?_);refine hd B T R U Z1 ρ _ L (g.Vm r) (WS.imp (WS.bind I) fun o S Y P q J G u hu=> ?_);refine hk B T P S Y ρ _ J (g.Vm (r.trans q)) (WS.imp (WS.bind G) fun x e h j p A f z hz=> ?_);obtain⟨kd,Q,f⟩:=WS.TX f;obtain⟨⟨i,Ti⟩,N,f⟩:=WS.TX f;obtain⟨d,M,f⟩:=WS.TX f;obtain⟨l,a,xs,ha,rfl,g1,n⟩:=vd A (hu.Vm p) N;obtain⟨k,b,rfl,rfl,C⟩:=ph Q hz;have hy:=N9 M (m.Vm (q.trans p));dsimp only at f;by_cases hn:Ti.length<1000000
 .rw[if_pos hn] at f;have ev:Ev (ow B e h) j (ow B e h) (bJ j a (DkO a (mV xs k b t))):=pX ha l (by intro z;cases z);have F:UW e h j e (h.set i (.dd (ou Ti k.1 d))) (bJ j a (DkO a (mV xs k b t))):=UW.put ha l (by intro z;cases z) (by intro z;cases z);have hl:=Paired.length n;refine⟨a,b,xs,k,rfl,rfl,g1,u0 n,C.plain,ut (by omega),?_⟩;exact f e _ F (A.put ha l (by intro z;cases z) (by intro z;cases z) ⟨_,aR,z6 (C.ev ev) (hy.ev ev) (Gy ev n)⟩) T ((g.Vm (r.trans (q.trans p))).Vm F)
 .rw[if_neg hn] at f;exact f.elim
def wf:ef:=fun _ Z=> .ok (.rf Z.length) (Z++[.dd []])
theorem vq:cW K E F1 wf:=by intro B T H X Z ρ Q s b w;exact fun p a=>oj s a w fun _=>⟨[],aR,.nil⟩
end
end L10
namespace PySem
open Sem (wp)
namespace F
end F
end PySem
namespace PySem
open Sem (wp)
open PyProof.Rows
end PySem
namespace L10
open PySem PySem.Spec PyProof.Rows L2 L3
end L10
namespace PySem
open Sem (wp)
open PyProof.Rows
end PySem
namespace L10
open PySem PySem.Spec PyProof.Rows L2 L3 LD
end L10
namespace L10
open PySem PyProof.Rows L2 L3 LD
end L10
namespace L10
open PySem PyProof.Rows L2 L3
end L10
namespace L3
open PySem PyProof.Rows L2
structure Zt (K:Ld) (x qual:Str) (st:U6) (f:SI) (fd:Uc) (T:SI) (TV:Array Sx):Prop where
 ex:∃(oc:Sx) (od:Option SI) (kV doc pm:Sx) (an:Option SI) (Uq ct:Sx) (osl:Array (Option Sx)),
  fd=Uu x qual (gh st) (cx st) (aA st) (.ref T) kV doc pm an Uq ct/\K.lookup f=lD ⟨oc,od,.func fd,osl⟩/\Wv K Uq qual=Sz
 kp:UH K (.ref f)=Sz
 tp:∃o n,K.lookup T=lD o/\o.data= .seq TV n
section
variable {P:Te} {w:TF} {K:Ld} {mg:Str->Option Sx} {base:Heap} {x Z:Str} {Y:U6} {f:SI} {fd:Uc} {T:SI} {TV:Array Sx} {N ps:List Str} {k n m:Nat} {sp:Sp} {ds:List Sx}
theorem Zt.binds (F:Zt K x Z Y f fd T TV)
  (h:∀(kV a b:Sx) (e:Option SI) (g ct:Sx) (us:List Sx),(us++ds).length=ps.length->∃k:Option (Array Sx)->Sem (List (Str×Sx)),bindArgs (Uu x Z (gh Y) (cx Y) (aA Y) (.ref T) kV a b e g ct) ⟨us,[]⟩=seqItems? (.ref T)>>=k/\k (lD TV)=pure (ps.zip (us++ds))):Binds K fd ps ds:=by
 obtain⟨v,u,kV,a,b,e,g,ct,i,rfl,y,l⟩:=F.ex;obtain⟨o,n,q,p⟩:=F.tp;intro s us X j;obtain⟨k,t,r⟩:=h kV a b e g ct us j;exact X4.of_defaults (fd:=Uu x Z (gh Y) (cx Y) (aA Y) (.ref T) kV a b e g ct) rfl (X _ _ q) p t r
def pG (P:Te) (w:TF) (K:Ld) (mg:Str->Option Sx) (base:Heap) (a:wW) (k:Nat) (x:Str) (ps:List Str) (dvs:List V) (sp:Sp):Prop:=
 ∃(f:SI) (fd:Uc) (ds:List Sx),FnOk P w K mg base a k f fd ps sp/\Binds K fd ps ds/\Vals dvs ds/\UH K (.ref f)=Sz/\mg x=lD (.ref f)
theorem oP (C:pG X.prog X.w X.K X.mg X.base CX k x ps dvs sp) (i:U7 j X.A) (h:fJ CX X E) (ha:PA X (e::es) t) (a:k<=j:=by decide) (l:Gl X x:=by rfl)
  (q:(x==("__debug__":Str))=SN:=by decide) (o:To (e::es) X.env=(SN,eval e X.env)::To es X.env:=by rfl) (r:(backTo pos (To es X.env)).any (·.1)=SN:=by rfl):
  PE X (.Call (.Name x p) (e::es) [] pos) (l6 sp dvs E t):=by
 obtain⟨f,fd,ds,F,b,v,g,m⟩:=C;exact C1 F (i.mono a) l m g b v h ha q o r
end
end L3
namespace L10
open PySem PyProof.Rows L2 L3
section
variable {P:Te} {w:TF} {K:Ld} {mg:Str->Option Sx} {base:Heap} {x Z:Str} {Y:U6} {f:SI} {fd:Uc} {T:SI} {TV:Array Sx} {N ps:List Str} {k n m:Nat} {g:fC} {FF:ji}
theorem Qj (F:Zt K x Z Y f fd T TV) (S:Vk N ps (aA Y)) (hn:ps.length=n) (hm:N.length=m) (q:FF=dg m g)
  (u:∀(a:Sx) (A:Tw) (outer:List Env) (s:SK) (H:Hp) (E:XK),U7 k (A.deeper (Tn Z (aA Y) s.heap.objs.size f a))->
   ∃t,YA (fV (L4.jd P w) P w K mg base N Z (aA Y) f a A outer s H E) (cx Y) t/\pw K E t g):FnOk P w K mg base (L4.jd P w) (k+1) f fd ps (dw K n FF):=by
 subst q hm;obtain⟨z,y,kV,r,v,B,a,ct,i,rfl,j,e⟩:=F.ex;refine Fb j e S (fun vs H Q E h=>h.1.trans hn.symm) fun A outer s H vs Q E p b=> ?_;obtain⟨t,l,o⟩:=u a A outer s H E p;exact⟨t,l,Bi (xs:=[]) o b⟩
end
section
variable {K:Ld} {E:XK}
def ym (F:ji) (n:Nat) (es:List D) (fa:yV):ef:=fun ρ Z=>(fa ρ Z).bind fun xs a=>if(xs++es.map SV.fz).length=n then F (xs++es.map SV.fz) a else .bad
theorem Ag:∀{vs ws:List V} {xs b:List SV},Vy O K H α vs xs->Vy O K H α ws b->Vy O K H α (vs++ws) (xs++b)
 |_,_,_,_,.nil,h=>h
 |_,_,_,_,.cons a t,h=> .cons a (Ag t h)
theorem vK (hd:∀O H,L3.US O K H dvs es) (ha:w6 K E ta fa):cW K E (l6 (dw K n F) dvs E ta) (ym F n es fa):=by
 intro B g H α Z ρ Q s h w;refine ha B g H α Z ρ _ s h (w.bind.imp fun xs a f l m i e vs j=> ?_);by_cases hn:(xs++es.map SV.fz).length=n
 .rw[if_pos hn] at e;have b:=Ag j (lK (ow B a f) a (hd (ow B a f) l));exact⟨b.length.trans hn,B,a,f,_,i,b,e⟩
 .rw[if_neg hn] at e;exact e.elim
end
end L10
namespace L4
open PySem PyProof.Rows L2 L3
def Za (h:Heap) (e:SI) (c:Sx) (dx:Option SI) (a:Sx) (T:SI) (v:Sx):Prop:=
 ∃ob fs,h.get? e=lD ob/\ob.cls=c/\ob.dict=dx/\ob.data= .fields fs/\fs[0]? =lD a/\fs[1]? =lD (.ref T)/\T≠e/\∃oT ts,h.get? T=lD oT/\oT.data= .fields ts/\ts[3]? =lD v
section
variable {M:abC} {A:Tw} {E:Sx->SK->Prop} {s:SK}
theorem sk
  (C:A.frames=lD (env::outer)) (r:s.heap.FunFrames base (env::outer)) (B:env.frame=lD L) (t:s.heap.get? e=lD ob) (h:ob.data= .fields fs) (p:1<fs.size) (F:fs[0]? =lD a0)
  (k:∀h' T,s.heap.objs.size<=T->Za h' e ob.cls ob.dict a0 T (rawInt L)->Lft (env::outer) e Sw s.heap h'->Q () {s with heap:=h'}):
  wpAny M A (frameOf env>>=fun fr=>entryPlaceOf L nx>>=fun pl=>EntryCells.newEntry hv fr .none (rawInt L) .none pl>>=fun b=>setField (.ref e) 1 b) Q E s:=by
 have g:e∉(env::outer).filterMap (·.frame):=fun z=>by obtain⟨_,o,q,n⟩:=r.mem z;rw[t] at q;cases q;exact n fs h
 refine Sv (aeh C r B fun a S=> ?_);refine Sv (adD fun pl P=> ?_);unfold EntryCells.newEntry newFields;refine Sv (UR ?_ (P.sizeOk5 _ _ _ _ _));have l:=(S.2.1 e g).trans t;generalize hN:({cls:= .type "traceback",dict:=Sw,data:= .fields ([hv,.ref L,.none,rawInt L,.none]++(if pl.isEmpty then SS 6 Sx.none else pl)).toArray}:Obj)=N;have u:N.data= .fields ([hv,.ref L,.none,rawInt L,.none]++(if pl.isEmpty then SS 6 Sx.none else pl)).toArray:=by rw[<-hN]
 have G:=Obj.isFreed_of_fields u;have j:=Heap.get?_push_of_some N l;refine Uo j h p ?_;have m:=Ul (Heap.lt_size l);have v:=Obj.data_mapFields h (·.setIfInBounds 1 (Sx.ref a.objs.size));have i:=Heap.get?_update_self (Obj.mapFields (·.setIfInBounds 1 (Sx.ref a.objs.size))) j (Obj.isFreed_of_fields v)
 have w:=
  (Heap.get?_update_other (a.push N) (Obj.mapFields (·.setIfInBounds 1 (Sx.ref a.objs.size))) m.symm).trans (Heap.get?_push_size a G)
 have WY:∀b o,b≠e->a.get? b=lD o->((a.push N).update e (Obj.mapFields (·.setIfInBounds 1 (Sx.ref a.objs.size)))).get? b=lD o:=fun b o ne q=>by rw[Heap.get?_update_other _ _ ne.symm];exact Heap.get?_push_of_some N q
 refine k _ a.objs.size (by rw[S.1];exact SU _) ⟨_,_,i,Obj.cls_mapFields _ _,?_,v,?_,?_,m,_,_,w,u,?_⟩ ⟨fun b o q ne _ y=>WY b o ne ((S.2.1 b y).trans q),fun b o q ne _=> ?_,fun b o q=> ?_⟩
 .cases ob with
  |mk c d H f=>cases H<;>rfl
 .rw[V9 (by decide)];exact F
 .simp[p]
 .rfl
 .obtain⟨f,z⟩:=S.2.2 b o q;exact⟨f,WY b _ ne z⟩
 .by_cases ne:b=e
  .subst ne;exact⟨_,i⟩
  .obtain⟨f,z⟩:=S.2.2 b o q;exact⟨_,WY b _ ne z⟩
theorem OH {base:Heap} {env:Env} {outer:List Env} {L e:SI} {c B:Sx} {dx hd:Option SI} {Q:Unit->SK->Prop}
  (v:A.frames=lD (env::outer)) (u:s.heap.FunFrames base (env::outer)) (h:env.frame=lD L) (F:DW s.heap e c dx B hd)
  (k:∀h' T,s.heap.objs.size<=T->Za h' e c dx B T (rawInt L)->Lft (env::outer) e hd s.heap h'->Q () {s with heap:=h'}):wpAny M A (noteFrame (.ref e) env) Q E s:=by
 obtain⟨O,fs,q,J,I,d,w,r⟩:=F;subst J I;cases hd with
 |none=>have r:fs[1]? =lD .none:=r;unfold noteFrame;simp only[h];refine Sv (TH q d r ?_);rw[if_neg (by decide)];exact sk v u h q d (Tu.mp r).1 w k
 |some T=>
  obtain⟨r,G,P,C,g,dT,p⟩:=r;unfold noteFrame;simp only[h];refine Sv (TH q d r ?_);rw[if_pos (show(Sx.ref T !=Sx.none)=Sz from by simp)];refine Sv (TH g dT p ?_);rw[if_neg (show¬((Sx.none==rawInt L)=Sz) from by simp[rawInt])];refine Sv (Uo g dT (Tu.mp p).1 ?_);have f:∀b,b≠T->(s.heap.update T (Obj.mapFields (·.setIfInBounds 3 Sx.none))).get? b=s.heap.get? b:=fun b ne=>Heap.get?_update_other _ _ ne.symm;have a:=Heap.get?_update_self (Obj.mapFields (·.setIfInBounds 3 Sx.none)) g (Obj.isFreed_of_fields (Obj.data_mapFields dT _));have m:∀b o,s.heap.get? b=lD o->(∀vs,o.data≠ .fields vs)->b≠T:=fun b o z n y=>by rw[y,g] at z;cases z;exact n C dT
  refine sk v (u.of_keeps fun b o z n=>⟨o,(f b (m b o z n)).trans z,rfl⟩) h ((f e G.symm).trans q) d (Tu.mp r).1 w fun h' K t N i=>k h' K (by rw[Heap.size_after_update] at t;exact t) N ⟨fun b o z l j H=> ?_,fun b o z l j=> ?_,fun b o z=> ?_⟩
  .exact i.keep b o ((f b fun y=>j (by rw[y])).trans z) l (by simp) H
  .exact i.slot b o ((f b fun y=>j (by rw[y])).trans z) l (by simp)
  .by_cases y:b=T
   .subst y;exact i.here b _ a
   .exact i.here b o ((f b y).trans z)
theorem EI {base:Heap} {env:Env} {outer:List Env} {L e T:SI} {c G v:Sx} {dx:Option SI} {Q:Unit->SK->Prop}
  (P:A.frames=lD (env::outer)) (O:s.heap.FunFrames base (env::outer)) (B:env.frame=lD L) (F:Za s.heap e c dx G T v)
  (k:∀h' T',(T'=T\/s.heap.objs.size<=T')->DW h' e c dx G (lD T')->Lft (env::outer) e (lD T) s.heap h'->Q () {s with heap:=h'}):wpAny M A (leaving env (.ref e)) Q E s:=by
 obtain⟨I,fs,q,N,K,d,C,r,m,S,H,h,dT,t⟩:=F;subst N K;have f:∀b,b≠T->(s.heap.update T (Obj.mapFields (·.setIfInBounds 3 Sx.none))).get? b=s.heap.get? b:=fun b ne=>Heap.get?_update_other _ _ ne.symm;have a:=Heap.get?_update_self (Obj.mapFields (·.setIfInBounds 3 Sx.none)) h (Obj.isFreed_of_fields (Obj.data_mapFields dT _));have l:=(Tu.mp t).1;unfold leaving noteFrame;simp only[B];refine Sv (Sv (TH q d r ?_));rw[if_pos (show(Sx.ref T !=Sx.none)=Sz from by simp)];refine Sv (TH h dT t ?_);by_cases u:(v==rawInt L)=Sz
 .rw[if_pos u]
  refine SQ ?_;unfold setFlight;refine Sv (TH q d r ?_);rw[if_pos (show(Sx.ref T !=Sx.none)=Sz from by simp)];refine Uo h dT l ?_;refine k _ T (.inl rfl) ⟨I,fs,(f e m.symm).trans q,rfl,rfl,d,C,r,m,_,_,a,Obj.data_mapFields dT _,?_⟩ ⟨fun b o z i g _=> ?_,fun b o z i g=>⟨o.slots,?_⟩,fun b o z=> ?_⟩
  .rw[UG l]
  .exact(f b fun y=>g (by rw[y])).trans z
  .exact(f b fun y=>g (by rw[y])).trans z
  .by_cases y:b=T
   .subst y;exact⟨_,a⟩
   .exact⟨o,(f b y).trans z⟩
 .rw[if_neg u]
  refine Sv (Uo h dT l ?_);have p:∀b o,s.heap.get? b=lD o->(∀vs,o.data≠ .fields vs)->b≠T:=fun b o z n y=>by rw[y,h] at z;cases z;exact n H dT
  refine iL P (O.of_keeps fun b o z n=>⟨o,(f b (p b o z n)).trans z,rfl⟩) B ((f e m.symm).trans q) d (Tu.mp r).1 C fun h' T' w R j=>k h' T' (.inr (by rw[Heap.size_after_update] at w;exact w)) R ⟨fun b o z i g J=> ?_,fun b o z i g=> ?_,fun b o z=> ?_⟩
  .exact j.keep b o ((f b fun y=>g (by rw[y])).trans z) i (by simp) J
  .exact j.slot b o ((f b fun y=>g (by rw[y])).trans z) i (by simp)
  .by_cases y:b=T
   .subst y;exact j.here b _ a
   .exact j.here b o ((f b y).trans z)
theorem F8 {g:Env} {h:String} {e T:SI} {c m v:Sx} {dx:Option SI} {Q:Sx->SK->Prop} (F:Za s.heap e c dx m T v)
  (k:∀h' v',Za h' e c dx m T v'->(∀b o,b≠T->s.heap.get? b=lD o->h'.get? b=lD o)->(∃o,h'.get? T=lD o)->E (.ref e) {s with heap:=h'}):wpAny M A (adE h (.ref e) g:Sem Sx) Q E s:=by
 obtain⟨t,fs,q,w,u,d,y,r,l,C,B,j,dT,p⟩:=F;subst w u;have i:=(Tu.mp p).1;unfold adE;refine Sv (TH q d r ?_);rw[if_neg (show¬((Sx.ref T==Sx.none)=Sz) from by simp)];unfold setFlight;refine Sv (Sv (TH q d r ?_));rw[if_pos (show(Sx.ref T !=Sx.none)=Sz from by simp)];refine Uo j dT i (wpAny_throw ?_);have n:∀b,b≠T->(s.heap.update T (Obj.mapFields (·.setIfInBounds 3 (g.frame.elim Sx.none fun f=>rawInt f)))).get? b=s.heap.get? b:=fun b ne=>Heap.get?_update_other _ _ ne.symm;have a:=Heap.get?_update_self (Obj.mapFields (·.setIfInBounds 3 (g.frame.elim Sx.none fun f=>rawInt f))) j (Obj.isFreed_of_fields (Obj.data_mapFields dT _));exact k _ _ ⟨t,fs,(n e l.symm).trans q,rfl,rfl,d,y,r,l,_,_,a,Obj.data_mapFields dT _,UG i⟩ (fun b o ne z=>(n b ne).trans z) ⟨_,a⟩
end
end L4
namespace L2
open PySem PySem.Spec PyProof.Rows
def R8 (Y:Cx) (E:XK):Sx->SK->Prop:=fun x a=>∃pins σ1 H1 e c dx a0 hd,x= .ref e/\Inv Y pins σ1 H1 a/\L4.DW a.heap e c dx a0 hd/\(Y.s₀.heap.get? e=Sw\/e∈Y.ex)/\(∀T,hd=lD T->Y.s₀.heap.get? T=Sw\/T∈Y.ex)/\H1 e=Sw/\(∀T,hd=lD T->H1 T=Sw)/\E c dx H1
end L2
namespace L4
open PySem PyProof.Rows L2 L3
theorem Pi {P:Te} {w:TF} {K:Ld} {mg:Str->Option Sx} {base:Heap} {N:List Str} {i:Str} {a:VJ} {f:SI} {M:Sx} {A:Tw} {outer:List Env} {g:SK} {Q:Hp} {E:XK}
  {m:List (SI×Obj)} {R:L2.St} {H:Hp} {s:SK} {e T:SI} {c O v:Sx} {dx:Option SI} (I:L2.Inv (fV (jd P w) P w K mg base N i a f M A outer g Q E) m R H s)
  (F:Za s.heap e c dx O T v) (J:g.heap.get? e=Sw) (G:g.heap.get? T=Sw) (ne:H e=Sw) (u:H T=Sw) (q:E c dx H):
  (fV (jd P w) P w K mg base N i a f M A outer g Q E).xe (.ref e) s:=by
 have hA:=I.ok.frames;have hF:=I.stack;refine EI (L:=g.heap.objs.size) hA hF rfl F fun h' t j F' L=> ?_;have X:=L.Up I.Up ne (fun T1 z=>by cases z;exact u) I.Yv;have sz:=I.sz;have Z:H t=Sw:=by
  rcases j with e|j
  .rw[e];exact u
  .exact I.Up.fresh j
 have gT:g.heap.get? t=Sw:=by
  rcases j with e|j
  .rw[e];exact G
  .exact Heap.get?_none_of_le (TJ sz j)
 have r:∀b o,g.heap.get? b=lD o->b<g.heap.objs.size:=fun b o z=>Heap.lt_size z;have h:∀b o,g.heap.get? b=lD o->b≠e/\lD T≠lD b:=fun b o z=>⟨(fun y=>by rw[y,J] at z;cases z),(fun y=>by cases y;rw[G] at z;cases z)⟩;refine⟨e,c,dx,O,t,H,rfl,J,gT,F',ne,Z,I.os,I.bare,?_,X,q⟩;have B:=I.base;refine⟨fun b o z n C _=> ?_,fun b o z n Y _=> ?_,fun b o z n _=> ?_,fun b o z _=> ?_,B.Zg,B.Y0,B.Ze⟩
 .have l:=B.keep b o z n C (fun y=>nomatch y)
  refine L.keep b o l (h b o z).1 (h b o z).2 fun y=> ?_;rcases Tq.mp (I.Yb b y) with y|y
  .have y:b=g.heap.objs.size:=y;exact absurd (r b o z) (by rw[y];exact Ui _)
  .exact C y
 .obtain⟨sl,l⟩:=B.slot b o z n Y (fun y=>nomatch y);obtain⟨p,S⟩:=L.slot b _ l (h b o z).1 (h b o z).2;exact⟨p,S⟩
 .exact B.free b o z n (fun y=>nomatch y)
 .obtain⟨U,l⟩:=B.there b o z (fun y=>nomatch y);exact L.here b U l
def MA (X:Cx) (E:XK):Prop:=∀(a:L2.St) (H:Hp) (s:SK) (e T:SI) (c b v:Sx) (dx:Option SI),L2.Inv X [] a H s->Za s.heap e c dx b T v->X.s₀.heap.get? e=Sw->X.s₀.heap.get? T=Sw->H e=Sw->H T=Sw->E c dx H->X.xe (.ref e) s
theorem LS {P:Te} {w:TF} {K:Ld} {mg:Str->Option Sx} {base:Heap} {N:List Str} {b:Str} {a:VJ} {f:SI} {m:Sx} {A:Tw} {outer:List Env} {g:SK} {n:Hp} {E:XK}:
  MA (fV (jd P w) P w K mg base N b a f m A outer g n E) E:=fun o H s e T c p v dx I F l j i h q=>Pi I F l j i h q
theorem Ji {X:Cx} {h:SK} {l:Hp} {a:VJ} {C:SI} {N:List Str} {fp:List SI} {E:XK}:
  fJ (jd X.prog X.w) ((cH X h l a C N fp).XH (R8 (cH X h l a C N fp) E)) E:=by
 rintro f m H s x u I ⟨e,c,dx,n,T,t,rfl,le,lT,F,ne,nT,os,bare,un,Up,q⟩;have r:=I.aap (ch:=[]) os un Up bare (fun b z=>nomatch z);have g:∀b,s.heap.get? b=Sw->h.heap.get? b=Sw\/b∈fp:=fun b z=>by
  by_cases j:b∈fp
  .exact .inr j
  .refine .inl ?_
   cases y:h.heap.get? b with
   |none=>rfl
   |some o=>obtain⟨v,i⟩:=I.base.there b o y j;rw[z] at i;cases i
 exact⟨f,m,t,e,c,dx,n,lD T,rfl,r.Wm,F,g e le,(fun p z=>by cases z;exact g T lT),ne,(fun p z=>by cases z;exact nT),q⟩
theorem Za.at {h h':Heap} {e T:SI} {c a v:Sx} {dx:Option SI} (F:Za h e c dx a T v) (k:∀b o,b=e\/b=T->h.get? b=lD o->h'.get? b=lD o):Za h' e c dx a T v:=by obtain⟨j,fs,q,p,n,d,t,r,m,l,f,i,dT,g⟩:=F;exact⟨j,fs,k _ _ (.inl rfl) q,p,n,d,t,r,m,l,f,k _ _ (.inr rfl) i,dT,g⟩
end L4
namespace L2
open PySem PySem.Spec PyProof.Rows
theorem Inv.afd {X:Cx} {a:List (SI×Obj)} {b:St} {H:Hp} {s:SK} (I:Inv X a b H s):Inv X [] b H s:=
 ⟨I.ok,I.os,I.bare,I.base,I.loc,I.cell,I.free,I.Wo,fun p e=>I.pin p (by rw[Tr] at e;exact Wn _ e),I.Up,I.len⟩
theorem Gz {X:Cx} {elt tg iter:T4} {ifs:List T4} {scope:VJ} {pos:Pos} (own:List Str) (fv:List (Str×Nat)) {wi:TI} {g:TG} {tc:TT} {te:TE} {EK:XK} (dR:X.stack=X.env::X.outer/\X.env.frame=lD X.env.locals) (hex:X.ex=[]) (hpn:X.pn=[]) (PX:L4.MA X EK) (hc:X.calm=Sz) (hi:PI X tg iter wi)
  (hg:∀s H C fp,PG (cH X s H scope C (fh own fv) fp) tg g) (ht:∀s H C fp,ES (cH X s H scope C (fh own fv) fp) ifs tc) (he:∀s H C fp,PE ((cH X s H scope C (fh own fv) fp).XH (R8 (cH X s H scope C (fh own fv) fp) EK)) elt te) (hfv:aar X scope fv)
  (ab9:(scope.names.all fun y=> !(y.2==Tx.free)||(X.env.scope.names.lookup y.1==lD Tx.cell)||(X.env.scope.names.lookup y.1==lD Tx.free))=Sz)
  (Wi:scope.kind= .function:=by rfl) (hnd:(scope.names.map (·.1)).Nodup:=by left)
  (Y9:∀y∈scope.names,y.2= .local->scope.names.lookup y.1=lD .local:=by left) (hs:∀x,foldedSetIterable iter X.env x=pure x:=by intro _;rfl):
  PE X (.ListComp elt [⟨tg,iter,ifs,0⟩] scope pos) (sH own fv wi g tc te):=by
 intro pins s σ H Q I h;have hfr:=HE ab9;rw[ai4];refine Xu (use:=Sw) rfl hs (oh (l8 I.ok hfr)) Wi Y9 (cO (hi pins s σ H _ I h) fun xv s1 h1=>cO h1 fun itv s2 h2=> ?_);obtain⟨it,fp,tn,J,H2,e,I2,T,st2,f2,R⟩:=h2;subst e;refine nW I2 hc Wi hnd (l8 I.ok hfr) hfv T st2 f2 (fun C=>hg _ _ C _) (fun C=>ht _ _ C _) (fun C=>he _ _ C _) ?_ (Fin:=fun D H'=>Q (.ref D) H') R ?_
 .rintro D C x s3 hC ⟨ajt,σ3,H3,e,c,dx,a0,hd,rfl,I3,F,fe,fT,ne,nT,q⟩
  have hsz:s2.heap.objs.size<=s3.heap.objs.size:=I3.sz;show wpAny (model X.prog X.w) X.A (noteFrame (.ref e) X.env) _ _ s3;refine L4.OH (env:=X.env) (outer:=X.outer) (base:=X.base) (L:=X.env.locals) (by rw[<-dR.1];exact I3.ok.frames) (by rw[<-dR.1];exact I3.stack) dR.2 F fun h' T' hT F' L=> ?_;rw[<-dR.1] at L;obtain⟨m,hm,_⟩:=I3.loc;have hm:s3.heap.Ns C m:=hm;have hn3:H3 C=Sw:=I3.free;have fo:∀b,b=e\/hd=lD b->s2.heap.get? b=Sw\/b∈fp:=fun b z=>by
   rcases z with z|z
   .rw[z];exact fe
   .exact fT b z
  have aix:∀b,b=e\/hd=lD b->∃o vs,s3.heap.get? b=lD o/\o.data= .fields vs:=fun b z=>by
   obtain⟨ob,fs,q1,_,_,d,_,r⟩:=F;rcases z with z|z
   .rw[z];exact⟨ob,fs,q1,d⟩
   .subst z;obtain⟨_,_,oT,ts,qT,dT,_⟩:=r;exact⟨oT,ts,qT,dT⟩
  have nC:¬(C=e\/hd=lD C):=fun z=>by obtain⟨o,vs,q1,d⟩:=aix C z;obtain⟨o',es,ep,q2,d2,_⟩:=hm;rw[q1] at q2;cases q2;rw[d] at d2;cases d2
  have nfr:C∉yd X.stack:=fun z=>by obtain⟨_,o,qo,_⟩:=I2.stack.mem z;exact absurd (Tf (Heap.lt_size qo) hC) (Ui _)
  have IX:Inv X [] σ H3 s3:=(I2.aap (ch:=fp) I3.os I3.base I3.Up I3.bare fun b hb=>⟨(f2 b hb).2.2.2.1,(f2 b hb).2.1,(f2 b hb).2.2.2.2.1,(f2 b hb).2.2.2.2.2⟩).afd;have n0:∀b,b=e\/hd=lD b->X.s₀.heap.get? b=Sw:=fun b z=>by
   rcases fo b z with y|y
   .cases z0:X.s₀.heap.get? b with
    |none=>rfl
    |some o=>obtain⟨o',z1⟩:=I2.base.there b o z0 (by rw[hex];exact fun y=>nomatch y);rw[y] at z1;cases z1
   .rcases(f2 b y).2.2.2.1 with w|w
    .rw[hex] at w;cases w
    .exact Heap.get?_none_of_le w
  have Ia:Inv X [] σ H3 {s3 with heap:=h'}:=by
   refine L4.tP IX (fun b=>b=e\/hd=lD b) hex (by rw[hpn];exact fun p hp=>nomatch hp) (fun b o z n nf=>L.keep b o z (fun y=>n (.inl y)) (fun y=>n (.inr y)) nf) (fun b o z n=>L.slot b o z (fun y=>n (.inl y)) (fun y=>n (.inr y))) L.here n0 (fun z=> ?_) (fun x cc z y=> ?_) (fun b z=> ?_)
   .rcases fo _ z with y|y
    .obtain⟨mm,hn,_⟩:=I2.loc;obtain⟨o,_,_,qo,_⟩:=hn;rw[y] at qo;cases qo
    .exact(f2 _ y).2.1 rfl
   .rcases fo _ y with w|w
    .obtain⟨v,o,qo,_⟩:=I2.cell x cc z;rw[w] at qo;cases qo
    .exact(f2 _ w).2.2.2.2.1 x cc z rfl
   .rcases z with z|z
    .rw[z];exact ne
    .exact nT b z
  have nT3:H3 T'=Sw:=I3.Up.fresh hT;refine⟨m,hm.at' fun o z=>L.keep C o z (fun y=>nC (.inl y)) (fun y=>nC (.inr y)) nfr,fun h4 sb aaW _=> ?_⟩;have CT:C<s3.heap.objs.size:=hm.lt;have F4:L4.Za h4 e c dx a0 T' (rawInt X.env.locals):=F'.at fun b o z y=>by
   refine(sb.2 b fun w=> ?_).trans y;rcases z with z|z
   .exact nC (.inl (w.symm.trans z))
   .have this:T'=C:=z.symm.trans w;rw[this] at hT;exact absurd (Tf CT hT) (Ui _)
  refine L4.F8 F4 fun h5 v' F5 k5 t5=> ?_;obtain⟨f0,f1,_,f3,f4,f5⟩:=I2.ZO (H':=H3) hC hn3;have Ib:Inv X [] σ H3 {s3 with heap:=h4}:=Ia.turned (t':=s3.toks) (fun b o hb z=>(sb.2 b hb).trans z) f0 f1 f3 f4 (by rw[hpn];exact fun p hp=>nomatch hp);obtain⟨g0,g1,_,g3,g4,g5⟩:=I2.ZO (H':=H3) (TJ hsz hT) nT3;have Ic:Inv X [] σ H3 {s3 with heap:=h5}:=Ib.turned (t':=s3.toks) (fun b o hb z=>k5 b o hb z) g0 g1 g3 g4 (by rw[hpn];exact fun p hp=>nomatch hp);refine PX σ H3 _ e T' c a0 v' dx Ic F5 (n0 e (.inl rfl)) ?_ ne nT3 q;rcases g3 with w|w
  .rw[hex] at w;cases w
  .exact Heap.get?_none_of_le w
 .intro D C H' s' I' fin hm hC hn;obtain⟨m,hm⟩:=hm;refine⟨m,hm,fun h' hs'=>⟨.ref D,H',?_,rfl,fin⟩⟩;obtain⟨f0,f1,_,f3,f4,f5⟩:=I2.ZO hC hn;exact I'.turned (t':=s'.toks) (fun b o hb q=>(hs'.2 b hb).trans q) f0 f1 f3 f4 f5
end L2
namespace L10
open PySem PyProof.Rows L2 L3
section
variable {B O O':cw} {K:Ld} {E:XK} {H H' H1 H2:Hp} {X α' U α2:List SI} {Z Z' Z1 T:bh} {Y:L2.St} {ρ:bA} {v:V}
theorem Ps {g:TG} {gt:AJ} (h:JC K E0 g gt):JC K E g (fun x ρ Z=>g7 (gt x ρ Z)):=fun B Y H X Z ρ v x Q s a r w=>h B Y H X Z ρ v x Q s a r (WS.e0 w)
theorem On {t:TT} {ft:uP} (h:vv K E0 t ft):vv K E t (fun ρ Z=>g7 (ft ρ Z)):=fun B Y H X Z ρ Q s a w=>h B Y H X Z ρ Q s a (WS.e0 w)
def sL (n:Nat) (fj:List Nat) (a:KW) (gt:AJ) (ft:uP) (fe:ef):ef:=fun ρ Z=>(a ρ Z).bind fun ds Z1=>(ck (fun x ρ Z=>g7 (gt x ρ Z)) (fun ρ Z=>g7 (ft ρ Z)) fe ds (e9 n fj ρ) Z1 []).bind fun xs T=> .ok (.rf T.length) (T++[.lst xs])
theorem Ea {own:List Str} {h:List (Str×Nat)} {a:TI} {g:TG} {e:TT} {b:TE} {i:KW} {gt:AJ} {ft:uP} {fe:ef} {n:Nat} {fj:List Nat} (hn:own.length=n) (q:h.map (·.2)=fj)
  (hi:PY K E a i) (p:JC K E0 g gt) (o:vv K E0 e ft) (r:cW K E b fe):cW K E (sH own h a g e b) (sL n fj i gt ft fe):=by
 intro B Y H X Z ρ Q s f w;refine hi B Y H X Z ρ _ s f (WS.imp (WS.bind w) fun ds U Z1 H1 t l j J m=> ?_);exact sS hn q (Ps p) (On o) r l (f.Vm t) m j
end
end L10
namespace L3
open PySem L2
section
variable {P:Te} {w:TF} {K:Ld} {mg:Str->Option Sx} {base h:Heap} {f C:SI} {n m q:Str} {t:U6} {ps fs:List Str} {Z k:Nat} {sp sp':Sp} {Y:wW}
theorem MI.afp (i:MI K C f m q t) (c:CI K C n fs) (b:BA m q t ps) (ok:∀fd,VU K m q t f fd->FnOk P w K mg base Y Z f fd ps sp):L10.b8 P w K mg base Y Z n m ps sp:=
 let⟨fd,z⟩:=i.F;⟨C,f,fd,c.a,c.cls,⟨i.a,i.i,z.kp⟩,ok fd z,z.binds b⟩
theorem MI.ahy (i:MI K C f "__init__" q t) (c:CI K C n fs) (X:K.In h) (G:h.Ns S4 mg) (b:BA "__init__" q t ps) (ok:∀fd,VU K "__init__" q t f fd->FnOk P w K mg base Y Z f fd ps sp):L10.vN P w K mg base Y Z n ps sp:=
 let⟨fd,z⟩:=i.F;⟨C,f,fd,c.a,UN X G c.a,⟨c.mm,i.a,i.i,c.kc⟩,ok fd z,z.binds b⟩
end
end L3
namespace L10
open PySem PySem.Spec PyProof.Rows L2 L3
section
variable {B O O':cw} {K:Ld} {E:XK} {H H' X H2:Hp} {α α' Y α2:List SI} {Z Z' Z1 Z2:bh} {σ:L2.St} {ρ:bA} {v:V}
def rV (c f:Str) (fe:ef):fC:=fun ρ Z=>(fe ρ Z).bind fun x Z1=>match x with
 | .fz d=>if L9.Qv d=Sz then .er ⟨c,[(f,d)]⟩ Z1 else .bad
 |_=> .bad
theorem Bk (M:Ta K S4 c=lD (lD (.ref C))) (L:cW K E te fe):pw K E (L9.CU C (L9.ww C f) E (gP te lY)) (rV c f fe):=by
 intro B σ H α Z ρ D s G w;refine L B σ H α Z ρ _ s G (WS.imp (WS.bind w) fun x Y Z1 X Q I a v h=> ?_)
 match x,h,a with
 | .fz d,h,a=>
  have h:=h;dsimp only at a;by_cases r:L9.Qv d=Sz
  .rw[if_pos r] at a
   have j:L9.Rg v/\∀(O':cw) (H':Hp),L3.DV O' K H' v d:=by
    cases d with
    |none=>cases h;exact⟨.inl rfl,fun _ _=> .Vh⟩
    |int i=>cases h;exact⟨.inr ⟨i,rfl,of_decide_eq_true r⟩,fun _ _=> .int i⟩
    |_=>cases r
   refine⟨by show 1<=SY;decide,fun e hn=>⟨e,v,rfl,j.1,aR,fun p F g=>⟨rfl,p,?_,?_⟩⟩⟩
   .rw[aD (Ne.symm g),aR]
   .have u:X p=Sw:=by rw[aD g] at F;exact F
    have A:UP X (L9.PR (bJ (bJ (bJ X e (.ext (L9.LG C e))) e (.ext (L9.QV C e p))) p (.xd [(f,v)])) e):=fun b o z=>by
     have t:b≠e:=fun y=>by rw[y,hn] at z;cases z
     have J:b≠p:=fun y=>by rw[y,u] at z;cases z
     rw[L9.kz t,aD J,aD t,aD t];exact z
    refine a (.ref C) (lD p) Y _ (UW.same A) (I.grow A) ⟨⟨C,rfl,M⟩,[(f,v)],fun P q=> ?_,fun m N l=>⟨(fun z=>nomatch z),?_⟩⟩
    .cases q;rw[L9.kz g,aR]
    .have n:(match m==f with|true=>lD d|false=>Vg m [])=lD N:=l
     cases hb:m==f with
     |true=>rw[hb] at n;cases n;refine⟨v,?_,j.2 _ _⟩;show(match m==f with|true=>lD v|false=>Vg m [])=lD v;rw[hb]
     |false=>rw[hb] at n;cases n
  .rw[if_neg r] at a;exact a.elim
 | .rf _,_,a=>exact a.elim
 | .tp _,_,a=>exact a.elim
end
end L10
namespace L10
open PySem L2 L3
section
variable {P:Te} {w:TF} {K:Ld} {mg:Str->Option Sx} {base:Heap} {x Z:Str} {Y:U6} {f:SI} {fd:Uc} {T:SI} {TV:Array Sx} {N ps:List Str} {k n m:Nat} {g:fC} {X:ji}
theorem Di (F:VU K x Z Y f fd) (S:Vk N ps (aA Y)) (hn:ps.length=n) (hm:N.length=m) (e:X=dg m g)
  (h:∀(a:Sx) (A:Tw) (outer:List Env) (s:SK) (H:Hp) (E:XK),N.Nodup->U7 k (A.deeper (Tn Z (aA Y) s.heap.objs.size f a))->(A.deeper (Tn Z (aA Y) s.heap.objs.size f a)).units+64<cLine->(A.deeper (Tn Z (aA Y) s.heap.objs.size f a)).units+1<cLine->(A.deeper (Tn Z (aA Y) s.heap.objs.size f a)).units+65<cLine->
   ∃t,YA (fV (L4.jd P w) P w K mg base N Z (aA Y) f a A outer s H E) (cx Y) t/\pw K E t g):FnOk P w K mg base (L4.jd P w) (k+1) f fd ps (dw K n X):=
 Rn F S hn hm e fun a A outer s H E b=>h a A outer s H E S.nd b b.units (Ct b) (C2 b)
theorem Iu (F:Zt K x Z Y f fd T TV) (S:Vk N ps (aA Y)) (hn:ps.length=n) (hm:N.length=m) (e:X=dg m g)
  (h:∀(a:Sx) (A:Tw) (outer:List Env) (s:SK) (H:Hp) (E:XK),N.Nodup->U7 k (A.deeper (Tn Z (aA Y) s.heap.objs.size f a))->(A.deeper (Tn Z (aA Y) s.heap.objs.size f a)).units+64<cLine->(A.deeper (Tn Z (aA Y) s.heap.objs.size f a)).units+1<cLine->(A.deeper (Tn Z (aA Y) s.heap.objs.size f a)).units+65<cLine->
   ∃t,YA (fV (L4.jd P w) P w K mg base N Z (aA Y) f a A outer s H E) (cx Y) t/\pw K E t g):FnOk P w K mg base (L4.jd P w) (k+1) f fd ps (dw K n X):=
 Qj F S hn hm e fun a A outer s H E b=>h a A outer s H E S.nd b b.units (Ct b) (C2 b)
end
end L10
namespace LD
open PySem PySem.Spec PyProof.Rows L2
end LD
namespace L10
open PySem PyProof.Rows L2 L3 LD
end L10
namespace L3
open PySem L2
theorem HN {X:Cx} {P:Te} {w:TF}:fJ (L4.jd P w) X E0:=fun _ _ _ _ _ _ _ ⟨_,_,_,_,_,_,_,_,_,_,_,_,_,_,_,_,h⟩=>h.elim
end L3
namespace L10
open PySem PyProof.Rows L2 L3
section
variable {B O O':cw} {K:Ld} {E:XK} {H H' H1 H2:Hp} {α α' Y α2:List SI} {Z Z' Z1 Z2:bh} {σ:L2.St} {ρ:bA} {v:V}
def tf (F:ji) (n:Nat) (es:List D) (fa:yV):ef:=fun ρ Z=>(fa ρ Z).bind fun xs Z1=>if(xs++es.map SV.fz).length=n then g7 (F (xs++es.map SV.fz) Z1) else .bad
theorem sj (hd:∀O H,L3.US O K H dvs es) (ha:w6 K E ta fa):cW K E (l6 (dw K n F) dvs E0 ta) (tf F n es fa):=by
 intro B σ H α Z ρ Q s e w;refine ha B σ H α Z ρ _ s e (w.bind.imp fun xs Y Z1 H1 h f b vs g=> ?_);by_cases hn:(xs++es.map SV.fz).length=n
 .rw[if_pos hn] at b;have a:=Ag g (lK (ow B Y Z1) Y (hd (ow B Y Z1) H1));exact⟨a.length.trans hn,B,Y,Z1,_,f,a,WS.e0 b⟩
 .rw[if_neg hn] at b;exact b.elim
end
end L10
namespace L4
open PySem PySem.Spec PySem.W PyProof.Rows L2 L3
end L4
namespace L10
open PySem L2 L3
def Ro (T:A->bh->Prop) (X:Xc->Prop):RS A->Prop
 | .ok a Z=>T a Z
 | .er x _=>X x
 | .bad=>False
structure Out {A:Type} (r:RS A) (T:A->bh->Prop) (X:Xc->Prop):Prop where
 out:Ro T X r
section
variable {A B:Type} {r r':RS A} {T T':A->bh->Prop} {U:B->bh->Prop} {X:Xc->Prop} {Z:bh}
theorem Out.eq (e:r=r') (h:Out r' T X):Out r T X:=by rw[e];exact h
theorem Out.imp (h:Out r T X) (k:∀a Z,T a Z->T' a Z):Out r T' X:=by
 refine⟨?_⟩;have h:=h.out;cases r with
 |bad=>exact h
 |er x o=>exact h
 |ok a o=>exact k a o h
theorem Out.bind (h:Out r (fun a o=>Out (f a o) U X) X):Out (r.bind f) U X:=by
 refine⟨?_⟩;have h:=h.out;cases r with
 |bad=>exact h
 |er x o=>exact h
 |ok a o=>exact(show Out (f a o) U X from h).out
theorem Out.all (h:Out r T fun _=>False):∃a o,r= .ok a o/\T a o:=by
 have h:=h.out;cases r with
 |bad=>exact h.elim
 |er x o=>exact h.elim
 |ok a o=>exact⟨a,o,rfl,h⟩
theorem Out.er (h:Out r (fun _ _=>False) X):∃x o,r= .er x o/\X x:=by
 have h:=h.out;cases r with
 |bad=>exact h.elim
 |er x o=>exact⟨x,o,rfl,h⟩
 |ok a o=>exact h.elim
end
section
variable {ρ ρ1 ρ2:bA} {Z Z1 Y Z3:bh} {x y z:SV} {i n:Nat} {d:D} {ds:List D} {b:Bool} {f g:fC} {fe:ef} {N:bA->bh->Prop} {T:SV->bh->Prop} {X:Xc->Prop}
def Sd (N:bA->bh->Prop) (T:SV->bh->Prop):FlS->bh->Prop
 | .nx ρ,Z=>N ρ Z
 | .rt v,Z=>T v Z
 |_,_=>False
abbrev kS (r:RS FlS) (N:bA->bh->Prop) (T:SV->bh->Prop) (X:Xc->Prop):Prop:=Out r (Sd N T) X
theorem nA (h:kS (f ρ Z) (fun r o=>kS (g r o) N T X) T X):kS (aO f g ρ Z) N T X:=by
 refine Out.bind (h.imp fun a o k=> ?_);cases a with
 |nx r=>exact k
 |rt v=>exact⟨k⟩
 |ct r=>exact k.elim
 |bk r=>exact k.elim
theorem uV (a:f ρ Z= .ok (.nx ρ1) Z1) (h:kS (g ρ1 Z1) N T X):kS (aO f g ρ Z) N T X:=nA (.eq a ⟨h⟩)
theorem AI (a:f ρ Z= .ok (.nx ρ1) Z1) (h:N ρ1 Z1):kS (f ρ Z) N T X:= .eq a ⟨h⟩
theorem gc (e:fe ρ Z= .ok x Z1) (a:gt x ρ Z1= .ok ρ1 Y) (h:kS (g ρ1 Y) N T X):kS (aO (cY fe gt) g ρ Z) N T X:=uV (by unfold cY;rw[e,RS.bind_ok,a,RS.bind_ok]) h
theorem wz (a:Out (fe ρ Z) (fun x Z1=>kS (g (ρ.set i (lD x)) Z1) N T X) X):kS (aO (cY fe (dY i)) g ρ Z) N T X:=nA (Out.bind (a.imp fun _ _ k=>⟨k⟩))
theorem Gb (a:Out (fe ρ Z) (fun _ Z1=>kS (g ρ Z1) N T X) X):kS (aO (bU fe) g ρ Z) N T X:=nA (Out.bind (a.imp fun _ _ k=>⟨k⟩))
theorem N4 {a j:fC} (e:c ρ Z= .ok Sz Z1) (h:kS (aO a g ρ Z1) N T X):kS (aO (cM c a j) g ρ Z) N T X:=by refine .eq ?_ h;unfold aO cM;rw[e,RS.bind_ok,if_pos rfl]
theorem wS {j a:fC} (e:c ρ Z= .ok SN Z1) (h:kS (aO a g ρ Z1) N T X):kS (aO (cM c j a) g ρ Z) N T X:=by refine .eq ?_ h;unfold aO cM;rw[e,RS.bind_ok,if_neg S9]
theorem rQ (h:kS (g ρ Z) N T X):kS (aO dA g ρ Z) N T X:=nA ⟨h⟩
theorem wU (a:fe ρ Z= .ok x Z1) (h:T x Z1):kS (gL fe ρ Z) N T X:= .eq (gX a) ⟨h⟩
theorem LA (a:fe ρ Z= .ok x Z1) (h:T x Z1):kS (aO (gL fe) g ρ Z) N T X:=nA (wU a h)
theorem Kb (a:Out (fe ρ Z) T X):kS (gL fe ρ Z) N T X:=Out.bind (a.imp fun _ _ k=>⟨k⟩)
theorem sG (a:xs.map lD++SS (n - xs.length) Sw=ρ) (h:kS (g ρ Z) (fun _ Z'=>T (.fz .none) Z') T X):Out (dg n g xs Z) T X:=by
 unfold dg;rw[a];refine Out.bind (h.imp fun e o k=> ?_);cases e with
 |nx r=>exact⟨k⟩
 |rt v=>exact⟨k⟩
 |ct r=>exact k.elim
 |bk r=>exact k.elim
theorem FW {b:fC} (I:Nat->bA->bh->Prop) (M:Nat) (j:∀n ρ Z,I n ρ Z->(∃Z1,c ρ Z= .ok SN Z1/\N ρ Z1)\/(n<M/\∃Z1,c ρ Z= .ok Sz Z1/\kS (b ρ Z1) (I (n+1)) T X)):∀(m n:Nat) (ρ:bA) (Z:bh),M - n<m->I n ρ Z->kS (uM c b m ρ Z) N T X
 |0,n,_,_,h,_=>by omega
 |m+1,n,ρ,Z,h,h0=>by
  rcases j n ρ Z h0 with⟨Z1,e,p⟩|⟨hn,Z1,e,l⟩
  .refine .eq (show uM c b (m+1) ρ Z= .ok (.nx ρ) Z1 from ?_) ⟨p⟩;show((c ρ Z).bind _)=_;rw[e,RS.bind_ok,if_neg S9]
  .refine .eq (show uM c b (m+1) ρ Z=(b ρ Z1).bind fun a Y=>match a with
    | .nx ρ2=>uM c b m ρ2 Y
    | .ct ρ2=>uM c b m ρ2 Y
    | .bk ρ2=> .ok (.nx ρ2) Y
    | .rt x=> .ok (.rt x) Y from ?_) (Out.bind (l.imp fun a o k=> ?_))
   .show((c ρ Z).bind _)=_
    rw[e,RS.bind_ok,if_pos rfl]
    all_goals (cases b ρ Z1 with
     |bad=>rfl
     |er x o=>rfl
     |ok a o=>cases a<;>rfl)
   .cases a with
    |nx r=>exact FW I M j m (n+1) r o (by omega) k
    |rt v=>exact⟨k⟩
    |ct r=>exact k.elim
    |bk r=>exact k.elim
theorem zP {b:fC} (I:Nat->bA->bh->Prop) (M:Nat) (h:M<1000000) (e:I 0 ρ Z) (a:∀n ρ Z,I n ρ Z->(∃Z1,c ρ Z= .ok SN Z1/\N ρ Z1)\/(n<M/\∃Z1,c ρ Z= .ok Sz Z1/\kS (b ρ Z1) (I (n+1)) T X)):kS (qu c b ρ Z) N T X:=FW I M a 1000000 0 ρ Z (by omega) e
theorem CW {b:fC} (I:Nat->bA->bh->Prop):∀(ds:List D) (k:Nat) (ρ:bA) (Z:bh),I k ρ Z->(∀i d ρ Z,ds[i]? =lD d->I (k+i) ρ Z->∃ρ1 Z1,gt (.fz d) ρ Z= .ok ρ1 Z1/\kS (b ρ1 Z1) (I (k+i+1)) T X)->kS (lA gt b ds ρ Z) (I (k+ds.length)) T X
 |[],k,ρ,Z,h0,_=>⟨h0⟩
 |d::r,k,ρ,Z,h0,hs=>by
  obtain⟨ρ1,Z1,w,u⟩:=hs 0 d ρ Z rfl h0;have l:∀a p,I (k+1) a p->kS (lA gt b r a p) (I (k+(r.length+1))) T X:=fun a p h=>by
   have e:k+(r.length+1)=k+1+r.length:=by omega
   rw[e];refine CW I r (k+1) a p h fun i A j q hi t=> ?_;have e:k+1+i=k+(i+1):=by omega
   rw[e] at t⊢;exact hs (i+1) A j q (by simpa using hi) t
  refine .eq (show lA gt b (d::r) ρ Z=(b ρ1 Z1).bind fun m Y=>match m with
   | .nx ρ2=>lA gt b r ρ2 Y
   | .ct ρ2=>lA gt b r ρ2 Y
   | .bk ρ2=> .ok (.nx ρ2) Y
   | .rt x=> .ok (.rt x) Y from ?_) (Out.bind (u.imp fun m o k=> ?_))
  .show((gt (.fz d) ρ Z).bind _)=_
   rw[w,RS.bind_ok]
   all_goals (cases b ρ1 Z1 with
    |bad=>rfl
    |er x o=>rfl
    |ok m o=>cases m<;>rfl)
  .cases m with
   |nx r=>exact l _ _ k
   |rt v=>exact⟨k⟩
   |ct r=>exact k.elim
   |bk r=>exact k.elim
theorem IZ {b:fC} (I:Nat->bA->bh->Prop) (hi:fi ρ Z= .ok ds Z1) (h:I 0 ρ Z1) (a:∀i d ρ Z,ds[i]? =lD d->I i ρ Z->∃ρ1 Z1,gt (.fz d) ρ Z= .ok ρ1 Z1/\kS (b ρ1 Z1) (I (i+1)) T X) (e:∀ρ' Z',I ds.length ρ' Z'->N ρ' Z'):kS (zA fi gt b ρ Z) N T X:=by
 have:=CW I ds 0 ρ Z1 h (by simpa using a);rw[Ud] at this;refine .eq ?_ (this.imp fun j o k=> ?_)
 .unfold zA;rw[hi,RS.bind_ok]
 .cases j with
  |nx r=>exact e _ _ k
  |rt v=>exact k
  |ct r=>exact k.elim
  |bk r=>exact k.elim
theorem iB (I:Nat->bA->bh->List SV->Prop):∀(ds:List D) (k:Nat) (ρ:bA) (Z:bh) (a:List SV),I k ρ Z a->(∀i d ρ Z a,ds[i]? =lD d->I (k+i) ρ Z a->a.length<1000000/\∃ρ1,gt (.fz d) ρ Z= .ok ρ1 Z/\ft ρ1 Z= .ok Sz Z/\Out (fe ρ1 Z) (fun x Y=>I (k+i+1) ρ1 Y (a++[x])) X)->Out (ck gt ft fe ds ρ Z a) (fun xs Z'=>∃ρ',I (k+ds.length) ρ' Z' xs) X
 |[],k,ρ,Z,a,h0,_=>⟨ρ,h0⟩
 |d::r,k,ρ,Z,a,h0,hs=>by
  obtain⟨q,ρ1,v,u,t⟩:=hs 0 d ρ Z a rfl h0;refine .eq (show ck gt ft fe (d::r) ρ Z a=(fe ρ1 Z).bind fun x Z3=>ck gt ft fe r ρ1 Z3 (a++[x]) from ?_) (Out.bind (t.imp fun x o p=> ?_))
  .show((gt (.fz d) ρ Z).bind _)=_
   rw[v,RS.bind_ok,u,RS.bind_ok,if_pos rfl];cases fe ρ1 Z with
   |bad=>rfl
   |er x o=>rfl
   |ok x o=>show(if a.length<1000000 then _ else _)=_;rw[if_pos q];rfl
  .have e:k+(d::r).length=k+1+r.length:=by rw[S3];omega
   rw[e];refine iB I r (k+1) ρ1 o _ p fun i w h l j hi m=> ?_;have e:k+1+i=k+(i+1):=by omega
   rw[e] at m⊢;exact hs (i+1) w h l j (by simpa using hi) m
theorem AZ (hi:fi ρ Z= .ok ds Z1) (a:Out (ck (fun x ρ Z=>g7 (gt x ρ Z)) (fun ρ Z=>g7 (ft ρ Z)) fe ds (e9 n fj ρ) Z1 []) (fun xs Y=>T (.rf Y.length) (Y++[.lst xs])) X):Out (sL n fj fi gt ft fe ρ Z) T X:=by unfold sL;rw[hi,RS.bind_ok];exact Out.bind (a.imp fun _ _ k=>⟨k⟩)
theorem Ch (a:fo ρ Z= .ok (.rf i) Z1) (h:Z1[i]? =lD (.obj C fs)) (hm:fs.lookup m=Sw) (ha:fa ρ Z1= .ok xs Y) (hn:(SV.rf i::xs).length=n):qH C m F n fo fa ρ Z=F (.rf i::xs) Y:=by
 have e:na Z1 C m (.rf i)=Sz:=by unfold na;dsimp only;rw[h];dsimp only;rw[hm];simp
 unfold qH;rw[a,RS.bind_ok,if_pos e,ha,RS.bind_ok,if_pos hn]
theorem IR (ha:fa ρ Z= .ok xs Z1) (hn:(SV.rf Z1.length::xs).length=n):Ez C F n fa ρ Z=(F (.rf Z1.length::xs) (Z1++[.obj C []])).bind fun r Y=>(if EF r=Sz then .ok (.rf Z1.length) Y else .bad):=by unfold Ez;rw[ha,RS.bind_ok];unfold uW;rw[if_pos hn]
theorem zc (ha:fa ρ Z= .ok xs Z1) (hn:(xs++es.map SV.fz).length=n):ym F n es fa ρ Z=F (xs++es.map SV.fz) Z1:=by unfold ym;rw[ha,RS.bind_ok,if_pos hn]
theorem vT (ha:fa ρ Z= .ok xs Z1) (hn:(xs++es.map SV.fz).length=n) (a:F (xs++es.map SV.fz) Z1= .ok x Y):tf F n es fa ρ Z= .ok x Y:=by unfold tf;rw[ha,RS.bind_ok,if_pos hn,a];rfl
theorem DJ {c f:Str} (h:fe ρ Z= .ok (.fz d) Z1) (hd:L9.Qv d=Sz):rV c f fe ρ Z= .er ⟨c,[(f,d)]⟩ Z1:=by unfold rV;rw[h,RS.bind_ok];dsimp only;rw[if_pos hd]
end
end L10
namespace L3
open PySem PyProof.Rows L2
section
variable {P:Te} {w:TF} {K:Ld} {mg:Str->Option Sx} {base h:Heap} {f T:SI} {n:Str} {t:U6} {ps:List Str} {Y:Nat} {sp:Sp} {U:wW} {Z:Array Sx}
theorem NI.ahq (i:NI K f n t) (X:K.In h) (G:h.Ns S4 mg) (b:BA n n t ps) (ok:∀fd,VU K n n t f fd->FnOk P w K mg base U Y f fd ps sp):pG P w K mg base U Y n ps [] sp:=
 let⟨fd,z⟩:=i.F;⟨f,fd,[],ok fd z,z.binds b,.nil,z.kp,UN X G i.a⟩
structure DI (K:Ld) (f T:SI) (n:Str) (t:U6) (Z:Array Sx):Prop where
 a:Ta K S4 n=lD (lD (.ref f))
 F:∃fd,Zt K n n t f fd T Z
theorem LP {x a:Str} {b:U6} {r:Sx} {q:Option SI} {kV e j:Sx} {l:Option SI} {i ct:Sx} {g:Array (Option Sx)} {p:Sx} {o:Option SI} {k:Nat} {m:Array (Option Sx)}
  (u:K.lookup f=lD ⟨r,q,.func (Uu x a (gh b) (cx b) (aA b) (.ref T) kV e j l i ct),g⟩) (y:Wv K i a=Sz) (v:UH K (.ref f)=Sz) (lt:K.lookup T=lD ⟨p,o,.seq Z k,m⟩):Zt K x a b f (Uu x a (gh b) (cx b) (aA b) (.ref T) kV e j l i ct) T Z:=
 ⟨⟨_,_,_,_,_,_,_,_,_,rfl,u,y⟩,v,_,_,lt,rfl⟩
def BD (n:Str) (t:U6) (T:SI) (Z:Array Sx) (ps:List Str) (ds:List Sx):Prop:=∀(kV b e:Sx) (g:Option SI) (i ct:Sx) (a:List Sx),(a++ds).length=ps.length->∃k:Option (Array Sx)->Sem (List (Str×Sx)),bindArgs (Uu n n (gh t) (cx t) (aA t) (.ref T) kV b e g i ct) ⟨a,[]⟩=seqItems? (.ref T)>>=k/\k (lD Z)=pure (ps.zip (a++ds))
theorem DI.cal {ds:List Sx} {dvs:List V} (i:DI K f T n t Z) (X:K.In h) (G:h.Ns S4 mg) (e:BD n t T Z ps ds) (b:Vals dvs ds) (ok:∀fd,Zt K n n t f fd T Z->FnOk P w K mg base U Y f fd ps sp):pG P w K mg base U Y n ps dvs sp:=
 let⟨fd,z⟩:=i.F;⟨f,fd,ds,ok fd z,z.binds e,b,z.kp,UN X G i.a⟩
end
structure Tp (P:Te) (w:TF) (K:Ld) (mg:Str->Option Sx) (base h:Heap):Prop where
 X:K.In h
 G:h.Ns S4 mg
section
variable {P:Te} {w:TF} {K:Ld} {mg:Str->Option Sx} {base h:Heap} {f C T:SI} {n m q:Str} {t:U6} {ps fs:List Str} {Z:Nat} {sp:Sp} {Y:wW} {U:Array Sx}
theorem NI.c (i:NI K f n t) (W:Tp P w K mg base h) (ok:∀fd,VU K n n t f fd->FnOk P w K mg base dS Z f fd ps sp) (a:BA n n t ps:=by fail "ba"):yT P w K mg base Z n ps sp:=i.cal W.X W.G a ok
theorem NI.d (i:NI K f n t) (W:Tp P w K mg base h) (ok:∀fd,VU K n n t f fd->FnOk P w K mg base Y Z f fd ps sp) (a:BA n n t ps:=by fail "ba"):pG P w K mg base Y Z n ps [] sp:=i.ahq W.X W.G a ok
theorem MI.mt (i:MI K C f m q t) (c:CI K C n fs) (W:Tp P w K mg base h) (ok:∀fd,VU K m q t f fd->FnOk P w K mg base Y Z f fd ps sp) (a:BA m q t ps:=by fail "ba"):L10.b8 P w K mg base Y Z n m ps sp:=i.afp c a ok
theorem MI.k (i:MI K C f "__init__" q t) (c:CI K C n fs) (W:Tp P w K mg base h) (ok:∀fd,VU K "__init__" q t f fd->FnOk P w K mg base Y Z f fd ps sp) (a:BA "__init__" q t ps:=by fail "ba"):L10.vN P w K mg base Y Z n ps sp:=i.ahy c W.X W.G a ok
theorem DI.c {ds:List Sx} {dvs:List V} (i:DI K f T n t U) (W:Tp P w K mg base h) (a:Vals dvs ds) (ok:∀fd,Zt K n n t f fd T U->FnOk P w K mg base Y Z f fd ps sp) (b:BD n t T U ps ds:=by fail "bd"):pG P w K mg base Y Z n ps dvs sp:=i.cal W.X W.G b a ok
end
end L3
namespace LD
open PySem PySem.Spec PyProof.Rows L2 L3
section
variable {prog:Te} {w:TF} {K:Type} [DecidableEq K] {knd:ag4 prog w K} {A:Tw} {E:Sx->SK->Prop} {s:SK}
theorem EN (t:knd.room A) (g:knd.is s.heap k a) (hm:s.heap.DictOfH knd d xs) (hsz:xs.length<=SY)
  (F:∀p,atKey xs k=lD p->Q p.2 {s with toks:=s.toks+knd.draws k})
  (C:atKey xs k=Sw->∀h',h'.DictOfH knd d (storedH xs k a v)->Heap.SameBut d s.heap h'->Q v {s with heap:=h',toks:=s.toks+knd.draws k}):wpAny (model prog w) A (dictSetDefault d (.ref a) v) Q E s:=by
 obtain⟨o,H,G,h,B,f,n,m,hn⟩:=hm;unfold dictSetDefault
 try specialize UK ?_
 refine Sv (knd.pyHash t g (Sv (wpAny_dictFind_heap t g h f n m hn (fun i=> ?_) fun j p u=> ?_)))
 .have l:=atKey_none_of_get i
  have q:=C l;rw[storedH_new l] at q;have r:=not_mem_keys_of_get i;refine Sv (W7 (Sv (wpAny_updateDictKeys (hz:=by have e:=afT n;omega) h f (SQ (q _ ⟨_,_,G+1,Heap.get?_update_self _ h (Obj.isFreed_of_dict (Obj.data_mapDictKeys f _)),B.mapDictKeys _,Obj.data_mapDictKeys f _,by simp[n,entryOfKey],fun x b=> ?_,?_⟩ (Heap.SameBut.update ..))))))
  .rcases TZ.mp b with b|b
   .exact knd.keeps (m x b) h f (Heap.SameBut.update ..)
   .rw[Td.mp b];exact knd.keeps g h f (Heap.SameBut.update ..)
  .rw[Tc,V4];exact⟨hn,by simp,fun x b y z e=>r (by rw[Td.mp z] at e;rw[show k=x from e.symm];exact b)⟩
 .have q:=F p (atKey_of_get hn u);refine Sv (aej h f ?_);rw[entry_at n j,u];exact Sv (W7 (SQ q))
theorem zU (d a:SI) (hd:(d==Us)=SN) (v:Sx):MeetsIn prog w (Ua.«dict.setdefault» ⟨[.ref d,.ref a,v],[]⟩) (fun A R s=>knd.room A.in1/\∃k xs,knd.is s.heap k a/\s.heap.DictOfH knd d xs/\xs.length<=SY/\
  (∀p,atKey xs k=lD p->R (.ok (.ret p.2)) {s with toks:=s.toks+knd.draws k})/\(atKey xs k=Sw->∀h',h'.DictOfH knd d (storedH xs k a v)->Heap.SameBut d s.heap h'->R (.ok (.ret v)) {s with heap:=h',toks:=s.toks+knd.draws k})):=
 .of_wp fun A R s ⟨h,k,xs,g,hm,b,l,j⟩=>by refine Sv ?_;refine Sv (acu hm.typeIs ?_);refine SQ ?_;show wpAny _ _ (if(d==Us)=Sz then _ else(dictSetDefault d (.ref a) v>>=_)) _ _ s;rw[if_neg (by rw[hd];exact S9)];exact Sv (EN h g hm b (fun p i=>SQ ⟨p.2,rfl,l p i⟩) fun hn h' f e=>SQ ⟨v,rfl,j hn h' f e⟩)
end
section
variable {X:Cx} {Z:List (SI×Obj)} {Y:L2.St} {H:Hp} {s:SK} {A:Tw} {E:Sx->SK->Prop} {a b:SI} {xs:List (KD×SI×V)} {k:KD} {v:V} {r:Sx}
theorem Ki (M:A.units+64<cLine) (I:L2.Inv X Z Y H s) (e:H a=lD (DkO a xs)) (y:uc X.K H xs) (C:L2.DV X.K H (.ref b) k.1) (rv:RelV v r) (N:xs.length<SY)
  (J:∀u w' s',lP xs k=lD u->L2.Inv X Z Y H s'->RelV u w'->Q w' s') (G:lP xs k=Sw->∀s',L2.Inv X Z Y (bJ H a (DkO a (mV xs k b v))) s'->Q r s'):
  wpAny (model X.prog X.w) A (call (.builtin "dict.setdefault") [.ref a,.ref b,r]) Q E s:=by
 obtain⟨z,m,l,h,dd⟩:=zk I e y;have n:l.length<=SY:=by rw[<-Paired.length h];exact z
 have j:(mV xs k b v).length<=SY:=by have:=qU xs k b v;omega
 have f:=wY (k:=k) h;refine Zp YY dd.typeIs PySem.F.entry_dict_setdefault (PySem.F.args_dict_setdefault_3 _ _ _) (zU a b m r) ⟨rJ (by omega),k,l,uo I C,dd,n,fun p t=> ?_,fun hn L i o=> ?_⟩
 .rw[t] at f
  cases g:lP xs k with
  |none=>rw[g] at f;exact f.elim
  |some u=>rw[g] at f;exact J u p.2 _ g (I.tok _) f
 .rw[hn] at f
  cases g:lP xs k with
  |some u=>rw[g] at f;exact f.elim
  |none=>
   refine G g _ ?_;have B:∃q,L.get? a=lD q:=let⟨q,_,_,hq,_⟩:=i;⟨q,hq⟩
   exact ox I (by rw[e];exact True.intro) o B (Ax j m (Gc rv h) i)
def Mu (K:Ld) (h ty g:TE):TE:=fun Y H Q=>h Y H fun x f=>∃a xs0,x= .ref a/\f a=lD (DkO a xs0)/\ty Y f fun y i=>g Y i fun z e=>∃b xs k,y= .ref b/\e a=lD (DkO a xs)/\uc K e xs/\L2.DV K e (.ref b) k.1/\xs.length<SY/\
 (∀u,lP xs k=lD u->Q u e)/\(lP xs k=Sw->Q z (bJ e a (DkO a (mV xs k b z))))
end
section
variable {X:Cx} {o e f:T4} {td ty tx:TE} {Z VF:Pos}
theorem ac0 (P:X.A.units+64<cLine) (R:PE X o td) (U:PE X e ty) (T:PE X f tx) (m:M2 X o "setdefault" Z e f VF):PE X (.Call (.Attribute o "setdefault" Z) [e,f] [] VF) (Mu X.K td ty tx):=by
 intro i s j H Q I h;refine aeg m.base m.few m.line VQ YY PySem.F.type_dict_setdefault (cO (R i s j H _ I h) fun u B ⟨x,H1,p,E,a,q,ex,e0,M⟩=> ?_);subst ex;obtain rfl:=E;obtain⟨t,r,_⟩:=Dy p e0;refine⟨t,r,?_⟩;rw[m.trees];refine Calls.callWith_builtin rfl (Calls.evalArgs_plain (Calls.spliced_cons (cO (U i B j H1 _ p M) fun iv w ⟨y,H2,I2,C,L⟩=>
  Calls.spliced_cons (cO (T i w j H2 _ I2 L) fun fv s3 ⟨z,H3,I3,n,b,xs,k,Y,e3,N,O,S,J,G⟩=>Calls.spliced_nil ?_))))
 subst Y;obtain rfl:=C;exact Ki P I3 e3 N O n S (fun u w' v g l Zl=>⟨u,H3,l,Zl,J u g⟩) fun g v l=>⟨z,_,l,n,G g⟩
end
end LD
namespace L10
open PySem PyProof.Rows L2 L3 LD
section
variable {B O O':cw} {K:Ld} {E:XK} {H H' H1 H2:Hp} {α α' U X:List SI} {Z Z' Z1 S Y:bh} {T:L2.St} {ρ:bA} {v:V}
def zu (fd b a:ef):ef:=fun ρ Z=>(fd ρ Z).bind fun o Z1=>(RS.TX Z1 (pE Z1 o)).bind fun _ Z1=>(b ρ Z1).bind fun x S=>(a ρ S).bind fun z Y=>(RS.TX Y (lc x)).bind fun k Y=>(RS.TX Y (P0 z)).bind fun e Y=>(RS.TX Y (pE Y o)).bind fun p Y=>
 if p.2.length<1000000 then(match g9 p.2 k with
  |some d=> .ok (.fz d) Y
  |none=> .ok (.fz e) (Y.set p.1 (.dd (ou p.2 k e)))) else .bad
theorem Ij (hd:cW K E td fd) (hk:cW K E tk fk) (hx:cW K E tx fx):cW K E (Mu K td tk tx) (zu fd fk fx):=by
 intro B T H α Z ρ Q s t w;refine hd B T H α Z ρ _ s t (w.bind.imp fun o U Z1 H1 e1 L r u N=> ?_);obtain⟨⟨i0,afc⟩,q0,r⟩:=WS.TX r;obtain⟨_,a,p,_,rfl,g0,_⟩:=vd L N q0;refine⟨a,p,rfl,g0,?_⟩;refine hk B T H1 U Z1 ρ _ L (t.Vm e1) (r.bind.imp fun x X S H2 e2 s2 w2 v hv=> ?_);refine hx B T H2 X S ρ _ s2 (t.Vm (e1.trans e2)) (w2.bind.imp fun z f Y j e3 A g l hz=> ?_);obtain⟨d,q1,g⟩:=WS.TX g;obtain⟨e,C,g⟩:=WS.TX g;obtain⟨⟨i,Ti⟩,q2,g⟩:=WS.TX g;obtain⟨F,a',xs,ha,ea,g1,n⟩:=vd A (N.Vm (e2.trans e3)) q2;cases ea;obtain⟨k,b,rfl,rfl,P⟩:=ph q1 (hv.Vm e3);have h:L3.DV (ow B f Y) K j l e:=by
  cases z with
  |fz d=>cases C;exact hz
  |rf _=>cases C
  |tp _=>cases C
 by_cases I:Ti.length<1000000
 .rw[if_pos I] at g
  have G:xs.length<SY:=ut (by rw[Paired.length n];exact I);obtain⟨M,p2⟩:=oM n;refine⟨b,xs,k,rfl,g1,u0 n,P.plain,G,fun u m=> ?_,fun R=> ?_⟩
  .cases q:g9 Ti k.1 with
   |none=>rw[p2 q] at m;cases m
   |some y=>rw[q] at g;obtain⟨u',J,h'⟩:=M y q;rw[J] at m;cases m;exact WS.now A g _ h'
  .cases q:g9 Ti k.1 with
   |some y=>obtain⟨u',J,_⟩:=M y q;rw[J] at R;cases R
   |none=>rw[q] at g;have ev:Ev (ow B f Y) j (ow B f Y) (bJ j a (DkO a (mV xs k b l))):=pX ha F (by intro z;cases z);have e4:UW f Y j f (Y.set i (.dd (ou Ti k.1 e))) (bJ j a (DkO a (mV xs k b l))):=UW.put ha F (by intro z;cases z) (by intro z;cases z);exact g f _ e4 (A.put ha F (by intro z;cases z) (by intro z;cases z) ⟨_,aR,z6 (P.ev ev) (h.ev ev) (Gy ev n)⟩) l (VY.Vm e4 h)
 .rw[if_neg I] at g;exact g.elim
end
end L10
namespace LD
open PySem PySem.Spec PyProof.Rows L2 L3
section
variable {prog:Te} {w:TF} {K:Type} [DecidableEq K] {knd:ag4 prog w K} {A:Tw} {E:Sx->SK->Prop} {s:SK}
theorem A4 (d:SI) (hd:(d==Us)=SN):MeetsIn prog w (Ua.«dict.__len__» ⟨[.ref d],[]⟩) (fun _ R s=>∃xs,s.heap.DictOfH knd d xs/\R (.ok (.ret (.int xs.length s.toks))) {s with toks:=s.toks+1}):=
 .of_wp fun A R s ⟨xs,hm,h⟩=>by obtain⟨o,i,j,b,g,a,f,e,hn⟩:=hm;show wpAny _ _ (dictSize d>>=_) _ _ s;refine Sv (Sv (aej b a (SQ ?_)));refine Sv (wpAny_pendingCount_other hd ?_);refine wpAny_ret_mkInt ?_;rw[Nat.add_zero,afT f];exact h
theorem IW (hd:(d==Us)=SN) (hm:s.heap.DictOfH knd d xs) (a:(xs.length:Int)<2^63)
  (h:Q (.int xs.length (s.toks+1)) {s with toks:=s.toks+1+1}):wpAny (model prog w) A (call (.builtin "len") [.ref d]) Q E s:=by
 refine Calls.call_function_entry kind_len plain_len entry_len (args_len1 _) ?_;refine Sv (SQ ?_);refine Sv (Vi hm.typeIs Z9
  (Zp Z9 hm.typeIs PySem.F.entry_dict_len (PySem.F.args_dict_len_1 _) (A4 d hd) ⟨xs,hm,?_⟩))
 refine Sv (UK (SQ ?_));refine Sv (VN ?_);rw[if_neg (by omega)];rw[if_neg (by omega)];exact Sv (acF (SQ ⟨_,rfl,h⟩))
end
def FZ (K:Ld):List V->Hp->(V->Hp->Prop)->Prop:=fun xs H Q=>∃a Ti,xs=[V.ref a]/\H a=lD (DkO a Ti)/\uc K H Ti/\Q (.int Ti.length) H
theorem aa2:Vx X (.builtin "len") (FZ X.K):=by intro e s j H xs m Q I r h;obtain⟨a,Ti,rfl,ha,g,q⟩:=h;obtain⟨u,rfl,f⟩:=kE r;cases f;obtain⟨z,i,l,b,dd⟩:=zk I ha g;refine IW i dd (by rw[<-Paired.length b];rw[U9] at z;omega) ?_;rw[<-Paired.length b];exact⟨.int Ti.length,H,I.tok _,⟨_,rfl⟩,q⟩
end LD
namespace L10
open PySem PyProof.Rows L2 L3 LD
section
variable {B O O':cw} {K:Ld} {E:XK}
def qh (fd:ef):ef:=fun ρ Z=>(fd ρ Z).bind fun o a=>(RS.TX a (pE a o)).bind fun p a=> .ok (.fz (.int p.2.length)) a
theorem Et (hd:cW K E td fd):cW K E (GV (FZ K) (gP td lY)) (qh fd):=by intro B h H α Z ρ Q s j w;refine hd B h H α Z ρ _ s j (w.bind.imp fun o b q r p f e u m=> ?_);obtain⟨⟨i,Ti⟩,l,e⟩:=WS.TX e;obtain⟨_,a,xs,ha,rfl,n,g⟩:=vd f m l;refine⟨a,xs,rfl,n,u0 g,?_⟩;rw[Paired.length g];exact e b _ .refl f _ (.int _)
def lQ (fe:ef):KW:=fun ρ Z=>(fe ρ Z).bind fun x a=>(RS.TX a (P0 x)).bind fun d a=>RS.TX a (ip [d])
theorem HW (h:cW K E tl fe):PY K E (Jx (gP tl lY)) (lQ fe):=by
 intro B i H α Z ρ r s l w;refine h B i H α Z ρ _ s l (WS.imp (WS.bind w) fun x b p g q m a v n=> ?_);obtain⟨d,e,a⟩:=WS.TX a;cases qx:ip [d] with
 |none=>rw[qx] at a;exact a.elim
 |some ds=>
  rw[qx] at a;have o:L3.DV (ow B b p) K g v d:=by
   cases x with
   |fz d=>cases e;exact n
   |rf _=>cases e
   |tp _=>cases e
  cases d with
  |int j=>
   unfold ip at qx;dsimp only at qx;split at qx
   .rename_i f;cases qx;cases o;exact⟨j,rfl,f.1,f.2,a b g .refl m _ zx⟩
   .cases qx
  |_=>cases qx
end
end L10
namespace L4
open PySem PySem.Spec PyProof.Rows L2 L3
def M9 (E2:XK) (f e:TS):TS:=fun D b H=>f D b H/\∀c dx H1,E2 c dx H1->∀(a:L2.St),a.length=b.length->e {nx:=D.nx,rt:=fun _ _=>False} a H1
theorem LM {X:Cx} {G P:List U6} {b0:U6} {tb ts:TS} {E2:XK} {U:SI} {x:Str} {np aha pos:Pos} {mU:List Sx}
  (hex:X.ex=[]) (dR:X.stack=X.env::X.outer) (hfr:X.env.frame=lD X.env.locals) (hg:Gl X x) (hm:X.mg x=lD (.ref U)) (hU:yk X.K U mU) (hbU:mU.contains (.type "BaseException")=Sz)
  (hb:∀l,YA ((Cx.pinned X l).XH (Iq (Cx.pinned X l) E2)) G tb) (hs:∀l e,YA (Cx.marked (Cx.pinned X l) e) (b0::P) ts)
  (hE:∀c dx H,E2 c dx H->∃C m,c= .ref C/\yk X.K C m/\(Sx.ref C::m).contains (.ref U)=Sz) (ZP:(x==("__debug__":Str))=SN:=by decide):
  PS X (.Try G [.ExceptHandler (lD (.Name x np)) Sw (b0::P) aha] [] [] pos) (M9 E2 tb ts):=by
 intro g s σ H D I ⟨h,hc⟩;have IY:=K5 I;have M:(Cx.pinned X (X.pn++g)).ex=[]:=hex;refine wpAny_Try_except (wpAny_mono (hb (X.pn++g) [] s σ H D (IY.XH _) h) (fun f O n=> ?_) (fun v O hx=> ?_))
 .have n:=SP.Wm n
  cases f with
  |next=>obtain⟨a,j,i,E⟩:=n;exact WJ ⟨a,j,jJ I.ok i,E⟩
  |brk=>obtain⟨a,j,i,E⟩:=n;exact⟨a,j,jJ I.ok i,E⟩
  |cont=>obtain⟨a,j,i,E⟩:=n;exact⟨a,j,jJ I.ok i,E⟩
  |ret u=>obtain⟨v,a,j,i,r,E⟩:=n;exact⟨v,a,j,jJ I.ok i,r,E⟩
 .obtain⟨a,j,e,c,dx,a0,T,rfl,i,F,S,R,ne,nT,q⟩:=hx
  obtain⟨C,mC,hcC,⟨n1,E,N1,b1,d1,t1,u1,a1,l1,x1,i0,i1,i2,i3,i5,id1,kC⟩,hup⟩:=hE c dx j q;obtain⟨n2,q2,N2,b2,d2,t2,u2,a2,l2,x2,j0,j1,j2,j3,j5,id2,kU⟩:=hU;have fr:X.A.frames=lD (X.env::X.outer):=by rw[<-dR];exact I.ok.frames
  have ff:O.heap.FunFrames X.base (X.env::X.outer):=by rw[<-dR];exact i.stack
  refine Lx fr ff hfr F fun h2 Y z2 F2 N=> ?_
  have I2:L2.Inv (Cx.pinned X (X.pn++g)) [] a j {O with heap:=h2}:=tP i (fun b=>b=e\/b=T) M (fun p Q y=>y.elim (S.nP p Q) (R.nP p Q))
   (fun b o z t nf=>N.keep b o z (fun y=>t (.inl y)) (fun y=>t (.inr (S7 y).symm)) (by rw[<-dR];exact nf))
   (fun b o z t=>N.slot b o z (fun y=>t (.inl y)) (fun y=>t (.inr (S7 y).symm))) N.here
   (fun b y=>y.elim (fun y=>by rw[y];exact S.n0) (fun y=>by rw[y];exact R.n0)) (fun y=>y.elim (fun y=>S.nL y.symm) (fun y=>R.nL y.symm))
   (fun y k z w=>w.elim (S.nC y k z) (R.nC y k z)) (fun b y=>y.elim (fun y=>by rw[y];exact ne) (fun y=>by rw[y];exact nT))
  have B:Apart (Cx.pinned X (X.pn++g)) Y:=sg i M (Heap.get?_none_of_le z2);have nT2:j Y=Sw:=i.Up.fresh z2;refine wpAny_handleBy_cons (codeAny_handlers_test (mv (X:=Cx.marked (Cx.pinned X (X.pn++g)) e) (tJ I2 e) hg hm ?_ ZP)) (by intro y;cases y);have F2':=F2;obtain⟨ob,fs,qe,cE,dE,dF,_⟩:=F2';refine G6 (I2.Ye _ _ kC) (I2.Ye _ _ kU) qe (cE.trans hcC) hbU hup ?_;refine codeAny_handlers_suite (Nz F2 fun h3 F3 WQ hT3=> ?_)
  have I3:L2.Inv (Cx.pinned X (X.pn++g)) [] a j {O with heap:=h3}:=tP (s:={O with heap:=h2}) I2 (fun b=>b=Y) M (fun p Q y=>B.nP p Q y)
   (fun b o z t _=>(WQ b t).trans z) (fun b o z t=>⟨o.slots,(WQ b t).trans z⟩)
   (fun b o z=>(Classical.em (b=Y)).elim (fun y=>by rw[y];exact hT3) (fun y=>⟨o,(WQ b y).trans z⟩)) (fun b y=>by rw[y];exact B.n0) (fun y=>B.nL y.symm) (fun y k z w=>B.nC y k z w) (fun b y=>by rw[y];exact nT2)
  have w:=hc c dx j q a (i.len.trans I.len.symm);refine wpAny_mono (hs (X.pn++g) e [] _ _ _ _ (tJ I3 e) w) (fun f s5 n=> ?_) (fun y s5 z=>z.elim);cases f with
  |next=>obtain⟨J,H2,Z,L⟩:=n;exact⟨_,_,jJ I.ok (Af IY.ok Z),L⟩
  |brk=>obtain⟨J,H2,Z,L⟩:=n;exact L.elim
  |cont=>obtain⟨J,H2,Z,L⟩:=n;exact L.elim
  |ret u=>obtain⟨v,J,H2,Z,r,L⟩:=n;exact L.elim
end L4
namespace M02
inductive Con (E:List (Nat×Nat)) (r0:Nat):Bool->Nat->Prop
 |base:Con E r0 Sz r0
 |col {r c:Nat}:Con E r0 Sz r->(r,c)∈E->Con E r0 SN c
 |row {r c:Nat}:Con E r0 SN c->(r,c)∈E->Con E r0 Sz r
def has (n c:Nat):Prop:=n.testBit c=Sz
structure Nums (E:List (Nat×Nat)) (R C:Nat) (ns:List Nat):Prop where
 len:ns.length=R
 lt:∀n∈ns,n<2^C
 own:∀r c,(r,c)∈E->has (ns.getD r 0) c
 snd:∀r,r<R->∀c,has (ns.getD r 0) c->Con E r SN c
abbrev NF:=List Nat×List Nat
structure alI (E:List (Nat×Nat)) (r0:Nat) (s:NF):Prop where
 a:r0∈s.1
 n:∀x∈s.1,Con E r0 Sz x
 f:∀x∈s.2,Con E r0 SN x
 d:s.2.Nodup
 d1:s.1.Nodup
structure ams (R C:Nat) (ss:List (Nat×Nat)):Prop where
 r1:1<=R
 r6:R<=6
 c1:1<=C
 c6:C<=6
 l1:1<=ss.length
 l12:ss.length<=12
 nd:ss.Nodup
 inn:∀s∈ss,s.1<R/\s.2<C
end M02
local macro_rules(kind:=«term{_}»)|`({$a})=>`(L3.ae $a L3.ay)|`({$a,$b})=>`(L3.ae $a (L3.ae $b L3.ay))|`({$a,$b,$c})=>`(L3.ae $a (L3.ae $b (L3.ae $c L3.ay)))|`({$a,$b,$c,$d})=>`(L3.ae $a (L3.ae $b (L3.ae $c (L3.ae $d L3.ay))))
local macro_rules|`(~~~$n)=>`(L3.pC (.int $n))
namespace STP
open PySem L2 L3
def nU:FS:=(bW (kO (aJ (aN tE (aN bw (aa 0) (~~~2)) (pC .none))) (dG (aN bw (aa 0) (~~~2))) dB)
 (dG (fq (L10.Gj 0) {dX 2 [] (fu (aN bw (aa 0) (~~~0))) (gT 2 (PL (gN 0) (PL (gN 1) Q2))) (aJ (aN dC (aN bw (aa 1) (~~~0)) (pC (.str "layer")))) (aN bw (aa 1) (~~~1))})))
def d9:FN:=gR 1 nU
def k8:FS:=(bW (jg (aN bw (aN bw (aN bw (aa 0) (~~~1)) (aa 1)) (aa 2)) (gN 3))
 (bW (kO (aJ (aN dC (aN bw (aa 3) (~~~0)) (pC (.str "below")))) (dG (aN bw (aN bw (aN bw (aa 0) (~~~1)) (~~~0)) (aa 2))) dB)
 (dG (aa 3))))
def jr:FN:=gR 4 k8
def jG:FS:=(dG (dX 1 [1] (fu (aN bw (aa 0) (~~~2))) (gN 0) (aJ (fq sr {dX 1 [0] (fu (aa 1)) (gN 0) cV (aN K8 (aa 0) (aN bw (aa 1) (~~~0)))})) (aa 0)))
def bH:FN:=gR 2 jG
def ko:FS:=(bW (pQ (fu (aN bw (aa 0) (~~~2))) (gN 2) (kO (aJ (aN dC (fq xW {aN bw (aa 2) (~~~0)}) (fq L9.im {aa 1}))) (dG (aN d5 (di {cP {pC (.str "letter"),aN bw (aa 2) (~~~1)}}) (aN i7 (di {pC (.tuple [(.str "none")])}) (aN uO (fq b4 {aa 1}) (~~~1))))) dB))
 (dG (dX 1 [0] (fu (aa 1)) (gN 0) cV (aN bw (aN bw (aN bw (aa 1) (~~~1)) (~~~0)) (aa 0)))))
def fY:FN:=gR 3 ko
open L10
def kH:fC:=(aO (eS "Hand" "bed" (ao 0) (af (aa 1)))
 (aO (eS "Hand" "acts" (ao 0) (yZ (af (aN bw (aa 2) (~~~0)))))
 (aO (eS "Hand" "waiting" (ao 0) (af (aN bw (aa 2) (~~~1))))
 (aO (eS "Hand" "once" (ao 0) (af (aN bw (aa 2) (~~~2))))
 (eS "Hand" "sent" (ao 0) (af (di ay)))))))
def eC:ji:=dg 3 kH
def mZ:fC:=(gL (mP (aj (jT fU (aj (eU 1 [0] (fQ (vW (aV "Hand" "acts" (ao 0)))) (dY 0) cK (mP (aj (af (aa 0)) (aj (vx (aV "Hand" "acts" (ao 1)) (af (aa 0))) aC)))) aC)) (aj (aV "Hand" "waiting" (ao 0)) (aj (aV "Hand" "once" (ao 0)) aC)))))
def bG:ji:=dg 1 mZ
def jp:fC:=(gL (A8 (lw tE (aV "Hand" "waiting" (ao 0)) (af (pC .none))) (lw K8 (af (aa 1)) (g6 (aV "Hand" "waiting" (ao 0)) (af (~~~0))))))
def cg:ji:=dg 2 jp
def l7:fC:=(gL (lw K8 (af (aa 1)) (B5 (aV "Hand" "acts" (ao 0)))))
def bO:ji:=dg 2 l7
def lL:fC:=(aO (cM (o0 (cr (aJ (aN dC (aN bw (aa 2) (~~~0)) (pC (.str "letter"))))) (yE (bN (a8 "Hand" "has_act" bO 2 (ao 0) (aj (af (aa 2)) aC))))) (bU (kJ (aV "Hand" "sent" (ao 0)) (af (cP {aN bw (aa 2) (~~~1),pC (.str "down")})))) dA)
 (yh (aV "Hand" "acts" (ao 0)) (af (aa 1)) (af (aa 2))))
def bC:ji:=dg 3 lL
def qC:fC:=(aO (cY (zz (aV "Hand" "acts" (ao 0)) (af (aa 1))) (dY 2))
 (cM (o0 (cr (aJ (aN dC (aN bw (aa 2) (~~~0)) (pC (.str "letter"))))) (yE (bN (a8 "Hand" "has_act" bO 2 (ao 0) (aj (af (aa 2)) aC))))) (bU (kJ (aV "Hand" "sent" (ao 0)) (af (cP {aN bw (aa 2) (~~~1),pC (.str "up")})))) dA))
def jL:ji:=dg 3 qC
def nu:fC:=(aO (cY (g6 (aV "Hand" "waiting" (ao 0)) (af (~~~0))) (dY 1))
 (aO (cY (g6 (aV "Hand" "waiting" (ao 0)) (af (~~~2))) (dY 2))
 (aO (eS "Hand" "waiting" (ao 0) (af (pC .none)))
 (aO (cY (oW (Ph (cr (aJ (aN dC (aa 2) (pC (.tuple [(.str "chord")]))))) (jP fY 2 (aj (aV "Hand" "bed" (ao 0)) (aj (af (aa 1)) aC))) (af (di {cP {pC (.str "layer"),aN bw (aa 2) (~~~2)}})))) (dY 3))
 (zA (fM (zL {aa 1,aa 3})) (PU 2 (tT (dY 4) (tT (dY 5) El))) (bU (a8 "Hand" "come" bC 3 (ao 0) (aj (af (aa 4)) (aj (af (aa 5)) aC)))))))))
def b6:ji:=dg 6 nu
def fH:fC:=(aO (cM (Dr (bN (lw uH (aV "Hand" "waiting" (ao 0)) (af (pC .none)))) (Dr (bN (lw uB (g6 (aV "Hand" "waiting" (ao 0)) (af (~~~2))) (af (pC (.tuple [(.str "chord")]))))) (bN (lw uB (jP d9 1 (aj (a8 "Hand" "stands" bG 1 (ao 0) aC) aC)) (af (~~~0)))))) (gL (af (pC (.bool SN)))) dA)
 (gL (lw uB (jP bH 2 (aj (aV "Hand" "bed" (ao 0)) (aj (lw d5 (g6 (aV "Hand" "waiting" (ao 0)) (af (~~~0))) (af (cP {aa 1}))) aC))) (af (di ay)))))
def d7:ji:=dg 2 fH
def g8:fC:=(aO (cY (lw d5 (g6 (aV "Hand" "waiting" (ao 0)) (af (~~~0))) (af (cP {aa 1}))) (dY 2))
 (aO (eS "Hand" "waiting" (ao 0) (mP (aj (af (aa 2)) (aj (g6 (aV "Hand" "waiting" (ao 0)) (af (~~~1))) (aj (af (pC (.tuple [(.str "chord")]))) aC)))))
 (cM (bN (lw dC (eU 1 [] (fQ (jP bH 2 (aj (aV "Hand" "bed" (ao 0)) (aj (af (aa 2)) aC)))) (dY 0) cK (af (fq b4 {aN bw (aa 0) (~~~0)}))) (af (di {fq b4 {aa 2}})))) (bU (a8 "Hand" "decide" b6 1 (ao 0) aC)) dA)))
def dD:ji:=dg 3 g8
def ky:fC:=(aO (cY (jP d9 1 (aj (a8 "Hand" "stands" bG 1 (ao 0) aC) aC)) (dY 2))
 (aO (cY (jP jr 3 (aj (aV "Hand" "bed" (ao 0)) (aj (af (aa 2)) (aj (af (aa 1)) aC)))) (dY 3))
 (aO (cY (af (aN bw (aa 3) (~~~0))) (dY 4))
 (aO (cM (cr (aJ (aN xI (aa 4) (cP {pC (.str "layer"),pC (.str "once")})))) (eS "Hand" "once" (ao 0) (af (pC .none))) dA)
 (cM (cr (aJ (aN dC (aa 4) (pC (.str "tap"))))) (eS "Hand" "waiting" (ao 0) (af (cP {cP {aa 1},~~~0,aa 3}))) (cM (o0 (cr (aJ (aN dC (aa 4) (pC (.str "letter"))))) (o0 (cr (aJ (aN dC (aa 2) (~~~0)))) (bN (lw uB (jP bH 2 (aj (aV "Hand" "bed" (ao 0)) (aj (af (cP {aa 1})) aC))) (af (di ay)))))) (eS "Hand" "waiting" (ao 0) (af (cP {cP {aa 1},~~~0,pC (.tuple [(.str "chord")])}))) (cM (cr (aJ (aN dC (aa 4) (pC (.str "once"))))) (aO (bU (a8 "Hand" "come" bC 3 (ao 0) (aj (af (aa 1)) (aj (af (pC (.tuple [(.str "none")]))) aC))))
 (eS "Hand" "once" (ao 0) (af (aN bw (aa 3) (~~~1))))) (bU (a8 "Hand" "come" bC 3 (ao 0) (aj (af (aa 1)) (aj (af (aa 3)) aC)))))))))))
def gl:ji:=dg 5 ky
def kB:fC:=(aO (cM (Dr (bN (yP SN (af (aa 1)) (aV "Hand" "acts" (ao 0)))) (bN (a8 "Hand" "is_waiting" cg 2 (ao 0) (aj (af (aa 1)) aC)))) vH dA)
 (aO (cM (bN (a8 "Hand" "makes_chord" d7 2 (ao 0) (aj (af (aa 1)) aC))) (aO (bU (a8 "Hand" "put_to_chord" dD 2 (ao 0) (aj (af (aa 1)) aC)))
 vH) dA)
 (aO (cM (bN (lw tE (aV "Hand" "waiting" (ao 0)) (af (pC .none)))) (bU (a8 "Hand" "decide" b6 1 (ao 0) aC)) dA)
 (bU (a8 "Hand" "begin" gl 2 (ao 0) (aj (af (aa 1)) aC))))))
def hW:ji:=dg 2 kB
def jD:fC:=(aO (cY (g6 (aV "Hand" "waiting" (ao 0)) (af (~~~2))) (dY 2))
 (cM (cr (aJ (aN dC (aa 2) (pC (.tuple [(.str "chord")]))))) (bU (a8 "Hand" "decide" b6 1 (ao 0) aC)) (aO (eS "Hand" "waiting" (ao 0) (af (pC .none)))
 (bU (a8 "Hand" "come" bC 3 (ao 0) (aj (af (aa 1)) (aj (af (cP {pC (.str "letter"),aN bw (aa 2) (~~~1)})) aC)))))))
def gF:ji:=dg 3 jD
def lu:fC:=(aO (cM (bN (a8 "Hand" "is_waiting" cg 2 (ao 0) (aj (af (aa 1)) aC))) (bU (a8 "Hand" "settle" gF 2 (ao 0) (aj (af (aa 1)) aC))) dA)
 (cM (bN (yP SN (af (aa 1)) (aV "Hand" "acts" (ao 0)))) (bU (a8 "Hand" "go" jL 2 (ao 0) (aj (af (aa 1)) aC))) dA))
def jt:ji:=dg 2 lu
def iU:fC:=(aO (cM (bN (lw uH (aV "Hand" "waiting" (ao 0)) (af (pC .none)))) vH dA)
 (aO (cY (lw d5 (g6 (aV "Hand" "waiting" (ao 0)) (af (~~~1))) (af (~~~1))) (dY 1))
 (aO (eS "Hand" "waiting" (ao 0) (mP (aj (g6 (aV "Hand" "waiting" (ao 0)) (af (~~~0))) (aj (af (aa 1)) (aj (g6 (aV "Hand" "waiting" (ao 0)) (af (~~~2))) aC)))))
 (cM (bN (lw dC (af (aa 1)) (g6 (aV "Hand" "bed" (ao 0)) (af (~~~3))))) (bU (a8 "Hand" "decide" b6 1 (ao 0) aC)) dA))))
def gp:ji:=dg 2 iU
def Be:fC:=(aO (cY (vP "Hand" eC 3 (aj (af (aa 0)) (aj (af (aa 1)) aC))) (dY 3))
 (aO (cM (cr (aJ (aN dC (aN bw (aa 2) (~~~0)) (pC (.str "turn"))))) (bU (a8 "Hand" "wait_on" gp 1 (ao 3) aC)) (cM (cr (aJ (aN dC (aN bw (aa 2) (~~~0)) (pC (.str "down"))))) (bU (a8 "Hand" "press" hW 2 (ao 3) (aj (af (aN bw (aa 2) (~~~1))) aC))) (bU (a8 "Hand" "lift" jt 2 (ao 3) (aj (af (aN bw (aa 2) (~~~1))) aC)))))
 (gL (mP (aj (aV "Hand" "sent" (ao 3)) (aj (a8 "Hand" "stands" bG 1 (ao 3) aC) aC))))))
def lW:ji:=dg 4 Be
end STP
local macro_rules| `(tactic|fail "nm")=> `(tactic|first|((simp only[abE,abF]);rfl)|rfl)| `(tactic|fail "evf")=> `(tactic|first|with_reducible assumption|change L3.gz _ _|change L3.ul _ _|change L3.pV _ _|change L3.ae6 _ _|change L3.CF _ _|change L3.zJ _ _|change L3.Aw _ _|change L3.ahM _ _|change L3.jj _ _|change L3.v4 _ _|change L3.ab1 _ _|change L3.abY _ _|change L3.agt _ _|change L3.af2 _ _|change L3.xJ _ _|change L3.agn _ _|change L3.agQ _ _|change L3.ae2 _ _|change L3.xP _ _|change L3.afB _ _|change L3.afz _ _|change L3.afX _ _|change L3.ahY _ _|change L3.jO|change L3.kP|change L3.sO|change L3.ala|change L3.alk|change L3.MO|change L3.lV _|change L3.i4 _|(with_reducible rfl))| `(tactic|fail "ev")=> `(tactic|first
 |change L3.aL
 |((exists L3.ag);rfl)
 |((exists L3.lz);rfl)
 |change L3.aG
 |change L3.ae0
 |((exists L3.aK);(·fail "ev");(·fail "ev");(·rfl);(·rfl);(·fail "evf"))
 |((exists L3.Cc);(·fail "ev");(·rfl);(·rfl))
 |((exists L3.am);(·fail "ev");(·fail "ev"))
 |((exists L3.a9);(·fail "ev");(·rfl))
 |((exists L3.cD);(·fail "ev");(·rfl);(·first|fail "evf"|rfl))
 |((exists L3.dr);(·fail "ev");(·rfl);(·rfl);(·with_reducible assumption))
 |((exists L3.iJ);(·fail "ev");(·rfl);(·exact SR rfl))
 |((exists L3.tU);(·fail "ev");(·rfl);(·exact SR rfl))
 |((exists L3.iY);(·fail "ev");(·rfl);(·rfl))
 |((exists L3.afE);(·fail "ev");(·rfl))
 |((exists L3.ajI);(·fail "ev");(·fail "ev");(·fail "ev");(·rfl);(·first|with_reducible assumption|rfl))
 |((exists L3.fF);(·fail "ev"))
 |((exists L3.xz);(·fail "ev");(·intro _;fail "ev"))
 |((exists L3.jb);(·fail "ev");(·intro _;fail "ev"))
 |((exists L3.agz);(·fail "ev"))
 |((exists L3.oo);(·fail "ev");(·intro _;fail "ev"))
 |((exists L3.adP);(·fail "ev");(·intro _;fail "ev"))
 |((exists L3.xQ);(·fail "ev");(·rfl);(·first|with_reducible assumption|rfl))
 |((exists L3.eX);(·fail "ev");(·rfl);(·rfl))
 |((exists L3.afK);(·fail "ev");(·rfl);(·rfl))
 |((exists L3.A3);(·rfl);(·fail "ev");(·rfl);(·rfl);(·first|with_reducible assumption|(simp only[U2,S3,L3.ir] at*;omega));(·fail "nm"))
 |((exists L3.aiA);(·rfl);(·fail "ev");(·rfl);(·rfl);(·with_reducible assumption);(·with_reducible assumption);(·with_reducible assumption);(·fail "nm"))
 |((exists L3.AW);(·fail "ev");(·rfl);(·fail "nm"))
 |((exists L3.DA);(·fail "ev"))
 |((exists L3.qv);(·fail "ev");(·rfl)))
local macro_rules| `(tactic|fail "evb")=> `(tactic|first
 |((exists L3.ahV);(·fail "ev");(·fail "ev");(·rfl);(·rfl);(·fail "evf"))
 |((exists L3.agS);(·fail "ev");(·rfl);(·rfl);(·with_reducible assumption))
 |((exists L3.ait);(·fail "ev");(·rfl);(·first|fail "evf"|rfl))
 |fail "ev")
local macro_rules| `(tactic|fail "ev")=> `(tactic|first
 |with_reducible assumption
 |((exists L3.oo);(·fail "ev");(·intro _;fail "evb"))
 |((exists L3.adP);(·fail "ev");(·intro _;fail "evb"))
 |((exists L3.sV);(·fail "ev");(·fail "ev");(·fail "ev");(·rfl);(·rfl);(·rfl);(·fail "evf");(·intro _;fail "evf"))
 |((exists L3.xh);(·fail "ev");(·rfl);(·rfl);(·rfl)))
local macro_rules| `(tactic|fail "go")=> `(tactic|first
 |((exists L3.fW);(·fail "ev");(·rfl);(·fail "nm");try fail "go")
 |((exists L3.af8);(·fail "ev");try fail "go")
 |((exists L3.FD);try fail "go")
 |((exists L3.dZ);try fail "go")
 |((exists L3.jB);(·fail "ev");(·rfl))
 |((exists L3.jx);(·fail "ev"))
 |((exists L3.ahn);(·fail "ev");(·rfl);(·fail "nm"))
 |((exists L3.wV);(·fail "ev"))
 |((exists L3.gA);(·fail "ev");(·rfl))
 |((exists L3.HD);(·fail "ev"))
 |(exists L3.wc))
namespace STP
open PySem L2 L3
def jU (c:Nat):Str:=⟨#[97+c]⟩
inductive Mn where
 |TK (c:Nat)
 |Vr (n:Int)
 |YB (c:Nat) (n:Int)
 |once (n:Int)
 |none
 |below
 deriving DecidableEq
def mD:Mn->D
 | .TK c=> .tuple [.str "letter",.str (jU c)]
 | .Vr n=> .tuple [.str "layer",.int n]
 | .YB c n=> .tuple [.str "tap",.str (jU c),.int n]
 | .once n=> .tuple [.str "once",.int n]
 | .none=> .tuple [.str "none"]
 | .below=> .tuple [.str "below"]
def VM (L a:Int):Mn->Prop
 | .TK c=>c<26
 | .Vr n=>1<=n/\n<a
 | .YB c n=>c<26/\1<=n/\n<a
 | .once n=>1<=n/\n<a
 | .none=>True
 | .below=>L≠0
def Mn.isL:Mn->Bool
 | .TK _=>Sz
 |_=>SN
structure Bd where
 n:Int
 ls:List (List Mn)
 cs:List (List Nat×Nat)
 wt:Int
def kW (l:List Mn):D:= .tuple (l.map mD)
def gy (c:List Nat×Nat):D:= .tuple [.tuple (bV c.1),.str (jU c.2)]
def bD (b:Bd):D:= .tuple [.int b.n,.tuple (b.ls.map kW),.tuple (b.cs.map gy),.int b.wt]
def VL (n a:Int) (b:List (List Mn)):Prop:=∀(i:Nat) l,b[i]? =lD l->(l.length:Int)=n/\∀m∈l,VM i a m
def E3 (l0:List Mn) (k:Nat):Bool:=(l0[k]?.map Mn.isL).getD SN
def VC (l0:List Mn) (c:List Nat×Nat):Prop:=2<=c.1.length/\c.1.Pairwise (·<·)/\(∀k∈c.1,E3 l0 k=Sz)/\c.2<26
structure VB (b:Bd):Prop where
 n1:1<=b.n
 n5:b.n<=5
 l1:1<=b.ls.length
 l3:b.ls.length<=3
 vl:VL b.n b.ls.length b.ls
 c4:b.cs.length<=4
 vc:∀c∈b.cs,VC (b.ls.headD []) c
 cu:b.cs.Pairwise fun a c=>a.1≠c.1
 w1:1<=b.wt
 w4:b.wt<=4
def wn:Mn->Nat
 | .TK _=>0
 | .Vr _=>1
 | .YB _ _=>2
 | .once _=>3
 | .none=>4
 | .below=>5
def ws:Nat->Str
 |0=> "letter"
 |1=> "layer"
 |2=> "tap"
 |3=> "once"
 |4=> "none"
 |_=> "below"
def wd (m:Mn):Str:=ws (wn m)
theorem vn (m:Mn):wn m<6:=by cases m<;>exact SR rfl
theorem uR (m:Mn):bw (mD m) (.int 0)=lD (.fz (.str (wd m))):=by cases m<;>exact jO
theorem M5 (m:Mn):SG.strOk (wd m)=Sz:=(by left:∀i,i<6->SG.strOk (ws i)=Sz) _ (vn m)
theorem Dn:∀i,i<6->∀j,j<6->(ws i==ws j)=decide (i=j):=by left
theorem zr (m:Mn) (j:Nat) (a:j<6):dC (.str (wd m)) (.str (ws j))=lD (.fz (.bool (decide (wn m=j)))):=by rw[Rs (M5 m) ((by left:∀i,i<6->SG.strOk (ws i)=Sz) j a)];unfold wd;rw[Dn _ (vn m) _ a]
def Mn.isB:Mn->Bool
 | .below=>Sz
 |_=>SN
def Mn.abq:Mn->Bool
 | .Vr _=>Sz
 |_=>SN
def Mn.isT:Mn->Bool
 | .YB _ _=>Sz
 |_=>SN
def Mn.isO:Mn->Bool
 | .once _=>Sz
 |_=>SN
theorem mE (m:Mn):dC (.str (wd m)) (.str "letter")=lD (.fz (.bool m.isL)):=(zr m 0 (by decide)).trans (by cases m<;>rfl)
theorem Gr (m:Mn):dC (.str (wd m)) (.str "below")=lD (.fz (.bool m.isB)):=(zr m 5 (by decide)).trans (by cases m<;>rfl)
theorem Hv (m:Mn):dC (.str (wd m)) (.str "layer")=lD (.fz (.bool m.abq)):=(zr m 1 (by decide)).trans (by cases m<;>rfl)
theorem Oz (m:Mn):dC (.str (wd m)) (.str "tap")=lD (.fz (.bool m.isT)):=(zr m 2 (by decide)).trans (by cases m<;>rfl)
theorem Ms (m:Mn):dC (.str (wd m)) (.str "once")=lD (.fz (.bool m.isO)):=(zr m 3 (by decide)).trans (by cases m<;>rfl)
theorem QJ (m:Mn):xI (.str (wd m)) (.tuple [.str "layer",.str "once"])=lD (.fz (.bool (!(m.abq||m.isO)))):=by
 have h:∀a:Str,SG.strOk a=Sz->xI (.str a) (.tuple [.str "layer",.str "once"])=lD (.fz (.bool (!(("layer":Str)==a||("once":Str)==a)))):=fun a ha=>by show(if(m9 (.str a)&&(SG.strOk "layer"&&(SG.strOk "once"&&Sz)))=Sz then lD (RV.fz (.bool (!(SG.eqv (.str "layer") (.str a)||(SG.eqv (.str "once") (.str a)||false))))) else Sw)=_;rw[show m9 (.str a)=Sz by unfold m9;rw[show SG.canLay0 (.str a)=Sz from ha];rfl,show SG.strOk "layer"=Sz by left,show SG.strOk "once"=Sz by left,adA];rfl
 rw[h _ (M5 m)];unfold wd;rw[show(("layer":Str)==ws (wn m))=_ from Dn 1 (by decide) _ (vn m),show(("once":Str)==ws (wn m))=_ from Dn 3 (by decide) _ (vn m)];cases m<;>rfl
def LB:Mn->Prop
 | .TK c=>c<26
 | .YB c _=>c<26
 |_=>True
theorem VM.lb (h:VM L nL m):LB m:=by
 cases m with
 |TK c=>exact h
 |YB c n=>exact h.1
 |_=>trivial
theorem nX (h:c<26):SG.strOk (jU c)=Sz:=by show((#[97+c]:Array Nat).all fun c=>decide (c<0x110000))=Sz;simp;omega
theorem KR (h:jU c=jU d):c=d:=by
 have:(97+c)=97+d:=by have a:=congrArg (fun z:Str=>z.cps.toList) h;exact List.head_eq_of_cons_eq a
 omega
theorem IH (h:LB m):SG.canLay0 (mD m)=Sz:=by
 cases m with
 |TK c=>show(SG.strOk "letter"&&(SG.strOk (jU c)&&Sz))=Sz;rw[nX h,show SG.strOk "letter"=Sz by left];rfl
 |Vr n=>show(SG.strOk "layer"&&(Sz&&Sz))=Sz;left
 |YB c n=>show(SG.strOk "tap"&&(SG.strOk (jU c)&&(Sz&&Sz)))=Sz;rw[nX h,show SG.strOk "tap"=Sz by left];rfl
 |once n=>show(SG.strOk "once"&&(Sz&&Sz))=Sz;left
 |none=>show(SG.strOk "none"&&Sz)=Sz;left
 |below=>show(SG.strOk "below"&&Sz)=Sz;left
theorem IU (h:LB m):m9 (mD m)=Sz:=by unfold m9;rw[IH h];cases m<;>rfl
def mR:Mn->List D
 | .TK c=>[.str (jU c)]
 | .Vr n=>[.int n]
 | .YB c n=>[.str (jU c),.int n]
 | .once n=>[.int n]
 | .none=>[]
 | .below=>[]
theorem No (m:Mn):mD m= .tuple (.str (wd m)::mR m):=by cases m<;>rfl
theorem QH (a b:Mn):decide (wd a=wd b)=decide (wn a=wn b):=by have h:=Dn _ (vn a) _ (vn b);unfold wd;rw[<-h];rfl
theorem Du (c d:Nat):decide (jU c=jU d)=decide (c=d):=decide_eq_decide.mpr ⟨KR,fun h=>by rw[h]⟩
theorem Ny (a b:Mn) (h:wn a=wn b):SG.eqvAll (mR a) (mR b)=decide (a=b):=by
 cases a<;>cases b<;>first|cases h|skip
 .show(decide (jU _=jU _)&&Sz)=_;rw[Du,Yp];exact decide_eq_decide.mpr ⟨fun h=>by rw[h],fun h=>by cases h;rfl⟩
 .show(decide (_=_)&&Sz)=_;rw[Yp];exact decide_eq_decide.mpr ⟨fun h=>by rw[h],fun h=>by cases h;rfl⟩
 .show(decide (jU _=jU _)&&(decide (_=_)&&Sz))=_;rw[Du,Yp,<-Bool.decide_and];exact decide_eq_decide.mpr ⟨fun h=>by rw[h.1,h.2],fun h=>by cases h;exact⟨rfl,rfl⟩⟩
 .show(decide (_=_)&&Sz)=_;rw[Yp];exact decide_eq_decide.mpr ⟨fun h=>by rw[h],fun h=>by cases h;rfl⟩
 .rfl
 .rfl
theorem Ob (a b:Mn):SG.eqv (mD a) (mD b)=decide (a=b):=by
 rw[No,No];show(decide (wd a=wd b)&&SG.eqvAll (mR a) (mR b))=_;rw[QH];by_cases h:wn a=wn b
 .rw[decide_eq_true h,Yo,Ny a b h]
 .rw[decide_eq_false h,WE,decide_eq_false fun z=>h (by rw[z])]
theorem Cl:∀{l:List Mn},(∀m∈l,LB m)->SG.canLayAll0 (l.map mD)=Sz
 |[],_=>rfl
 |m::r,h=>by show(SG.canLay0 (mD m)&&SG.canLayAll0 (r.map mD))=Sz;rw[IH (h m S5),Cl fun x a=>h x (S2 _ a)];rfl
theorem Cf (a:Mn):∀l:List Mn,((l.map mD).any fun e=>SG.eqv e (mD a))=decide (a∈l)
 |[]=>rfl
 |m::r=>by rw[S6,Wk,Cf a r,Ob,<-Bool.decide_or];exact decide_eq_decide.mpr (by rw[Tq];exact⟨fun h=>h.imp (fun z=>z.symm) id,fun h=>h.imp (fun z=>z.symm) id⟩)
theorem Ks {l:List Mn} (ha:LB a) (b:∀m∈l,LB m):K8 (mD a) (.list (l.map mD))=lD (.fz (.bool (decide (a∈l)))):=by show(if(m9 (mD a)&&SG.canLayAll0 (l.map mD))=Sz then _ else _)=_;rw[IU ha,Cl b,Vl,if_pos rfl,Cf]
theorem Ci (e:α->D) (g:α->Option D) (I:bq->Prop) (xs:List α) (p:I ρ) (i:xs.length<=1000) (b:∀x∈xs,∀ρ,I ρ->∃ρ',lj gt ft fe (e x) ρ= .ok (g x,ρ')/\I ρ'):kR (dU gt ft fe (xs.map e) ρ [])= .ok (xs.filterMap g):=by
 have h:∀(xs:List α) (a:List D) (ρ:bq),I ρ->a.length+xs.length<=1000->(∀x∈xs,∀ρ,I ρ->∃ρ',lj gt ft fe (e x) ρ= .ok (g x,ρ')/\I ρ')->dU gt ft fe (xs.map e) ρ a= .ok (a++xs.filterMap g):=by
  intro xs
  induction xs with
  |nil=>intro a ρ _ _ _;show Res.ok a=_;rw[List.filterMap_nil,Tr]
  |cons x r j=>
   intro a ρ m i b;rw[S3] at i;obtain⟨ρ',o,n⟩:=b x S5 ρ m;rw[S6,uj o (by omega)];have f:(a++(g x).toList).length+r.length<=1000:=by
    rw[SH];cases g x with
    |none=>rw[abf,U2];omega
    |some y=>rw[Option.toList_some,XI];omega
   rw[j _ ρ' n f fun y l=>b y (S2 _ l),Tg];cases q:g x with
   |none=>rw[aaa q];rfl
   |some y=>rw[aab q];rfl
 rw[h xs [] ρ p (by simpa using i) b];rfl
theorem CS (a:dI cp=cp):dI (lD (PV.fz d)::cp)=lD (.fz d)::cp:=by show HJ _::dI cp=_;rw[a];rfl
theorem xA {α:Type} {ft:FT} {fe:FE} {cp:bq} (e f:α->D) (p:α->Bool) (xs:List α) (i:xs.length<=1000) (l:dI cp=cp) (g:∀x∈xs,ft (lD (.fz (e x))::cp)= .ok (p x,lD (.fz (e x))::cp)) (j:∀x∈xs,p x=Sz->fe (lD (.fz (e x))::cp)= .ok (.fz (f x),lD (.fz (e x))::cp)):kR (dU (gN 0) ft fe (xs.map e) (Sw::cp) [])= .ok ((xs.filter p).map f):=by
 rw[Ci e (fun x=>if p x=Sz then lD (f x) else Sw) (fun ρ=>∃o,ρ=o::cp) xs ⟨Sw,rfl⟩ i ?_]
 .congr 1
  clear i g j
  induction xs with
  |nil=>rfl
  |cons x r h=>
   cases q:p x with
   |true=>rw[aab (b:=f x) (by rw[if_pos q]),List.filter_cons_of_pos q,h];rfl
   |false=>rw[aaa (by rw[if_neg (by rw[q];simp)]),List.filter_cons_of_neg (by rw[q];simp),h]
 .rintro x a ρ ⟨o,rfl⟩
  cases q:p x with
  |true=>exact⟨_,JS rfl ((g x a).trans (by rw[q])) (j x a q) rfl (CS l),_,rfl⟩
  |false=>exact⟨_,Qw rfl ((g x a).trans (by rw[q])) (CS l),_,rfl⟩
theorem Bh (xs:List α):xs.filter (fun _=>Sz)=xs:=List.filter_eq_self.mpr fun _ _=>rfl
theorem gH {α:Type} (e f:α->D) (xs:List α) (b:xs.length<=1000) (h:dI cp=cp) (g:∀x∈xs,fe (lD (.fz (e x))::cp)= .ok (.fz (f x),lD (.fz (e x))::cp)):kR (dU (gN 0) cV fe (xs.map e) (Sw::cp) [])= .ok (xs.map f):=by rw[xA e f (fun _=>Sz) xs b h (fun _ _=>rfl) fun x a _=>g x a,Bh]
theorem lB (p:α->Bool):∀l:List α,rC (l.map fun c=>SG.bool (p c))=lD (l.map p)
 |[]=>rfl
 |c::r=>by show(rC (r.map fun c=>SG.bool (p c))).map (p c::·)=_;rw[lB p r];rfl
theorem lM (p:α->Bool) (l:List α):sr [.list (l.map fun c=>SG.bool (p c))]=lD (.fz (.bool (l.all p))):=by show(rC _).map (fun bs=>RV.fz (.bool (bs.all id)))=_;rw[lB];show lD (RV.fz (.bool _))=_;rw[aek];rfl
theorem iH:∀ns:List Int,kM (ns.map SG.int)=lD ns
 |[]=>rfl
 |n::r=>by show(kM (r.map SG.int)).map (n::·)=_;rw[iH r];rfl
abbrev Ac:=Nat->Option Mn
abbrev Wq:=Option (List Nat×Int×Option (Nat×Int))
structure Vt where
 ac:Ac
 wt:Wq
 oc:Option Int
def iy (ac:Ac):List (Nat×Mn):=(SJ 5).filterMap fun k=>(ac k).map fun a=>(k,a)
def pD (p:Nat×Mn):D:= .tuple [nd p.1,mD p.2]
def uI:Option (Nat×Int)->D
 |some (c,n)=>mD (.YB c n)
 |none=> .tuple [.str "chord"]
def kh:Wq->D
 |some (ks,a,w)=> .tuple [.tuple (bV ks),.int a,uI w]
 |none=> .none
def uy:Option Int->D
 |some o=> .int o
 |none=> .none
def eE (s:Vt):D:= .tuple [.tuple ((iy s.ac).map pD),kh s.wt,uy s.oc]
inductive Xk where
 |down (k:Nat)
 |up (k:Nat)
 |turn
def gv:Xk->D
 | .down k=> .tuple [.str "down",nd k]
 | .up k=> .tuple [.str "up",nd k]
 | .turn=> .tuple [.str "turn",.int 0]
theorem mn:p∈iy ac↔p.1<5/\ac p.1=lD p.2:=by
 unfold iy;rw[WG];constructor
 .rintro⟨k,e,b⟩
  cases q:ac k with
  |none=>rw[q] at b;cases b
  |some a=>rw[q] at b;cases b;exact⟨TL.mp e,q⟩
 .rintro⟨e,b⟩;exact⟨p.1,TL.mpr e,by rw[b];rfl⟩
theorem wN (ac:Ac):(iy ac).length<=5:=List.length_filterMap_le _ _
def Nw:Nat×Mn->Option Int
 |(_,.Vr n)=>lD n
 |_=>Sw
def zh (ac:Ac):Int:=(((iy ac).filterMap Nw).foldl mK Sw).getD 0
def rp (ac:Ac):Option Int->Int
 |some o=>o
 |none=>zh ac
theorem Jl (ac:Ac):kR (dU (gT 2 (PL (gN 0) (PL (gN 1) Q2))) (aJ (aN dC (aN bw (aa 1) (~~~0)) (pC (.str "layer")))) (aN bw (aa 1) (~~~1)) ((iy ac).map pD) [Sw,Sw] [])= .ok (((iy ac).filterMap Nw).map .int):=by
 rw[Ci pD (fun p=>(Nw p).map .int) (fun ρ=>∃e b,ρ=[e,b]) (iy ac) ⟨Sw,Sw,rfl⟩ (TJ (wN ac) (by decide)) ?_,List.map_filterMap];rintro⟨k,a⟩ _ ρ ⟨e,b,rfl⟩;have h:=uR a;have g:=Hv a;have f:aJ (aN dC (aN bw (aa 1) (~~~0)) (pC (.str "layer"))) [lD (.fz (nd k)),lD (.fz (mD a))]= .ok (a.abq,[lD (.fz (nd k)),lD (.fz (mD a))]):=by fail "ev"
 refine⟨[lD (.fz (nd k)),lD (.fz (mD a))],?_,_,_,rfl⟩;cases a with
 |Vr n=>exact JS rfl f (aK (ag rfl) aL rfl rfl kP) rfl rfl
 |_=>exact Qw rfl f rfl
theorem zH (s:Vt):d9 [eE s]= .ok (.fz (.int (rp s.ac s.oc))):=by
 refine ja rfl ?_;have a:bw (eE s) (.int 2)=lD (.fz (uy s.oc)):=sO;have e0:bw (eE s) (.int 0)=lD (.fz (.tuple ((iy s.ac).map pD))):=jO;unfold nU;cases q:s.oc with
 |some o=>
  rw[q] at a;have b:tE (uy (lD o)) .none=lD (.fz (.bool Sz)):=rfl;fail "go"
  .intro _;exact jB (by fail "ev") rfl rfl
  .intro h;cases h
 |none=>
  rw[q] at a;have b:tE (uy Sw) .none=lD (.fz (.bool SN)):=rfl;fail "go"
  .intro h;cases h
  .intro _;refine dZ (gA (cD (rv:= .fz (.int (zh s.ac))) (am (ei (by fail "ev") rfl (Jl s.ac)) aG) rfl ?_) rfl rfl);show(kM _).map _=_;rw[iH];rfl
def uC (b:Bd) (L k:Nat):Mn:=((b.ls[L]?.getD [])[k]?).getD .none
def look (b:Bd) (L:Int) (k:Nat):Mn:=if(uC b L.toNat k).isB=Sz then uC b 0 k else uC b L.toNat k
section
variable {b:Bd} (Z:VB b)
include Z
theorem MH {L k:Nat} (a:L<b.ls.length) (f:(k:Int)<b.n):∃l,b.ls[L]? =lD l/\l[k]? =lD (uC b L k):=by
 have g:=Z.vl L _ (SM a);have e:k<(b.ls[L]).length:=by omega
 refine⟨_,SM a,?_⟩;unfold uC;rw[SM a,YL,SM e];rfl
theorem Ar {L k:Nat} (e:L<b.ls.length) (a:(k:Int)<b.n):VM L b.ls.length (uC b L k):=by obtain⟨l,g,f⟩:=MH Z e a;exact(Z.vl L l g).2 _ (Tt f)
theorem Hf {L k:Nat} (e:L<b.ls.length) (a:(k:Int)<b.n):∃d,bw (.tuple (b.ls.map kW)) (nd L)=lD (.fz d)/\bw d (nd k)=lD (.fz (mD (uC b L k))):=by obtain⟨l,g,f⟩:=MH Z e a;exact⟨kW l,M8 (by rw[SX,g];rfl),M8 (by rw[SX,f];rfl)⟩
theorem Mj {L:Int} {k:Nat} (r:0<=L) (p:L<b.ls.length) (e:(k:Int)<b.n):jr [bD b,.int L,nd k]= .ok (.fz (mD (look b L k))):=by
 obtain⟨n,rfl⟩:∃n:Nat,L=(n:Int):=⟨L.toNat,by omega⟩;have o:=Z.l1;obtain⟨d,u,j⟩:=Hf Z (L:=n) (by omega) e;obtain⟨l,i,h⟩:=Hf Z (L:=0) (by omega) e;have v:bw (bD b) (.int 1)=lD (.fz (.tuple (b.ls.map kW))):=kP;have g:=uR (uC b n k);have f:=Gr (uC b n k);have t:bw (.tuple (b.ls.map kW)) (.int 0)=lD (.fz l):=i;have a:look b (n:Int) k=if(uC b n k).isB=Sz then uC b 0 k else uC b n k:=rfl
 rw[a];generalize uC b n k=m at j g f a;generalize uC b 0 k=m0 at h a;refine ja rfl ?_;unfold k8;fail "go"
 .intro q;rw[if_pos q];exact jB (by fail "ev") rfl rfl
 .intro q;rw[if_neg (by rw[q];simp)];exact dZ (gA (by fail "ev") rfl rfl)
theorem xE {L:Int} {k:Nat} (g:0<=L) (i:L<b.ls.length) (f:(k:Int)<b.n):VM L b.ls.length (look b L k)/\look b L k≠ .below:=by
 have h:=Z.l1;have a:=Ar Z (L:=0) (k:=k) (by omega) f;have v:=Ar Z (L:=L.toNat) (k:=k) (by omega) f;have e:uC b 0 k≠ .below:=fun z=>by rw[z] at a;exact a rfl
 rw[Ym g] at v;unfold look;split
 .refine⟨?_,e⟩
  generalize uC b 0 k=m at a e;cases m with
  |below=>exact absurd rfl e
  |_=>exact a
 .rename_i q;refine⟨v,fun z=> ?_⟩;rw[z] at q;exact q rfl
omit Z in
theorem Fw (ks:List Nat) (a:ks.length<=5) (c:List Nat×Nat):aJ (fq sr {dX 1 [0] (fu (aa 1)) (gN 0) cV (aN K8 (aa 0) (aN bw (aa 1) (~~~0)))}) [lD (.fz (gy c)),lD (.fz (.tuple (bV ks)))]= .ok (ks.all fun k=>decide (k∈c.1),[lD (.fz (gy c)),lD (.fz (.tuple (bV ks)))]):=by
 have e:kR (dU (gN 0) cV (aN K8 (aa 0) (aN bw (aa 1) (~~~0))) (bV ks) [Sw,lD (.fz (gy c))] [])= .ok (ks.map fun k=> .bool (decide (k∈c.1))):=gH nd (fun k=> .bool (decide (k∈c.1))) ks (by omega) rfl fun k _=>by have e0:bw (gy c) (.int 0)=lD (.fz (.tuple (bV c.1))):=jO;exact aK (rv:= .fz (.bool (decide (k∈c.1)))) (ag rfl) (by fail "ev") rfl rfl (xP _ _)
 exact a9 (cD (rv:= .fz (.bool (ks.all fun k=>decide (k∈c.1)))) (ds:=[.list (ks.map fun k=> .bool (decide (k∈c.1)))]) (am (ei (cs:=[gy c]) (ds:=bV ks) (by fail "ev") rfl e) aG) rfl (lM _ _)) rfl
def fS (b:Bd) (ks:List Nat):List (List Nat×Nat):=b.cs.filter fun c=>ks.all fun k=>decide (k∈c.1)
theorem CA (a:ks.length<=5):bH [bD b,.tuple (bV ks)]= .ok (.ow ((fS b ks).map gy)):=by have f:bw (bD b) (.int 2)=lD (.fz (.tuple (b.cs.map gy))):=sO;have e:=Z.c4;refine ja rfl ?_;unfold jG;exact gA (ei (cs:=[.tuple (bV ks)]) (by fail "ev") rfl (xA gy gy (fun c=>ks.all fun k=>decide (k∈c.1)) b.cs (by omega) rfl (fun c _=>Fw ks a c) fun c _ _=>ag rfl)) rfl rfl
def ri (ks:List Nat):List Nat:=(lU (ks.map Y8)).map aaC
omit Z in
theorem uh (ks:List Nat):(ri ks).Perm ks:=by have h:=(fK (ks.map Y8)).map aaC;rw[Tj] at h;exact h.trans (by rw[show(aaC∘Y8)=id from funext fun x=>rfl,List.map_id])
omit Z in
theorem Mp (ks:List Nat):(lU (ks.map Y8)).map SG.int=bV (ri ks):=by unfold ri bV;rw[Tj];refine Uz fun x a=> ?_;obtain⟨n,_,rfl⟩:=Tv.mp ((fK _).mem_iff.mp a);rfl
omit Z in
theorem BB (ks:List Nat):(ri ks).Pairwise (·<=·):=by
 have h:∀l:List Int,l.Pairwise (·<=·)->(l.map aaC).Pairwise (·<=·):=fun l h=>by rw[WT];exact h.imp fun h=>by omega
 exact h _ (eV _)
omit Z in
theorem Lg (ks:List Nat):(ri ks).length=ks.length:=(uh ks).length_eq
omit Z in
theorem yB {ks:List Nat} (h:ks.length<64):L9.im [.tuple (bV ks)]=lD (.ow (bV (ri ks))):=by
 have e:bV ks=(ks.map Y8).map SG.int:=by rw[Tj];rfl
 show(match kM (bV ks) with
  |some a=>if a.length<64 then lD (RV.ow ((lU a).map .int)) else Sw
  |none=>Sw)=_
 rw[e,iH];dsimp only;rw[if_pos (by rw[Sy];exact h),Mp]
def QT (b:Bd) (ks:List Nat):List Mn:=match b.cs.find? fun c=>decide (c.1=ri ks) with
 |some c=> .TK c.2::SS (ks.length - 1) .none
 |none=>ks.map (uC b 0)
omit Z in
omit Z in
theorem Qq (n:Nat) (d:D):(SS n [d]).flatten=SS n d:=by
 induction n with
 |zero=>rfl
 |succ n a=>rw[Ub,U4,a];rfl
theorem OE {ks:List Nat} (G:1<=ks.length) (F:ks.length<=5) (B:∀k∈ks,(k:Int)<b.n):fY [bD b,.tuple (bV ks)]= .ok (.ow ((QT b ks).map mD)):=by
 have H:bw (bD b) (.int 2)=lD (.fz (.tuple (b.cs.map gy))):=sO;have I:bw (bD b) (.int 1)=lD (.fz (.tuple (b.ls.map kW))):=kP;have E:=Z.l1;have i:=yB (ks:=ks) (by omega);refine ja rfl ?_;unfold ko;have rt:∀c:List Nat×Nat,(aN d5 (di {cP {pC (.str "letter"),aN bw (aa 2) (~~~1)}}) (aN i7 (di {pC (.tuple [(.str "none")])}) (aN uO (fq b4 {aa 1}) (~~~1)))) [lD (.fz (bD b)),lD (.fz (.tuple (bV ks))),lD (.fz (gy c))]= .ok (.ow ((Mn.TK c.2::SS (ks.length - 1) Mn.none).map mD),[lD (.fz (bD b)),lD (.fz (.tuple (bV ks))),lD (.fz (gy c))]):=fun c=>by
  have l:bw (gy c) (.int 1)=lD (.fz (.str (jU c.2))):=kP;have j:i7 (.list [.tuple [.str "none"]]) (.int (((bV ks).length:Int) - 1))=lD (.ow (SS (ks.length - 1) (.tuple [.str "none"]))):=by rw[ir,show((ks.length:Int) - 1)=((ks.length - 1:Nat):Int) by omega];exact(Ot (by omega) (by decide)).trans (by rw[Qq])
  have y:d5 (.list [mD (.TK c.2)]) (.list (SS (ks.length - 1) (.tuple [.str "none"])))=lD (.ow ((Mn.TK c.2::SS (ks.length - 1) Mn.none).map mD)):=by show(if 1+(SS (ks.length - 1) (SG.tuple [.str "none"])).length<=1000000 then lD (RV.ow ([mD (.TK c.2)]++SS (ks.length - 1) (SG.tuple [.str "none"]))) else Sw)=_;rw[TB,if_pos (by omega),S6,List.map_replicate];rfl
  exact aK (by fail "ev") (aK (by fail "ev") (aK (by fail "ev") aL rfl rfl (ul _ _)) rfl rfl j) rfl rfl y
 have f:∀(e:List (List Nat×Nat)) (o:Option PV),(∀c,e.find? (fun c=>decide (c.1=ri ks))=lD c->rj (gN 2) (kO (aJ (aN dC (fq xW {aN bw (aa 2) (~~~0)}) (fq L9.im {aa 1}))) (dG (aN d5 (di {cP {pC (.str "letter"),aN bw (aa 2) (~~~1)}}) (aN i7 (di {pC (.tuple [(.str "none")])}) (aN uO (fq b4 {aa 1}) (~~~1))))) dB) (e.map gy) [lD (.fz (bD b)),lD (.fz (.tuple (bV ks))),o]= .ok (.rt (.ow ((Mn.TK c.2::SS (ks.length - 1) Mn.none).map mD))))/\
   (e.find? (fun c=>decide (c.1=ri ks))=Sw->∃u,rj (gN 2) (kO (aJ (aN dC (fq xW {aN bw (aa 2) (~~~0)}) (fq L9.im {aa 1}))) (dG (aN d5 (di {cP {pC (.str "letter"),aN bw (aa 2) (~~~1)}}) (aN i7 (di {pC (.tuple [(.str "none")])}) (aN uO (fq b4 {aa 1}) (~~~1))))) dB) (e.map gy) [lD (.fz (bD b)),lD (.fz (.tuple (bV ks))),o]= .ok (.nx [lD (.fz (bD b)),lD (.fz (.tuple (bV ks))),u])):=by
  intro e
  induction e with
  |nil=>exact fun o=>⟨fun c h=>(by cases h),fun _=>⟨o,rfl⟩⟩
  |cons c r A=>
   intro o;have C:bw (gy c) (.int 0)=lD (.fz (.tuple (bV c.1))):=jO
   have a:aJ (aN dC (fq xW {aN bw (aa 2) (~~~0)}) (fq L9.im {aa 1})) [lD (.fz (bD b)),lD (.fz (.tuple (bV ks))),lD (.fz (gy c))]= .ok (decide (c.1=ri ks),[lD (.fz (bD b)),lD (.fz (.tuple (bV ks))),lD (.fz (gy c))]):=
    a9 (aK (cD (by fail "ev") rfl rfl) (cD (by fail "ev") rfl i) rfl rfl (xJ _ _)) rfl
   rw[TQ];by_cases h:c.1=ri ks
   .rw[decide_eq_true h] at a⊢;refine⟨fun J t=> ?_,fun t=>(by cases t)⟩;cases t;show((gN 2 (.fz (gy c)) [lD (.fz (bD b)),lD (.fz (.tuple (bV ks))),o]).bind fun g=>_)=_;rw[Gf,Res.bind_ok];show((kO _ _ _ [lD (.fz (bD b)),lD (.fz (.tuple (bV ks))),lD (.fz (gy c))]).bind _)=_;rw[Rx a,qv (rt c) rfl];rfl
   .rw[decide_eq_false h] at a⊢
    have w:rj (gN 2) (kO (aJ (aN dC (fq xW {aN bw (aa 2) (~~~0)}) (fq L9.im {aa 1}))) (dG (aN d5 (di {cP {pC (.str "letter"),aN bw (aa 2) (~~~1)}}) (aN i7 (di {pC (.tuple [(.str "none")])}) (aN uO (fq b4 {aa 1}) (~~~1))))) dB) ((c::r).map gy) [lD (.fz (bD b)),lD (.fz (.tuple (bV ks))),o]=rj (gN 2) (kO (aJ (aN dC (fq xW {aN bw (aa 2) (~~~0)}) (fq L9.im {aa 1}))) (dG (aN d5 (di {cP {pC (.str "letter"),aN bw (aa 2) (~~~1)}}) (aN i7 (di {pC (.tuple [(.str "none")])}) (aN uO (fq b4 {aa 1}) (~~~1))))) dB) (r.map gy) [lD (.fz (bD b)),lD (.fz (.tuple (bV ks))),lD (.fz (gy c))]:=by show((gN 2 (.fz (gy c)) [lD (.fz (bD b)),lD (.fz (.tuple (bV ks))),o]).bind fun g=>_)=_;rw[Gf,Res.bind_ok];show((kO _ _ _ [lD (.fz (bD b)),lD (.fz (.tuple (bV ks))),lD (.fz (gy c))]).bind _)=_;rw[QG a];rfl
    rw[w];exact A _
 obtain⟨z,m⟩:=f b.cs Sw;have v:fu (aN bw (aa 0) (~~~2)) [lD (.fz (bD b)),lD (.fz (.tuple (bV ks))),Sw]= .ok (b.cs.map gy,[lD (.fz (bD b)),lD (.fz (.tuple (bV ks))),Sw]):=by fail "ev"
 unfold QT;cases q:b.cs.find? fun c=>decide (c.1=ri ks) with
 |some c=>exact .eq (G1 ((Al v).trans (z c q))) ⟨rfl⟩
 |none=>obtain⟨u,m⟩:=m q;refine .eq (Ho ((Al v).trans m)) ?_;refine gA (ei (by fail "ev") rfl ?_) rfl rfl;rw[Tj];refine gH nd (mD∘uC b 0) ks (by omega) rfl fun k p=> ?_;obtain⟨d,l,j⟩:=Hf Z (L:=0) (by omega) (B k p);have l:bw (.tuple (b.ls.map kW)) (.int 0)=lD (.fz d):=l;exact aK (by fail "ev") (ag rfl) rfl rfl j
end
end STP
local macro_rules|`(-($x))=>`(Option.some (.fz $x))
namespace STP
open PySem L2 L3
open L10
def kT (p:Nat×Mn):cT×SV:=(.inl (p.1:Int),.fz (mD p.2))
def nt (ac:Ac) (k:Nat) (o:Option Mn):Ac:=fun j=>if j=k then o else ac j
theorem fD:nt ac k o k=o:=by unfold nt;rw[if_pos rfl]
theorem gU (h:j≠k):nt ac k o j=ac j:=by unfold nt;rw[if_neg h]
theorem GR (ac:Ac):(iy ac).Pairwise fun p q=>p.1<q.1:=by
 unfold iy;refine aeV _ (fun a g h p f q b=> ?_) (aaD);cases e:ac a with
 |none=>rw[e] at f;cases f
 |some x=>
  cases e':ac g with
  |none=>rw[e'] at b;cases b
  |some y=>rw[e] at f;rw[e'] at b;cases f;cases b;exact h
theorem sU (ac:Ac):((iy ac).map (·.1)).Nodup:=by rw[TN,WT];exact(GR ac).imp fun h=>Th h
theorem Dq {l:List (Nat×Mn)} (h:(l.map (·.1)).Nodup):l.Nodup:=by rw[TN,WT] at h;exact h.imp fun h e=>h (by rw[e])
theorem tt {l:List (Nat×Mn)} (h:(l.map (·.1)).Nodup) (hm:∀p,p∈l↔p.1<5/\ac p.1=lD p.2):l.Perm (iy ac):=
 (List.perm_ext_iff_of_nodup (Dq h) (Dq (sU ac))).mpr fun p=>(hm p).trans mn.symm
section
variable {ps:List (Nat×Mn)} {ac:Ac} (Z:ps.Perm (iy ac))
include Z
theorem lZ:p∈ps↔p.1<5/\ac p.1=lD p.2:=Z.mem_iff.trans mn
theorem Gg:(ps.map (·.1)).Nodup:=(Z.map (·.1)).nodup_iff.mpr (sU ac)
theorem Ig:ps.length<=5:=by rw[Z.length_eq];exact wN ac
theorem oB {k:Nat} (f:k<5):ke (ps.map kT) (.inl (k:Int))=(ac k).map fun a=>SV.fz (mD a):=by
 unfold ke;cases q:(ps.map kT).find? fun b=>decide (b.1=(.inl (k:Int):cT)) with
 |none=>
  cases e:ac k with
  |none=>rfl
  |some a=>have:=List.find?_eq_none.mp q (kT (k,a)) (Tv.mpr ⟨(k,a),(lZ Z).mpr ⟨f,e⟩,rfl⟩);exact absurd (decide_eq_true rfl) this
 |some b=>
  obtain⟨p,i,rfl⟩:=Tv.mp (ZJ q);have h:=of_decide_eq_true (List.find?_some (p:=fun b:cT×SV=>decide (b.1=(.inl (k:Int):cT))) q);have g:p.1=k:=by have:=Sum.inl.inj h;omega
  rw[<-g,((lZ Z).mp i).2];rfl
theorem JH {k:Nat} (o:k<5):∃qs:List (Nat×Mn),kF (ps.map kT) (.inl (k:Int)) (.fz (mD a))=qs.map kT/\qs.Perm (iy (nt ac k (lD a))):=by
 unfold kF;have g:∀p:Nat×Mn,((kT p).1=(.inl (k:Int):cT))↔p.1=k:=fun p=>⟨fun h=>by have:=Sum.inl.inj h;omega,fun h=>by rw[<-h];rfl⟩;split
 .rename_i h
  refine⟨ps.map fun p=>if p.1=k then(k,a) else p,?_,tt ?_ fun p=> ?_⟩
  .rw[Tj,Tj]
   refine Uz fun p _=> ?_;show(if(kT p).1=(.inl (k:Int):cT) then((kT p).1,SV.fz (mD a)) else kT p)=kT (if p.1=k then(k,a) else p);by_cases e:p.1=k
   .rw[if_pos ((g p).mpr e),if_pos e,(g p).mpr e];rfl
   .rw[if_neg (fun z=>e ((g p).mp z)),if_neg e]
  .rw[Tj,show ps.map ((·.1)∘fun p:Nat×Mn=>if p.1=k then(k,a) else p)=ps.map (·.1) from Uz fun p _=>by
    show(if p.1=k then(k,a) else p).1=p.1;split
    .rename_i e;exact e.symm
    .rfl]
   exact Gg Z
  .obtain⟨w,l,j⟩:=Y3.mp h
   obtain⟨n,v,rfl⟩:=Tv.mp l;have b:=(g n).mp (of_decide_eq_true j);rw[Tv];constructor
   .rintro⟨r,u,rfl⟩
    split
    .exact⟨o,fD⟩
    .rename_i e;have:=(lZ Z).mp u;exact⟨this.1,by rw[gU e];exact this.2⟩
   .rintro⟨f,i⟩
    by_cases e:p.1=k
    .rw[e,fD] at i;refine⟨n,v,?_⟩;rw[if_pos b,<-e,S7 i]
    .rw[gU e] at i;exact⟨p,(lZ Z).mpr ⟨f,i⟩,by rw[if_neg e]⟩
 .rename_i h
  have hn:=fun p m e=>h (Y3.mpr ⟨kT p,Tv.mpr ⟨p,m,rfl⟩,decide_eq_true ((g p).mpr e)⟩);refine⟨ps++[(k,a)],by rw[Tc];rfl,tt ?_ fun p=> ?_⟩
  .rw[Tc,V4];refine⟨Gg Z,UL.mpr ⟨UE,XX⟩,fun x t y q=> ?_⟩;obtain⟨p,b,rfl⟩:=Tv.mp t;rw[Td.mp q];exact hn p b
  .rw[TZ,Td]
   constructor
   .rintro(b|rfl)
    .have:=(lZ Z).mp b;exact⟨this.1,by rw[gU (hn p b)];exact this.2⟩
    .exact⟨o,fD⟩
   .rintro⟨b,f⟩
    by_cases e:p.1=k
    .rw[e,fD] at f;exact .inr (by rw[<-e,S7 f])
    .rw[gU e] at f;exact .inl ((lZ Z).mpr ⟨b,f⟩)
theorem FH {k:Nat}:∃qs:List (Nat×Mn),nV (ps.map kT) (.inl (k:Int))=qs.map kT/\qs.Perm (iy (nt ac k Sw)):=by
 have g:∀p:Nat×Mn,((kT p).1=(.inl (k:Int):cT))↔p.1=k:=fun p=>⟨fun h=>by have:=Sum.inl.inj h;omega,fun h=>by rw[<-h];rfl⟩;refine⟨ps.filter fun p=>decide (p.1≠k),?_,tt ?_ fun p=> ?_⟩
 .unfold nV;rw[List.filter_map];congr 1;refine List.filter_congr fun p _=> ?_;exact decide_eq_decide.mpr (not_congr (g p))
 .exact ai9 ((List.filter_sublist).map _) (Gg Z)
 .rw[Vj,lZ Z,decide_eq_true_eq]
  constructor
  .rintro⟨⟨b,a⟩,f⟩;exact⟨b,by rw[gU f];exact a⟩
  .rintro⟨b,a⟩
   by_cases e:p.1=k
   .rw[e,fD] at a;cases a
   .rw[gU e] at a;exact⟨⟨b,a⟩,e⟩
theorem Ix:aI Bt ((ps.map kT).map (·.1))=lD (ps.map fun p=>(p.1:Int)):=by
 clear Z
 induction ps with
 |nil=>rfl
 |cons p r a=>rw[S6,S6];unfold aI;rw[a];rfl
theorem GA:lU (ps.map fun p=>(p.1:Int))=(iy ac).map fun p=>(p.1:Int):=by refine mz ((fK _).trans (Z.map _)) (eV _) ?_;rw[WT];exact(GR ac).imp fun h=>by omega
end
abbrev Sn:=List (Nat×Bool)
def oS (ac:Ac) (a:Mn):Bool:=decide (a∈(iy ac).map (·.2))
def tq (ac:Ac):Mn->Sn
 | .TK c=>if oS ac (.TK c)=Sz then[] else[(c,Sz)]
 |_=>[]
def OP (ac:Ac):Mn->Sn
 | .TK c=>if oS ac (.TK c)=Sz then[] else[(c,SN)]
 |_=>[]
def gQ (p:Vt×Sn) (k:Nat) (a:Mn):Vt×Sn:=({p.1 with ac:=nt p.1.ac k (lD a)},p.2++tq p.1.ac a)
def go (p:Vt×Sn) (k:Nat):Vt×Sn:=match p.1.ac k with
 |some a=>({p.1 with ac:=nt p.1.ac k Sw},p.2++OP (nt p.1.ac k Sw) a)
 |none=>p
def kG (p:Vt×Sn) (a:List (Nat×Mn)):Vt×Sn:=a.foldl (fun p q=>gQ p q.1 q.2) p
def gS (b:Bd) (ks:List Nat):Option (Nat×Int)->List Mn
 |some (_,n)=>[.Vr n]
 |none=>QT b ks
def dW (b:Bd) (p:Vt×Sn):Vt×Sn:=match p.1.wt with
 |none=>p
 |some (ks,_,w)=>kG ({p.1 with wt:=Sw},p.2) (ks.zip (gS b ks w))
def D9:Wq->Nat->Bool
 |some (ks,_,_),k=>decide (k∈ks)
 |none,_=>SN
def Jn (b:Bd) (s:Vt) (k:Nat):Bool:=match s.wt with
 |some (ks,_,Sw)=>decide (rp s.ac s.oc=0)&& !(fS b (ks++[k])).isEmpty
 |_=>SN
def xD (b:Bd) (p:Vt×Sn) (k:Nat):Vt×Sn:=match p.1.wt with
 |some (ks,g,_)=>if(fS b (ks++[k])).map (·.1.length)=[(ks++[k]).length] then dW b ({p.1 with wt:=lD (ks++[k],g,Sw)},p.2) else({p.1 with wt:=lD (ks++[k],g,Sw)},p.2)
 |none=>p
def gZ (s:Vt) (m:Mn):Vt:=if(m.abq||m.isO)=Sz then s else{s with oc:=Sw}
def zD (b:Bd) (L:Int) (p:Vt×Sn) (k:Nat):Mn->Vt×Sn
 | .YB c n=>({p.1 with wt:=lD ([k],0,lD (c,n))},p.2)
 | .TK c=>if(decide (L=0)&& !(fS b [k]).isEmpty)=Sz then({p.1 with wt:=lD ([k],0,Sw)},p.2) else gQ p k (.TK c)
 | .once n=>({(gQ p k .none).1 with oc:=lD n},(gQ p k .none).2)
 |m=>gQ p k m
def JA (b:Bd) (p:Vt×Sn) (k:Nat):Vt×Sn:=
 zD b (rp p.1.ac p.1.oc) (gZ p.1 (look b (rp p.1.ac p.1.oc) k),p.2) k (look b (rp p.1.ac p.1.oc) k)
def pq (b:Bd) (p:Vt×Sn) (k:Nat):Vt×Sn:=
 if((p.1.ac k).isSome||D9 p.1.wt k)=Sz then p else if Jn b p.1 k=Sz then xD b p k else JA b (dW b p) k
def cZ (b:Bd) (p:Vt×Sn) (k:Nat):Vt×Sn:=match p.1.wt with
 |some (_,_,Sw)=>dW b p
 |some (_,_,lD (c,_))=>gQ ({p.1 with wt:=Sw},p.2) k (.TK c)
 |none=>p
def yt (b:Bd) (p:Vt×Sn) (k:Nat):Vt×Sn:=go (if D9 p.1.wt k=Sz then cZ b p k else p) k
def nr (b:Bd) (p:Vt×Sn):Vt×Sn:=match p.1.wt with
 |none=>p
 |some (ks,g,w)=>if g+1=b.wt then dW b ({p.1 with wt:=lD (ks,g+1,w)},p.2) else({p.1 with wt:=lD (ks,g+1,w)},p.2)
def aQ (b:Bd) (s:Vt):Xk->Vt×Sn
 | .down k=>pq b (s,[]) k
 | .up k=>yt b (s,[]) k
 | .turn=>nr b (s,[])
def vZ (b:Bd) (s:Vt):List (Str×SV):=[("bed",.fz (bD b)),("acts",.rf 1),("waiting",.fz (kh s.wt)),("once",.fz (uy s.oc)),("sent",.rf 2)]
def jc (p:Nat×Bool):D:= .tuple [.str (jU p.1),.str (if p.2=Sz then "down" else "up")]
def dR (b:Bd) (s:Vt) (sn:Sn) (ps:List (Nat×Mn)) (J:bh):bh:= .obj "Hand" (vZ b s):: .Yu (ps.map kT):: .lst ((sn.map jc).map .fz)::J
def HS (b:Bd) (p:Vt×Sn) (Z:bh):Prop:=∃ps J,ps.Perm (iy p.1.ac)/\Z=dR b p.1 p.2 ps J
section
variable {b:Bd} {s:Vt} {sn:Sn} {ps:List (Nat×Mn)} {J:bh} {ρ:bA} {i:Nat} {Z:bh} {p:Vt×Sn} {k:Nat} {a:Mn}
theorem Pv:(vZ b s).lookup ("bed":Str)=-(bD b):=by unfold vZ;rw[Vn]
theorem JP:(vZ b s).lookup ("acts":Str)=lD (.rf 1):=by unfold vZ;rw[Tb,show(("acts":Str)== "bed")=SN by left];dsimp only;rw[Vn]
theorem Ml:(vZ b s).lookup ("waiting":Str)=-(kh s.wt):=by unfold vZ;rw[Tb,show(("waiting":Str)== "bed")=SN by left];dsimp only;rw[Tb,show(("waiting":Str)== "acts")=SN by left];dsimp only;rw[Vn]
theorem LO:(vZ b s).lookup ("once":Str)=-(uy s.oc):=by unfold vZ;rw[Tb,show(("once":Str)== "bed")=SN by left];dsimp only;rw[Tb,show(("once":Str)== "acts")=SN by left];dsimp only;rw[Tb,show(("once":Str)== "waiting")=SN by left];dsimp only;rw[Vn]
theorem JK:(vZ b s).lookup ("sent":Str)=lD (.rf 2):=by unfold vZ;rw[Tb,show(("sent":Str)== "bed")=SN by left];dsimp only;rw[Tb,show(("sent":Str)== "acts")=SN by left];dsimp only;rw[Tb,show(("sent":Str)== "waiting")=SN by left];dsimp only;rw[Tb,show(("sent":Str)== "once")=SN by left];dsimp only;rw[Vn]
def Rv (m:Str):Bool:=(m== "bed"||m== "acts"||m== "waiting"||m== "once"||m== "sent")==SN
theorem Qt (h:Rv m=Sz):(vZ b s).lookup m=Sw:=by unfold Rv at h;simp only[beq_iff_eq,abh] at h;obtain⟨⟨⟨⟨l,j⟩,g⟩,f⟩,e⟩:=h;unfold vZ;rw[Tb,l];dsimp only;rw[Tb,j];dsimp only;rw[Tb,g];dsimp only;rw[Tb,f];dsimp only;rw[Tb,e];rfl
theorem qp (h:ρ[i]? =lD (lD (.rf 0))):aV "Hand" "bed" (ao i) ρ (dR b s sn ps J)= .ok (.fz (bD b)) (dR b s sn ps J):=d6 (bj h) rfl Pv
theorem iq (h:ρ[i]? =lD (lD (.rf 0))):aV "Hand" "acts" (ao i) ρ (dR b s sn ps J)= .ok (.rf 1) (dR b s sn ps J):=d6 (bj h) rfl JP
theorem b3 (h:ρ[i]? =lD (lD (.rf 0))):aV "Hand" "waiting" (ao i) ρ (dR b s sn ps J)= .ok (.fz (kh s.wt)) (dR b s sn ps J):=d6 (bj h) rfl Ml
theorem CP (h:ρ[i]? =lD (lD (.rf 0))):aV "Hand" "once" (ao i) ρ (dR b s sn ps J)= .ok (.fz (uy s.oc)) (dR b s sn ps J):=d6 (bj h) rfl LO
theorem wK (h:ρ[i]? =lD (lD (.rf 0))):aV "Hand" "sent" (ao i) ρ (dR b s sn ps J)= .ok (.rf 2) (dR b s sn ps J):=d6 (bj h) rfl JK
theorem G3 (w:Wq):eF "waiting" (.fz (kh w)) (vZ b s)=vZ b {s with wt:=w}:=by unfold vZ;unfold eF;rw[if_neg (by left)];unfold eF;rw[if_neg (by left)];unfold eF;rw[if_pos rfl]
theorem Fj (o:Option Int):eF "once" (.fz (uy o)) (vZ b s)=vZ b {s with oc:=o}:=by unfold vZ;unfold eF;rw[if_neg (by left)];unfold eF;rw[if_neg (by left)];unfold eF;rw[if_neg (by left)];unfold eF;rw[if_pos rfl]
theorem mr (w:Wq) (h:ρ[i]? =lD (lD (.rf 0))) (e:fe ρ Z= .ok (.fz (kh w)) (dR b s sn ps J)):eS "Hand" "waiting" (ao i) fe ρ Z= .ok (.nx ρ) (dR b {s with wt:=w} sn ps J):=
 (jX e (bj h) rfl (by exact SR rfl)).trans (by rw[G3];rfl)
theorem Co (o:Option Int) (h:ρ[i]? =lD (lD (.rf 0))) (e:fe ρ Z= .ok (.fz (uy o)) (dR b s sn ps J)):eS "Hand" "once" (ao i) fe ρ Z= .ok (.nx ρ) (dR b {s with oc:=o} sn ps J):=
 (jX e (bj h) rfl (by exact SR rfl)).trans (by rw[Fj];rfl)
theorem cb (e:HS b p Z) (hm:Rv m=Sz) (h:ρ[i]? =lD (lD (.rf 0))) (ha:fa ρ Z= .ok xs Z) (hn:(SV.rf 0::xs).length=n) (f:F (.rf 0::xs) Z= .ok x Z'):a8 "Hand" m F n (ao i) fa ρ Z= .ok x Z':=by obtain⟨ps,J,g,rfl⟩:=e;exact DF (bj h) rfl (Qt hm) ha hn f
theorem GK (ps:List (Nat×Mn)):(ps.map kT).map (·.2)=((ps.map (·.2)).map mD).map SV.fz:=by rw[Tj,Tj,Tj];rfl
def AK (ac:Ac):Prop:=∀k a,ac k=lD a->k<5/\LB a
theorem Fy (f:HS b p Z) (g:AK p.1.ac) (ha:LB a):∃Z',bO [.rf 0,.fz (mD a)] Z= .ok (.fz (.bool (oS p.1.ac a))) Z'/\HS b p Z':=by
 obtain⟨ps,J,e,rfl⟩:=f;have j:oS p.1.ac a=decide (a∈ps.map (·.2)):=decide_eq_decide.mpr (e.map (·.2)).symm.mem_iff;have lb:∀m∈ps.map (·.2),LB m:=fun m hm=>by obtain⟨q,h,rfl⟩:=Tv.mp hm;exact(g _ _ ((lZ e).mp h).2).2
 refine⟨dR b p.1 p.2 ps (J++[.lst ((ps.map kT).map (·.2))]),?_,ps,_,e,rfl⟩;rw[j];exact iW rfl (gX (dL (ah (ag rfl)) (KJ (iq rfl) rfl) (wH rfl (ez (by rw[GK];exact aW)) (Ks ha lb))))
theorem Cu (f:sn.length<1000) (h:ρ[i]? =lD (lD (.rf 0))) (e:fe ρ (dR b s sn ps J)= .ok (.fz (jc (c,d))) (dR b s sn ps J)):kJ (aV "Hand" "sent" (ao i)) fe ρ (dR b s sn ps J)= .ok (.fz .none) (dR b s (sn++[(c,d)]) ps J):=
 (wA (wK h) rfl e rfl (by rw[Sy,Sy];omega)).trans (by unfold dR;rw[Tc,Tc];rfl)
theorem um (e:ps.Perm (iy s.ac)) (h:k<5) (o:ρ[0]? =lD (lD (.rf 0))) (n:ρ[1]? =lD (-(nd k))) (m:ρ[2]? =lD (-(mD a))):∃qs:List (Nat×Mn),qs.Perm (iy (nt s.ac k (lD a)))/\yh (aV "Hand" "acts" (ao 0)) (af (aa 1)) (af (aa 2)) ρ (dR b s sn ps J)= .ok (.nx ρ) (dR b {s with ac:=nt s.ac k (lD a)} sn qs J):=by obtain⟨qs,l,j⟩:=JH e h;have g:aa 1 (bQ ρ)= .ok (.fz (nd k),bQ ρ):=ag (by unfold bQ;rw[SX,n];rfl);have f:aa 2 (bQ ρ)= .ok (.fz (mD a),bQ ρ):=ag (by unfold bQ;rw[SX,m];rfl);refine⟨qs,j,(JU (ah f) (iq o) (ah g) rfl rfl (by rw[Sy];have:=Ig e;omega)).trans ?_⟩;rw[l];rfl
theorem rS (j:HS b p Z) (v:AK p.1.ac) (ha:LB a) (l:k<5) (u:p.2.length<1000):∃Z',bC [.rf 0,.fz (nd k),.fz (mD a)] Z= .ok (.fz .none) Z'/\HS b (gQ p k a) Z':=by
 have e0:=uR a;have r:=mE a;cases q:a.isL with
 |false=>
  obtain⟨ps,J,g,rfl⟩:=j;rw[q] at r;obtain⟨f,h,w⟩:=um (ρ:=[lD (.rf 0),-(nd k),-(mD a)]) g l rfl rfl rfl;refine⟨_,oQ rfl (cS (jR (iC (bZ (by fail "ev"))) jq) w),f,J,h,?_⟩;have:tq p.1.ac a=[]:=by cases a<;>first|rfl|cases q
  unfold gQ;rw[this,Tr]
 |true=>
  rw[q] at r;obtain⟨y,h,z⟩:=Fy j v ha;have t:∀o,oS p.1.ac a=o->(o0 (cr (aJ (aN dC (aN bw (aa 2) (~~~0)) (pC (.str "letter"))))) (yE (bN (a8 "Hand" "has_act" bO 2 (ao 0) (aj (af (aa 2)) aC))))) [lD (.rf 0),-(nd k),-(mD a)] Z= .ok (!o) y:=fun o e=>by rw[e] at h;exact jI (bZ (by fail "ev")) (xU (bu (cb j (by left) rfl (aq (ah (ag rfl)) aM) rfl h)))
  obtain⟨ps,J,g,rfl⟩:=z;cases q2:oS p.1.ac a with
  |true=>
   obtain⟨f,n,m⟩:=um (ρ:=[lD (.rf 0),-(nd k),-(mD a)]) g l rfl rfl rfl;refine⟨_,oQ rfl (cS (jR (t Sz q2) jq) m),f,J,n,?_⟩;have:tq p.1.ac a=[]:=by
    cases a<;>first|cases q|skip
    show(if oS p.1.ac _=Sz then _ else _)=_;rw[if_pos q2]
   unfold gQ;rw[this,Tr]
  |false=>
   cases a<;>first|cases q|skip
   rename_i c;obtain⟨f,n,m⟩:=um (ρ:=[lD (.rf 0),-(nd k),-(mD (.TK c))]) (sn:=p.2++[(c,Sz)]) g l rfl rfl rfl;have A:bw (mD (.TK c)) (.int 1)=-(.str (jU c)):=kP;refine⟨_,oQ rfl (cS (gK (t SN q2) (jm (Cu u rfl (ah (show _=Res.ok (PV.fz (.tuple [.str (jU c),.str "down"]),_) by fail "ev"))))) m),f,J,n,?_⟩;have:tq p.1.ac (.TK c)=[(c,Sz)]:=by show(if oS p.1.ac _=Sz then _ else _)=_;rw[if_neg (by rw[q2];simp)]
   unfold gQ;rw[this]
end
end STP
namespace STP
open PySem L2 L3 L10
def VA (a:Int):Mn->Prop
 | .TK c=>c<26
 | .Vr n=>1<=n/\n<a
 | .none=>True
 |_=>False
theorem VA.lb (h:VA nL m):LB m:=by
 cases m with
 |TK c=>exact h
 |YB c n=>exact h.elim
 |_=>trivial
structure SA (b:Bd) (s:Vt):Prop where
 ac:∀k a,s.ac k=lD a->(k:Int)<b.n/\VA b.ls.length a
 oc:∀o,s.oc=lD o->1<=o/\o<b.ls.length
structure WV (b:Bd) (ac:Ac) (ks:List Nat) (g:Int) (w:Option (Nat×Int)):Prop where
 ne:ks≠[]
 nd:ks.Nodup
 kn:∀k∈ks,(k:Int)<b.n
 kf:∀k∈ks,ac k=Sw
 g0:0<=g
 tp:∀c n,w=lD (c,n)->c<26/\(1<=n/\n<b.ls.length)/\ks.length=1
 ch:w=Sw->∀k∈ks,E3 (b.ls.headD []) k=Sz
structure SW (b:Bd) (s:Vt):Prop where
 sa:SA b s
 wt:∀ks g w,s.wt=lD (ks,g,w)->WV b s.ac ks g w/\g<b.wt
theorem Aq {ks:List Nat} (hd:ks.Nodup) (h:∀k∈ks,k<n):ks.length<=n:=by rw[<-Lg ks];have b:=(uh ks).nodup_iff.mpr hd;refine K4 (((BB ks).and b).imp fun h=>by omega) fun k a=>h k ((uh ks).mem_iff.mp a)
section
variable {b:Bd} (Z:VB b) {s:Vt} {p:Vt×Sn} {ks:List Nat} {g:Int} {w:Option (Nat×Int)} {ac:Ac} {k:Nat} {a:Mn}
include Z
theorem WV.len (h:WV b ac ks g w):ks.length<=5:=Aq h.nd fun k e=>by have:=h.kn k e;have:=Z.n5;omega
omit Z in
theorem WV.aik (h:WV b ac ks g w):1<=ks.length:=List.length_pos_iff.mpr h.ne
theorem SA.ak (h:SA b s):AK s.ac:=fun k a e=>by have:=h.ac k a e;have:=Z.n5;exact⟨by omega,(h.ac k a e).2.lb⟩
omit Z in
theorem SA.cm (h:SA b p.1) (f:(k:Int)<b.n) (ha:VA b.ls.length a):SA b (gQ p k a).1:=by
 refine⟨fun j x e=> ?_,h.oc⟩;by_cases z:j=k
 .subst z;have i:lD a=lD x:=(fD (ac:=p.1.ac) (k:=j) (o:=lD a)).symm.trans e;cases i;exact⟨f,ha⟩
 .exact h.ac j x ((gU z).symm.trans e)
omit Z in
theorem SA.gg (h:SA b p.1):SA b (go p k).1:=by
 unfold go;split
 .refine⟨fun j x e=> ?_,h.oc⟩
  by_cases z:j=k
  .subst z;exact absurd ((fD (ac:=p.1.ac) (k:=j) (o:=Sw)).symm.trans e) (by simp)
  .exact h.ac j x ((gU z).symm.trans e)
 .exact h
omit Z in
theorem sJ:(gQ p k a).2.length<=p.2.length+1:=by
 show(p.2++tq p.1.ac a).length<=_;rw[SH];have:(tq p.1.ac a).length<=1:=by
  cases a with
  |TK c=>show(if _ then _ else _:Sn).length<=1;split<;>simp
  |_=>simp[tq]
 omega
omit Z in
theorem D8 (e:List (Nat×Mn)):∀p:Vt×Sn,(kG p e).2.length<=p.2.length+e.length:=by
 induction e with
 |nil=>exact fun p=>SU _
 |cons q r f=>intro p;have i:=f (gQ p q.1 q.2);have h:=sJ (p:=p) (k:=q.1) (a:=q.2);show(kG (gQ p q.1 q.2) r).2.length<=_;rw[S3];omega
omit Z in
theorem SA.cms (e:List (Nat×Mn)):∀{p:Vt×Sn},SA b p.1->(∀q∈e,(q.1:Int)<b.n/\VA b.ls.length q.2)->SA b (kG p e).1/\(kG p e).1.wt=p.1.wt/\(kG p e).1.oc=p.1.oc:=by
 induction e with
 |nil=>exact fun h _=>⟨h,rfl,rfl⟩
 |cons q r j=>intro p h f;have i:=f q S5;exact j (h.cm i.1 i.2) fun x l=>f x (S2 _ l)
theorem OQ (h:E3 (b.ls.headD []) k=Sz):∃c,uC b 0 k= .TK c:=by
 have i:=Z.l1;obtain⟨f,r,e⟩:∃f r,b.ls=f::r:=by
  cases q:b.ls with
  |nil=>rw[q] at i;cases i
  |cons l r=>exact⟨l,r,rfl⟩
 unfold E3 at h;unfold uC;rw[e] at h⊢;rw[aai,YL];rw[List.headD_cons] at h;cases q:f[k]? with
 |none=>rw[q] at h;cases h
 |some m=>
  rw[q] at h;cases m with
  |TK c=>exact⟨c,rfl⟩
  |_=>cases h
theorem KM (f:(k:Int)<b.n) (h:E3 (b.ls.headD []) k=Sz):VA b.ls.length (uC b 0 k):=by have i:=Z.l1;obtain⟨c,e⟩:=OQ Z h;have:=Ar Z (L:=0) (by omega) f;rw[e] at this⊢;exact this
theorem OI (h:WV b ac ks g Sw):∀m∈QT b ks,VA b.ls.length m:=by
 intro m hm;unfold QT at hm;split at hm
 .rename_i c f
  rcases Tq.mp hm with rfl|hm
  .exact(Z.vc c (ZJ f)).2.2.2
  .rw[(List.mem_replicate.mp hm).2];trivial
 .obtain⟨j,e,rfl⟩:=Tv.mp hm;exact KM Z (h.kn j e) (h.ch rfl j e)
theorem wF (h:WV b ac ks g w):∀q∈ks.zip (gS b ks w),(q.1:Int)<b.n/\VA b.ls.length q.2:=by
 intro q f;have e:=Ws f;refine⟨h.kn _ e.1,?_⟩;cases w with
 |none=>exact OI Z h _ e.2
 |some i=>obtain⟨c,n⟩:=i;rw[Td.mp e.2];exact(h.tp c n rfl).2.1
def WD (b:Bd) (s:Vt):Prop:=∀ks g w,s.wt=lD (ks,g,w)->WV b s.ac ks g w
theorem jH (h:SA b p.1) (i:WD b p.1):SW b (dW b p).1/\(dW b p).1.wt=Sw/\(dW b p).2.length<=p.2.length+5/\(dW b p).1.oc=p.1.oc:=by
 unfold dW;split
 .rename_i q;exact⟨⟨h,fun ks g w e=>by rw[q] at e;cases e⟩,q,acG _ _,rfl⟩
 .rename_i ks g w q
  have v:=i ks g w q;obtain⟨l,f,j⟩:=SA.cms (ks.zip (gS b ks w)) (p:=({p.1 with wt:=Sw},p.2)) ⟨h.ac,h.oc⟩ (wF Z v);refine⟨⟨l,fun _ _ _ e=> ?_⟩,f,?_,j⟩
  .rw[f] at e;cases e
  .have:=D8 (ks.zip (gS b ks w)) ({p.1 with wt:=Sw},p.2);have m:=v.len Z;rw[acH] at this;have:(kG ({p.1 with wt:=Sw},p.2) (ks.zip (gS b ks w))).2.length<=p.2.length+min ks.length (gS b ks w).length:=this;omega
omit Z in
theorem CZ:∀(l:List Int) (m:Option Int),l.foldl mK m=m\/∃x∈l,l.foldl mK m=lD x
 |[],m=> .inl rfl
 |x::r,m=>by
  rw[Xr];rcases CZ r (mK m x) with h|⟨y,hy,h⟩
  .rw[h]
   cases m with
   |none=>exact .inr ⟨x,S5,rfl⟩
   |some z=>
    show lD (if x>z then x else z)=lD z\/_;split
    .exact .inr ⟨x,S5,by show lD (if x>z then x else z)=_;rename_i q;rw[if_pos q]⟩
    .exact .inl rfl
  .exact .inr ⟨y,S2 _ hy,h⟩
omit Z in
theorem CB:∀(l:List Int) (m:Option Int),(∀x∈l,∃y,l.foldl mK m=lD y/\x<=y)/\∀z,m=lD z->∃y,l.foldl mK m=lD y/\z<=y
 |[],m=>⟨fun x i=>(by cases i),fun z h=>⟨z,h,W5 _⟩⟩
 |x::r,m=>by
  rw[Xr];obtain⟨q,o⟩:=CB r (mK m x);have n:∃z,mK m x=lD z/\x<=z/\∀u,m=lD u->u<=z:=by
   cases m with
   |none=>exact⟨x,rfl,W5 _,fun u h=>by cases h⟩
   |some u=>
    refine⟨if x>u then x else u,rfl,?_,fun v h=> ?_⟩
    .split<;>omega
    .cases h;split<;>omega
  obtain⟨z,A,C,t⟩:=n;obtain⟨y,f,B⟩:=o z A;refine⟨fun v e=> ?_,fun u j=>⟨y,f,by have:=t u j;omega⟩⟩;rcases Tq.mp e with rfl|e
  .exact⟨y,f,by omega⟩
  .exact q v e
omit Z in
theorem C5 {ac:Ac} {n:Int}:n∈(iy ac).filterMap Nw↔∃k,k<5/\ac k=lD (.Vr n):=by
 rw[WG];constructor
 .rintro⟨⟨k,m⟩,f,e⟩
  have h:=mn.mp f;cases m with
  |Vr x=>have:x=n:=S7 e;subst this;exact⟨k,h.1,h.2⟩
  |_=>cases e
 .rintro⟨k,f,e⟩;exact⟨(k,.Vr n),mn.mpr ⟨f,e⟩,rfl⟩
theorem JZ (h:SA b s):0<=zh s.ac/\zh s.ac<b.ls.length/\(∀k n,s.ac k=lD (.Vr n)->n<=zh s.ac)/\(zh s.ac=0\/∃k,s.ac k=lD (.Vr (zh s.ac))):=by
 have o:=Z.l1;have q:=Z.n5;unfold zh;generalize hm:((iy s.ac).filterMap Nw).foldl mK Sw=m;have j:=(CB ((iy s.ac).filterMap Nw) Sw).1;have f:=CZ ((iy s.ac).filterMap Nw) Sw;rw[hm] at j f;have up:∀k n,s.ac k=lD (.Vr n)->∃y,m=lD y/\n<=y:=fun k n e=>j n (C5.mpr ⟨k,by have:=(h.ac k _ e).1;omega,e⟩);cases m with
 |none=>refine⟨W5 _,by show(0:Int)<_;omega,fun k n e=> ?_,.inl rfl⟩;obtain⟨y,i,_⟩:=up k n e;cases i
 |some x=>
  rcases f with f|⟨y,hy,f⟩
  .cases f
  .cases f;obtain⟨k,_,e⟩:=C5.mp hy;have:=(h.ac k _ e).2;have:1<=x/\x<b.ls.length:=this;refine⟨by show 0<=x;omega,by show x<_;omega,fun k n e=> ?_,.inr ⟨k,e⟩⟩;obtain⟨y,i,l⟩:=up k n e;cases i;exact l
theorem BE (h:SA b s):0<=rp s.ac s.oc/\rp s.ac s.oc<b.ls.length:=by
 cases q:s.oc with
 |none=>have:=JZ Z h;exact⟨this.1,this.2.1⟩
 |some o=>have:=h.oc o q;exact⟨by show 0<=o;omega,this.2⟩
end
section
variable {b:Bd} {s:Vt} {sn:Sn} {ps:List (Nat×Mn)} {J:bh} {ρ:bA} {i:Nat} {Z:bh} {p:Vt×Sn} {k:Nat} {a:Mn}
theorem AA (h:f x=lD y):aI f [x]=lD [y]:=by unfold aI;rw[h];rfl
theorem gj:(l++[c]).set l.length c'=l++[c']:=by simp
theorem qD (f:HS b p Z):∃Z',bG [.rf 0] Z= .ok (.fz (eE p.1)) Z'/\HS b p Z':=by
 obtain⟨ps,J,e,rfl⟩:=f;have h:=Ig e;have j:fQ (vW (aV "Hand" "acts" (ao 0))) [lD (.rf 0)] (dR b p.1 p.2 ps J)= .ok ((iy p.1.ac).map fun q=>nd q.1) (dR b p.1 p.2 ps (J++[.dead])):=by
  refine(GP (ds:=(iy p.1.ac).map fun q=>nd q.1) (LV (iq rfl) rfl (Ix e) (by rw[Sy];omega)) ?_).trans ?_
  .rw[GA e];refine aW.trans ?_;rw[Tj,Tj];rfl
  .rw[gj];rfl
 have l:ck (dY 0) cK (mP (aj (af (aa 0)) (aj (vx (aV "Hand" "acts" (ao 1)) (af (aa 0))) aC))) ((iy p.1.ac).map fun q=>nd q.1) [Sw,lD (.rf 0)] (dR b p.1 p.2 ps (J++[.dead])) []= .ok (((iy p.1.ac).map pD).map .fz) (dR b p.1 p.2 ps (J++[.dead])):=by refine(iz (fun q:Nat×Mn=>nd q.1) (fun q=> .fz (pD q)) _ (fun ρ=>∃o,ρ=[o,lD (.rf 0)]) (iy p.1.ac) _ [] ⟨Sw,rfl⟩ (by have:=wN p.1.ac;rw[U2];omega) ?_).trans (by rw[Tj];rfl);rintro q g ρ ⟨o,rfl⟩;have hm:=mn.mp g;refine⟨[-(nd q.1),lD (.rf 0)],rfl,rfl,?_,_,rfl⟩;exact pz (aq (ah (ag rfl)) (aq (Mh (iq rfl) (ah (ag rfl)) rfl rfl (by rw[oB e hm.1,hm.2];rfl)) aM)) (SR rfl)
 have tp:jT fU (aj (eU 1 [0] (fQ (vW (aV "Hand" "acts" (ao 0)))) (dY 0) cK (mP (aj (af (aa 0)) (aj (vx (aV "Hand" "acts" (ao 1)) (af (aa 0))) aC)))) aC) [lD (.rf 0)] (dR b p.1 p.2 ps J)= .ok (.fz (.tuple ((iy p.1.ac).map pD))) (dR b p.1 p.2 ps (J++[.dead]++[.lst (((iy p.1.ac).map pD).map .fz)])):=
  nc (aq (ig j l) aM) (AA (ez aW)) rfl
 exact⟨_,iW rfl (gX (pz (aq tp (aq (b3 rfl) (aq (CP rfl) aM))) (SR rfl))),ps,_,e,rfl⟩
theorem HQ (h:HS b p Z):cg [.rf 0,.fz (nd k)] Z= .ok (.fz (.bool (D9 p.1.wt k))) Z:=by
 obtain⟨ps,J,l,rfl⟩:=h;refine iW rfl (gX ?_);cases q:p.1.wt with
 |none=>
  have e:tE (kh p.1.wt) .none=-(.bool SN):=by rw[q];rfl
  exact Ec (bu (dL (b3 rfl) (ah aL) (cJ e)))
 |some x=>
  obtain⟨f,g,w⟩:=x;have e:tE (kh p.1.wt) .none=-(.bool Sz):=by rw[q];rfl
  have j:bw (kh p.1.wt) (.int 0)=-(.tuple (bV f)):=by rw[q];exact jO
  exact vR (bu (dL (b3 rfl) (ah aL) (cJ e))) (dL (ah (ag rfl)) (cG (b3 rfl) (ah aL) j) (cJ (xP _ _)))
theorem QE (E:HS b p Z) (n:AK p.1.ac) (ha:p.1.ac k=lD a) (F:p.2.length<1000):∃Z',jL [.rf 0,.fz (nd k)] Z= .ok (.fz .none) Z'/\HS b (go p k) Z':=by
 obtain⟨ps,J,A,rfl⟩:=E;have G:=(n k a ha).1;have lb:=(n k a ha).2;obtain⟨f,K,u⟩:=FH A
 have l:zz (aV "Hand" "acts" (ao 0)) (af (aa 1)) [lD (.rf 0),-(nd k),Sw] (dR b p.1 p.2 ps J)= .ok (.fz (mD a)) (dR b {p.1 with ac:=nt p.1.ac k Sw} p.2 f J):=
  (Kn (iq rfl) rfl (ah (ag rfl)) rfl rfl (by rw[oB A G,ha];rfl)).trans (by rw[K];rfl)
 have H:go p k=({p.1 with ac:=nt p.1.ac k Sw},p.2++OP (nt p.1.ac k Sw) a):=by unfold go;rw[ha]
 rw[H];have m:AK (nt p.1.ac k Sw):=fun j x e=>by
  by_cases z:j=k
  .subst z;rw[fD] at e;cases e
  .rw[gU z] at e;exact n j x e
 have e0:=uR a;have N:=mE a;have g:aJ (aN dC (aN bw (aa 2) (~~~0)) (pC (.str "letter"))) (bQ [lD (.rf 0),-(nd k),-(mD a)])= .ok (a.isL,bQ [lD (.rf 0),-(nd k),-(mD a)]):=by fail "ev"
 have t:Wy (cM (o0 (cr (aJ (aN dC (aN bw (aa 2) (~~~0)) (pC (.str "letter"))))) (yE (bN (a8 "Hand" "has_act" bO 2 (ao 0) (aj (af (aa 2)) aC))))) (bU (kJ (aV "Hand" "sent" (ao 0)) (af (cP {aN bw (aa 2) (~~~1),pC (.str "up")})))) dA [lD (.rf 0),-(nd k),-(mD a)] (dR b {p.1 with ac:=nt p.1.ac k Sw} p.2 f J)) (fun _ Z'=>SV.fz .none= .fz .none/\HS b ({p.1 with ac:=nt p.1.ac k Sw},p.2++OP (nt p.1.ac k Sw) a) Z') (fun _ _=>False) (fun r Z'=>r= .fz .none/\HS b ({p.1 with ac:=nt p.1.ac k Sw},p.2++OP (nt p.1.ac k Sw) a) Z'):=by
  cases q:a.isL with
  |false=>
   rw[q] at g;refine eK (iC (bZ g)) (mf ⟨rfl,f,J,u,?_⟩);have:OP (nt p.1.ac k Sw) a=[]:=by cases a<;>first|rfl|cases q
   rw[this,Tr]
  |true=>
   rw[q] at g;obtain⟨B,o,L⟩:=Fy (p:=({p.1 with ac:=nt p.1.ac k Sw},p.2)) ⟨f,J,u,rfl⟩ m lb;have v:∀h,oS (nt p.1.ac k Sw) a=h->(o0 (cr (aJ (aN dC (aN bw (aa 2) (~~~0)) (pC (.str "letter"))))) (yE (bN (a8 "Hand" "has_act" bO 2 (ao 0) (aj (af (aa 2)) aC))))) [lD (.rf 0),-(nd k),-(mD a)] (dR b {p.1 with ac:=nt p.1.ac k Sw} p.2 f J)= .ok (!h) B:=fun h e=>by
    have o:bO [.rf 0,.fz (mD a)] (dR b {p.1 with ac:=nt p.1.ac k Sw} p.2 f J)= .ok (.fz (.bool h)) B:=by rw[<-e];exact o
    exact jI (bZ g) (xU (bu (cb (p:=({p.1 with ac:=nt p.1.ac k Sw},p.2)) ⟨f,J,u,rfl⟩ (by left) rfl (aq (ah (ag rfl)) aM) rfl o)))
   obtain⟨w,C,y,I⟩:=L;rw[I] at v;cases q2:oS (nt p.1.ac k Sw) a with
   |true=>
    refine eK (v Sz q2) (mf ⟨rfl,w,C,y,?_⟩);have:OP (nt p.1.ac k Sw) a=[]:=by
     cases a<;>first|cases q|skip
     show(if oS (nt p.1.ac k Sw) _=Sz then _ else _)=_;rw[if_pos q2]
    rw[this,Tr]
   |false=>
    cases a<;>first|cases q|skip
    rename_i c;have M:bw (mD (.TK c)) (.int 1)=-(.str (jU c)):=kP;refine tM (v SN q2) (ju (Cu (d:=SN) F rfl (ah (show _=Res.ok (PV.fz (.tuple [.str (jU c),.str "up"]),_) by fail "ev"))) ⟨rfl,w,C,y,?_⟩);have:OP (nt p.1.ac k Sw) (.TK c)=[(c,SN)]:=by show(if oS (nt p.1.ac k Sw) _=Sz then _ else _)=_;rw[if_neg (by rw[q2];simp)]
    rw[this]
 exact jF rfl (j7 l rfl t)
end
section
variable {b:Bd} (Y:VB b) {s:Vt} {sn:Sn} {ps:List (Nat×Mn)} {J:bh} {ρ:bA} {i:Nat} {Z:bh} {p:Vt×Sn} {k:Nat} {a:Mn} {ks:List Nat} {g:Int} {w:Option (Nat×Int)}
theorem Hr:∀(ks:List Nat) (e:List Mn),k6 (bV ks) (e.map mD)=(ks.zip e).map pD
 |[],_=>by cases ‹List Mn›<;>rfl
 |_::_,[]=>rfl
 |k::r,a::t=>by show SG.tuple [nd k,mD a]::k6 (bV r) (t.map mD)=_;rw[Hr r t];rfl
theorem Am (h:∀c n,w=lD (c,n)->c<26):dC (uI w) (.tuple [.str "chord"])=-(.bool w.isNone)/\uB (uI w) (.tuple [.str "chord"])=-(.bool w.isSome):=by
 cases w with
 |none=>
  have l:m9 (.tuple [.str "chord"])=Sz:=by left
  have j:SG.canLay0 (.tuple [.str "chord"])=Sz:=by left
  have f:SG.eqv (.tuple [.str "chord"]) (.tuple [.str "chord"])=Sz:=by left
  constructor
  .show(if(m9 (.tuple [.str "chord"])&&SG.canLay0 (.tuple [.str "chord"]))=Sz then lD (RV.fz (.bool (SG.eqv (.tuple [.str "chord"]) (.tuple [.str "chord"])))) else Sw)=_;rw[l,j,f];rfl
  .show(if(m9 (.tuple [.str "chord"])&&SG.canLay0 (.tuple [.str "chord"]))=Sz then lD (RV.fz (.bool (!SG.eqv (.tuple [.str "chord"]) (.tuple [.str "chord"])))) else Sw)=_;rw[l,j,f];rfl
 |some m=>
  obtain⟨c,n⟩:=m;have lb:LB (.YB c n):=h c n rfl;have e:SG.eqv (mD (.YB c n)) (.tuple [.str "chord"])=SN:=by show(decide (("tap":Str)= "chord")&&SG.eqvAll [.str (jU c),.int n] [])=SN;rw[show decide (("tap":Str)= "chord")=SN by left];rfl
  constructor
  .show(if(m9 (mD (.YB c n))&&SG.canLay0 (.tuple [.str "chord"]))=Sz then lD (RV.fz (.bool (SG.eqv (mD (.YB c n)) (.tuple [.str "chord"])))) else Sw)=_;rw[IU lb,show SG.canLay0 (.tuple [.str "chord"])=Sz by left,e];rfl
  .show(if(m9 (mD (.YB c n))&&SG.canLay0 (.tuple [.str "chord"]))=Sz then lD (RV.fz (.bool (!SG.eqv (mD (.YB c n)) (.tuple [.str "chord"])))) else Sw)=_;rw[IU lb,show SG.canLay0 (.tuple [.str "chord"])=Sz by left,e];rfl
theorem zE (ks:List Nat) (w:Option (Nat×Int)) (f:List Mn):∀(h:List (Nat×Mn)) (p:Vt×Sn) (Z:bh) (n m:Option SV),HS b p Z->AK p.1.ac->(∀q∈h,q.1<5/\LB q.2)->p.2.length+h.length<1000->
  ∃ρ' Z',lA (PU 2 (tT (dY 4) (tT (dY 5) El))) (bU (a8 "Hand" "come" bC 3 (ao 0) (aj (af (aa 4)) (aj (af (aa 5)) aC)))) (h.map pD) [lD (.rf 0),-(.tuple (bV ks)),-(uI w),-(.list (f.map mD)),n,m] Z= .ok (.nx ρ') Z'/\HS b (kG p h) Z'
 |[],p,Z,n,m,hs,_,_,_=>⟨_,Z,rfl,hs⟩
 |q::r,p,Z,n,m,hs,hA,hq,hl=>by
  rw[S3] at hl;have l:=hq q S5;obtain⟨t,A,E⟩:=rS hs hA l.2 l.1 (by omega);have o:AK (gQ p q.1 q.2).1.ac:=fun j x e=>by
   by_cases z:j=q.1
   .have B:lD q.2=lD x:=by rw[z] at e;exact(fD).symm.trans e
    cases B;exact⟨by rw[z];exact l.1,l.2⟩
   .exact hA j x ((gU z).symm.trans e)
  have:=sJ (p:=p) (k:=q.1) (a:=q.2);obtain⟨ρ',Z',y,C⟩:=zE ks w f r (gQ p q.1 q.2) t (-(nd q.1)) (-(mD q.2)) E o (fun x v=>hq x (S2 _ v)) (by omega);refine⟨ρ',Z',?_,C⟩
  have u:bU (a8 "Hand" "come" bC 3 (ao 0) (aj (af (aa 4)) (aj (af (aa 5)) aC))) [lD (.rf 0),-(.tuple (bV ks)),-(uI w),-(.list (f.map mD)),-(nd q.1),-(mD q.2)] Z= .ok (.nx [lD (.rf 0),-(.tuple (bV ks)),-(uI w),-(.list (f.map mD)),-(nd q.1),-(mD q.2)]) t:=
   jm (cb hs (by left) rfl (aq (ah (ag rfl)) (aq (ah (ag rfl)) aM)) rfl A)
  show((bU (a8 "Hand" "come" bC 3 (ao 0) (aj (af (aa 4)) (aj (af (aa 5)) aC))) [lD (.rf 0),-(.tuple (bV ks)),-(uI w),-(.list (f.map mD)),-(nd q.1),-(mD q.2)] Z).bind _)=_;rw[u,RS.bind_ok];exact y
include Y
theorem mh (u:HS b p Z) (o:SA b p.1) (f:p.1.wt=lD (ks,g,w)) (v:WV b p.1.ac ks g w) (K:p.2.length<900):∃Z',b6 [.rf 0] Z= .ok (.fz .none) Z'/\HS b (dW b p) Z':=by
 obtain⟨ps,J,z,rfl⟩:=u;have e0:bw (kh p.1.wt) (.int 0)=-(.tuple (bV ks)):=by rw[f];exact jO
 have F:bw (kh p.1.wt) (.int 2)=-(uI w):=by rw[f];exact sO
 have r:=v.len Y;have t:=v.aik;have E:=Am fun c n h=>(v.tp c n h).1;have C:dW b p=kG ({p.1 with wt:=Sw},p.2) (ks.zip (gS b ks w)):=by unfold dW;rw[f]
 rw[C];have m:aJ (aN dC (aa 2) (pC (.tuple [.str "chord"]))) (bQ [lD (.rf 0),-(.tuple (bV ks)),-(uI w),Sw,Sw,Sw])= .ok (w.isNone,bQ [lD (.rf 0),-(.tuple (bV ks)),-(uI w),Sw,Sw,Sw]):=a9 (aK (ag rfl) aL rfl rfl E.1) rfl;have l:oW (Ph (cr (aJ (aN dC (aa 2) (pC (.tuple [(.str "chord")]))))) (jP fY 2 (aj (aV "Hand" "bed" (ao 0)) (aj (af (aa 1)) aC))) (af (di {cP {pC (.str "layer"),aN bw (aa 2) (~~~2)}}))) [lD (.rf 0),-(.tuple (bV ks)),-(uI w),Sw,Sw,Sw] (dR b {p.1 with wt:=Sw} p.2 ps J)= .ok (.fz (.list ((gS b ks w).map mD))) (dR b {p.1 with wt:=Sw} p.2 ps (J++[.dead])):=by
  cases w with
  |none=>have H:=OE Y t r v.kn;exact(pI (KO (bZ m) (xi (aq (qp rfl) (aq (ah (ag rfl)) aM)) rfl H)) (j8 aW)).trans (by rw[gj];rfl)
  |some G=>obtain⟨c,n⟩:=G;have I:bw (uI (lD (c,n))) (.int 2)=-(.int n):=sO;exact(pI (KQ (bZ m) (eN (show _=Res.ok (PV.ow [.tuple [.str "layer",.int n]],_) by fail "ev"))) (j8 aW)).trans (by rw[gj];rfl)
 have lp:∃e Z',zA (fM (zL {aa 1,aa 3})) (PU 2 (tT (dY 4) (tT (dY 5) El))) (bU (a8 "Hand" "come" bC 3 (ao 0) (aj (af (aa 4)) (aj (af (aa 5)) aC)))) [lD (.rf 0),-(.tuple (bV ks)),-(uI w),-(.list ((gS b ks w).map mD)),Sw,Sw] (dR b {p.1 with wt:=Sw} p.2 ps (J++[.dead]))= .ok (.nx e) Z'/\HS b (kG ({p.1 with wt:=Sw},p.2) (ks.zip (gS b ks w))) Z':=by
  have L:=Y.n5;obtain⟨e,Z',B,A⟩:=zE ks w (gS b ks w) (ks.zip (gS b ks w)) ({p.1 with wt:=Sw},p.2) (dR b {p.1 with wt:=Sw} p.2 ps (J++[.dead])) Sw Sw ⟨ps,_,z,rfl⟩ (SA.ak Y ⟨o.ac,o.oc⟩) (fun q y=>by
   have:=wF Y v q y;exact⟨by omega,this.2.lb⟩) (by
   rw[acH];show p.2.length+_<1000;omega)
  refine⟨e,Z',?_,A⟩;unfold zA;rw[iE (xh (am (ag rfl) (am (ag rfl) aG)) rfl rfl rfl),RS.bind_ok,Hr];exact B
 obtain⟨e,Z',lp,j⟩:=lp;refine⟨Z',oQ (ρ1:=e) rfl ?_,j⟩;exact cS (lG (cG (b3 rfl) (ah aL) e0) rfl) (cS (lG (cG (b3 rfl) (ah aL) F) rfl) (cS (mr Sw rfl (ah aL)) (cS (lG l rfl) lp)))
omit Y in
theorem JW {c:List Nat×Nat} (h:c.2<26):SG.canLay0 (gy c)=Sz:=by show(SG.canLayAll0 (bV c.1)&&(SG.strOk (jU c.2)&&Sz))=Sz;rw[jY,nX h];rfl
omit Y in
theorem NY:∀{cs:List (List Nat×Nat)},(∀c∈cs,c.2<26)->uB (.list (cs.map gy)) (.list [])=-(.bool (!cs.isEmpty)):=by
 intro cs h;have j:∀cs:List (List Nat×Nat),(∀c∈cs,c.2<26)->SG.canLayAll0 (cs.map gy)=Sz:=by
  intro cs
  induction cs with
  |nil=>exact fun _=>rfl
  |cons c r e=>intro h;show(SG.canLay0 (gy c)&&SG.canLayAll0 (r.map gy))=Sz;rw[JW (h c S5),e fun x l=>h x (S2 _ l)];rfl
 have f:∀cs:List (List Nat×Nat),SG.depthAll (cs.map gy)<=2:=by
  intro cs
  induction cs with
  |nil=>exact T5 _
  |cons c r e=>show max (SG.depth (gy c)) (SG.depthAll (r.map gy))<=2;refine ag5.mpr ⟨?_,e⟩;show max (SG.depthAll (bV c.1)+1) (max 0 0)+1<=2;rw[jZ];decide
 show(if((SG.canLayAll0 (cs.map gy)&&decide (SG.depthAll (cs.map gy)+1<=64))&&Sz)=Sz then lD (RV.fz (.bool (!SG.eqvAll (cs.map gy) []))) else Sw)=_;rw[j cs h,decide_eq_true (show SG.depthAll (cs.map gy)+1<=64 by have:=f cs;omega)];cases cs<;>rfl
theorem Kk (h:c∈fS b ks):c.2<26:=(Y.vc c (Vj.mp h).1).2.2.2
omit Y in
theorem Cd (h:ks≠[]) (e:ks.length<=5):d5 (.tuple (bV ks)) (.tuple [nd k])=-(.tuple (bV (ks++[k]))):=by
 show(if bV ks≠[]/\(bV ks).length+1<=1000000 then lD (RV.fz (.tuple (bV ks++[nd k]))) else Sw)=_;rw[if_pos ⟨by cases ks with
  |nil=>exact absurd rfl h
  |cons x r=>simp[bV],by rw[ir];omega⟩,Lm]
 rfl
theorem C8 {fa:ef} {Z1:bh} (e:∃ps J,Z1=dR b s sn ps J) (l:ρ[0]? =lD (lD (.rf 0))) (f:ks.length<=5) (h:fa ρ Z1= .ok (.fz (.tuple (bV ks))) Z1):lw uB (jP bH 2 (aj (aV "Hand" "bed" (ao 0)) (aj fa aC))) (af (di ay)) ρ Z1= .ok (.fz (.bool (!(fS b ks).isEmpty))) (Z1++[.lst (((fS b ks).map gy).map .fz)]++[.lst []]):=by obtain⟨ps,J,rfl⟩:=e;refine dL (xi (ds:=[bD b,.tuple (bV ks)]) (aq (qp l) (aq h aM)) rfl (CA Y f)) (eN (ds:=[]) (ρ':=bQ ρ) (tU aG rfl (T5 _))) ?_;exact wH (ez (iV aW)) (ez (ds:=[]) aW) (NY fun c j=>Kk Y j)
theorem N8 (j:HS b p Z) (F:SW b p.1) (M:(k:Int)<b.n) (hn:D9 p.1.wt k=SN):∃Z',d7 [.rf 0,.fz (nd k)] Z= .ok (.fz (.bool (Jn b p.1 k))) Z'/\HS b p Z':=by
 cases q:p.1.wt with
 |none=>
  have l:Jn b p.1 k=SN:=by unfold Jn;rw[q]
  rw[l];obtain⟨ps,J,f,rfl⟩:=j;have m:uH (kh p.1.wt) .none=-(.bool Sz):=by rw[q];rfl
  exact⟨_,iW rfl (pZ (gK (oZ (bu (dL (b3 rfl) (ah aL) (cJ m)))) (gX (ah aL)))),ps,J,f,rfl⟩
 |some x=>
  obtain⟨ks,g,w⟩:=x;have v:=(F.wt ks g w q).1;have G:=v.len Y;have m:uH (kh p.1.wt) .none=-(.bool SN):=by rw[q];rfl
  have C:bw (kh p.1.wt) (.int 2)=-(uI w):=by rw[q];exact sO
  have e0:bw (kh p.1.wt) (.int 0)=-(.tuple (bV ks)):=by rw[q];exact jO
  have B:=(Am fun c n h=>(v.tp c n h).1).2;cases w with
  |some O=>
   have l:Jn b p.1 k=SN:=by unfold Jn;rw[q]
   rw[l];obtain⟨ps,J,f,rfl⟩:=j;exact⟨_,iW rfl (pZ (gK (lH (bu (dL (b3 rfl) (ah aL) (cJ m))) (oZ (bu (dL (cG (b3 rfl) (ah aL) C) (ah aL) (cJ B))))) (gX (ah aL)))),ps,J,f,rfl⟩
  |none=>
   have l:Jn b p.1 k=(decide (rp p.1.ac p.1.oc=0)&& !(fS b (ks++[k])).isEmpty):=by unfold Jn;rw[q]
   rw[l];obtain⟨z,K,E⟩:=qD j;have o:(Dr (bN (lw uH (aV "Hand" "waiting" (ao 0)) (af (pC .none)))) (Dr (bN (lw uB (g6 (aV "Hand" "waiting" (ao 0)) (af (~~~2))) (af (pC (.tuple [(.str "chord")]))))) (bN (lw uB (jP d9 1 (aj (a8 "Hand" "stands" bG 1 (ao 0) aC) aC)) (af (~~~0)))))) [lD (.rf 0),-(nd k)] Z= .ok (!decide (rp p.1.ac p.1.oc=0)) z:=by
    have L:bN (lw uB (jP d9 1 (aj (a8 "Hand" "stands" bG 1 (ao 0) aC) aC)) (af (~~~0))) [lD (.rf 0),-(nd k)] Z= .ok (!decide (rp p.1.ac p.1.oc=0)) z:=
     bu (dL (A0 (aq (cb j (by left) rfl aM rfl K) aM) rfl (zH p.1)) (ah aL) (cJ (v4 _ _)))
    obtain⟨ps,J,f,rfl⟩:=j;exact lH (bu (dL (b3 rfl) (ah aL) (cJ m))) (lH (bu (dL (cG (b3 rfl) (ah aL) C) (ah aL) (cJ B))) L)
   by_cases A:rp p.1.ac p.1.oc=0
   .rw[decide_eq_true A] at o⊢
    obtain⟨ps,J,f,rfl⟩:=E;have u:k∉ks:=by rw[q] at hn;exact of_decide_eq_false hn
    have r:(ks++[k]).Nodup:=by rw[V4];exact⟨v.nd,UL.mpr ⟨UE,XX⟩,fun x t y H e=>u (by rw[<-Td.mp H,<-e];exact t)⟩
    have I:(ks++[k]).length<=5:=Aq r fun x t=>by
     have N:=Y.n5;rcases TZ.mp t with h|h
     .have:=v.kn x h;omega
     .rw[Td.mp h];omega
    refine⟨_,iW rfl (cS (jR o jq) (gX (C8 Y ⟨ps,J,rfl⟩ rfl I (dL (cG (b3 rfl) (ah aL) e0) (ah (iJ (am (ag rfl) aG) rfl (SR rfl))) (cJ (Cd v.ne G)))))),ps,_,f,rfl⟩
   .rw[decide_eq_false A] at o⊢;exact⟨z,iW rfl (pZ (gK o (gX (ah aL)))),E⟩
end
section
variable {b:Bd} (Y:VB b) {s:Vt} {sn:Sn} {ps:List (Nat×Mn)} {J:bh} {ρ:bA} {i:Nat} {Z:bh} {p:Vt×Sn} {k:Nat} {a:Mn} {ks:List Nat} {g:Int} {w:Option (Nat×Int)}
include Y
theorem N6 (v:WV b p.1.ac ks g w) (hn:k∉ks) (m:(k:Int)<b.n):(ks++[k]).Nodup/\(ks++[k]).length<=5:=by
 have f:(ks++[k]).Nodup:=by rw[V4];exact⟨v.nd,UL.mpr ⟨UE,XX⟩,fun x j y l e=>hn (by rw[<-Td.mp l,<-e];exact j)⟩
 refine⟨f,Aq f fun x j=> ?_⟩;have o:=Y.n5;rcases TZ.mp j with h|h
 .have:=v.kn x h;omega
 .rw[Td.mp h];omega
theorem AM (o:SW b p.1) (m:(k:Int)<b.n) (ha:p.1.ac k=Sw) (hn:D9 p.1.wt k=SN) (hm:Jn b p.1 k=Sz):∃ks g,p.1.wt=lD (ks,g,Sw)/\k∉ks/\WV b p.1.ac (ks++[k]) g Sw/\g<b.wt:=by
 unfold Jn at hm;split at hm
 .rename_i ks g q
  rw[Ts] at hm;obtain⟨v,t⟩:=o.wt ks g Sw q;have f:k∉ks:=by rw[q] at hn;exact of_decide_eq_false hn
  obtain⟨l,A⟩:=N6 Y v f m;refine⟨ks,g,q,f,⟨by simp,l,fun x e=> ?_,fun x e=> ?_,v.g0,fun c n h=>(by cases h),fun _ x e=> ?_⟩,t⟩
  .rcases TZ.mp e with h|h
   .exact v.kn x h
   .rw[Td.mp h];exact m
  .rcases TZ.mp e with h|h
   .exact v.kf x h
   .rw[Td.mp h];exact ha
  .have j:=hm.2
   cases qo:fS b (ks++[k]) with
   |nil=>rw[qo] at j;cases j
   |cons c r=>
    have u:c∈fS b (ks++[k]):=by rw[qo];exact S5
    obtain⟨z,y⟩:=Vj.mp u;have:=UU.mp y x e;exact(Y.vc c z).2.2.1 x (of_decide_eq_true this)
 .cases hm
theorem JJ (t:HS b p Z) (j:SW b p.1) (f:p.1.wt=lD (ks,g,Sw)) (v:WV b p.1.ac (ks++[k]) g Sw) (h:WV b p.1.ac ks g Sw) (u:p.2.length<900):∃Z',dD [.rf 0,.fz (nd k)] Z= .ok (.fz .none) Z'/\HS b (xD b p k) Z':=by
 obtain⟨ps,J,l,rfl⟩:=t;have n:=v.len Y;have e0:bw (kh p.1.wt) (.int 0)=-(.tuple (bV ks)):=by rw[f];exact jO
 have C:bw (kh p.1.wt) (.int 1)=-(.int g):=by rw[f];exact kP
 have B:xD b p k=if(fS b (ks++[k])).map (·.1.length)=[(ks++[k]).length] then dW b ({p.1 with wt:=lD (ks++[k],g,Sw)},p.2) else({p.1 with wt:=lD (ks++[k],g,Sw)},p.2):=by unfold xD;rw[f]
 have G:HS b ({p.1 with wt:=lD (ks++[k],g,Sw)},p.2) (dR b {p.1 with wt:=lD (ks++[k],g,Sw)} p.2 ps J):=⟨ps,J,l,rfl⟩;have E:ck (dY 0) cK (af (fq b4 {aN bw (aa 0) (~~~0)})) ((fS b (ks++[k])).map gy) [Sw] (dR b {p.1 with wt:=lD (ks++[k],g,Sw)} p.2 ps (J++[.dead])) []= .ok ((bV ((fS b (ks++[k])).map (·.1.length))).map .fz) (dR b {p.1 with wt:=lD (ks++[k],g,Sw)} p.2 ps (J++[.dead])):=by
  refine(iz gy (fun c=> .fz (nd c.1.length)) _ (fun ρ=>∃o,ρ=[o]) (fS b (ks++[k])) _ [] ⟨Sw,rfl⟩ ?_ ?_).trans (by unfold bV;rw[Tj,Tj];rfl)
  .have:=XJ (fun c:List Nat×Nat=>(ks++[k]).all fun k=>decide (k∈c.1)) b.cs;have:=Y.c4;show 0+(fS b (ks++[k])).length<=_;unfold fS;omega
  .rintro c _ ρ ⟨o,rfl⟩;have r:bw (gy c) (.int 0)=-(.tuple (bV c.1)):=jO;refine⟨[-(gy c)],rfl,rfl,ah (cD (am (aK (ag rfl) aL rfl rfl r) aG) rfl ((lV _).trans (by rw[ir]))),_,rfl⟩
 have A:fQ (jP bH 2 (aj (aV "Hand" "bed" (ao 0)) (aj (af (aa 2)) aC))) [lD (.rf 0),-(nd k),-(.tuple (bV (ks++[k])))] (dR b {p.1 with wt:=lD (ks++[k],g,Sw)} p.2 ps J)= .ok ((fS b (ks++[k])).map gy) (dR b {p.1 with wt:=lD (ks++[k],g,Sw)} p.2 ps (J++[.dead])):=
  (GP (xi (aq (qp rfl) (aq (ah (ag rfl)) aM)) rfl (CA Y n)) aW).trans (by rw[gj];rfl)
 have rt:di {fq b4 {aa 2}} (bQ [lD (.rf 0),-(nd k),-(.tuple (bV (ks++[k])))])= .ok (.ow (bV [(ks++[k]).length]),bQ [lD (.rf 0),-(nd k),-(.tuple (bV (ks++[k])))]):=by refine tU (am (cD (am (ag rfl) aG) rfl ((lV _).trans (by rw[ir]))) aG) rfl (SR rfl)
 have m:bN (lw dC (eU 1 [] (fQ (jP bH 2 (aj (aV "Hand" "bed" (ao 0)) (aj (af (aa 2)) aC)))) (dY 0) cK (af (fq b4 {aN bw (aa 0) (~~~0)}))) (af (di {fq b4 {aa 2}}))) [lD (.rf 0),-(nd k),-(.tuple (bV (ks++[k])))] (dR b {p.1 with wt:=lD (ks++[k],g,Sw)} p.2 ps J)= .ok (decide ((fS b (ks++[k])).map (·.1.length)=[(ks++[k]).length])) (dR b {p.1 with wt:=lD (ks++[k],g,Sw)} p.2 ps (J++[.dead])++[.lst ((bV ((fS b (ks++[k])).map (·.1.length))).map .fz)]++[.lst ((bV [(ks++[k]).length]).map .fz)]):=
  bu (dL (ig A E) (eN rt) (wH (ez (iV aW)) (ez aW) (xJ _ _)))
 have e:HS b ({p.1 with wt:=lD (ks++[k],g,Sw)},p.2) (dR b {p.1 with wt:=lD (ks++[k],g,Sw)} p.2 ps (J++[.dead])++[.lst ((bV ((fS b (ks++[k])).map (·.1.length))).map .fz)]++[.lst ((bV [(ks++[k]).length]).map .fz)]):=⟨ps,_,l,rfl⟩;generalize (dR b {p.1 with wt:=lD (ks++[k],g,Sw)} p.2 ps (J++[.dead])++[.lst ((bV ((fS b (ks++[k])).map (·.1.length))).map .fz)]++[.lst ((bV [(ks++[k]).length]).map .fz)]:bh)=Z3 at m e;rw[B];refine jF rfl (j7 (dL (cG (b3 rfl) (ah aL) e0) (ah (iJ (am (ag rfl) aG) rfl (SR rfl))) (cJ (Cd h.ne (h.len Y)))) rfl (DC (mr (lD (ks++[k],g,Sw)) rfl (pz (aq (ah (ag rfl)) (aq (cG (b3 rfl) (ah aL) C) (aq (ah aL) aM))) (SR rfl))) (yF m (fun q=> ?_) fun q=> ?_)))
 .rw[if_pos (of_decide_eq_true q)];obtain⟨F,z,y⟩:=mh Y e ⟨j.sa.ac,j.sa.oc⟩ rfl v u;exact ju (cb e (by left) rfl aM rfl z) ⟨rfl,y⟩
 .rw[if_neg (of_decide_eq_false q)];exact mf ⟨rfl,e⟩
theorem LN (f:SW b p.1) (h:p.1.wt=lD (ks,g,Sw)) (v:WV b p.1.ac (ks++[k]) g Sw) (j:g<b.wt):SW b (xD b p k).1:=by
 have l:xD b p k=if(fS b (ks++[k])).map (·.1.length)=[(ks++[k]).length] then dW b ({p.1 with wt:=lD (ks++[k],g,Sw)},p.2) else({p.1 with wt:=lD (ks++[k],g,Sw)},p.2):=by unfold xD;rw[h]
 rw[l];split
 .exact(jH Y (p:=({p.1 with wt:=lD (ks++[k],g,Sw)},p.2)) ⟨f.sa.ac,f.sa.oc⟩ fun _ _ _ e=>by cases e;exact v).1
 .exact⟨⟨f.sa.ac,f.sa.oc⟩,fun _ _ _ e=>by cases e;exact⟨v,j⟩⟩
omit Y in
theorem DB (s:Vt) (m:Mn):(gZ s m).ac=s.ac/\(gZ s m).wt=s.wt:=by unfold gZ;split<;>exact⟨rfl,rfl⟩
omit Y in
theorem BO {m:Mn} (h:SA b s):SA b (gZ s m):=by
 unfold gZ;split
 .exact h
 .exact⟨h.ac,fun o e=>by cases e⟩
theorem N5 (E:HS b p Z) (R:SA b p.1) (hw:p.1.wt=Sw) (T:(k:Int)<b.n) (hl:p.2.length<900):∃Z',gl [.rf 0,.fz (nd k)] Z= .ok (.fz .none) Z'/\HS b (JA b p k) Z':=by
 obtain⟨P,O⟩:=BE Y R;have K:=Mj Y P O T;obtain⟨u,I⟩:=xE Y P O T;obtain⟨Z1,h1,Xj⟩:=qD E;have h5:=Y.n5;have eb:JA b p k=zD b (rp p.1.ac p.1.oc) (gZ p.1 (look b (rp p.1.ac p.1.oc) k),p.2) k (look b (rp p.1.ac p.1.oc) k):=rfl;rw[eb];have S:jP d9 1 (aj (a8 "Hand" "stands" bG 1 (ao 0) aC) aC) [lD (.rf 0),-(nd k),Sw,Sw,Sw] Z= .ok (.fz (.int (rp p.1.ac p.1.oc))) Z1:=A0 (aq (cb E (by left) rfl aM rfl h1) aM) rfl (zH p.1);generalize rp p.1.ac p.1.oc=L at K u I S P O;generalize look b L k=m at K u I;obtain⟨ps,J,hp,rfl⟩:=Xj;have lb:=u.lb;have c0:=uR m;have c1:=QJ m;have c2:=Oz m;have c3:=mE m;have c4:=Ms m;have eL:dC (.int L) (.int 0)=-(.bool (decide (L=0))):=jj _ _;have A:(aO (cM (cr (aJ (aN xI (aa 4) (cP {pC (.str "layer"),pC (.str "once")})))) (eS "Hand" "once" (ao 0) (af (pC .none))) dA) dA) [lD (.rf 0),-(nd k),-(.int L),-(mD m),-(.str (wd m))] (dR b p.1 p.2 ps J)= .ok (.nx [lD (.rf 0),-(nd k),-(.int L),-(mD m),-(.str (wd m))]) (dR b (gZ p.1 m) p.2 ps J):=by
  have t:cr (aJ (aN xI (aa 4) (cP {pC (.str "layer"),pC (.str "once")}))) [lD (.rf 0),-(nd k),-(.int L),-(mD m),-(.str (wd m))] (dR b p.1 p.2 ps J)= .ok (!(m.abq||m.isO)) (dR b p.1 p.2 ps J):=bZ (by fail "ev");unfold gZ;cases q:(m.abq||m.isO) with
  |true=>rw[q] at t;rw[if_pos rfl];exact cS (jR t jq) jq
  |false=>rw[q] at t;rw[if_neg S9];exact cS (gK t (Co Sw rfl (ah aL))) jq
 have Q:=DB p.1 m;have H:SA b (gZ p.1 m):=BO R;have e:ps.Perm (iy (gZ p.1 m).ac):=by rw[Q.1];exact hp
 have z:HS b (gZ p.1 m,p.2) (dR b (gZ p.1 m) p.2 ps J):=⟨ps,J,e,rfl⟩;generalize gZ p.1 m=s2 at A Q H e z;have N:Wy ((cM (cr (aJ (aN dC (aa 4) (pC (.str "tap"))))) (eS "Hand" "waiting" (ao 0) (af (cP {cP {aa 1},~~~0,aa 3}))) (cM (o0 (cr (aJ (aN dC (aa 4) (pC (.str "letter"))))) (o0 (cr (aJ (aN dC (aa 2) (~~~0)))) (bN (lw uB (jP bH 2 (aj (aV "Hand" "bed" (ao 0)) (aj (af (cP {aa 1})) aC))) (af (di ay)))))) (eS "Hand" "waiting" (ao 0) (af (cP {cP {aa 1},~~~0,pC (.tuple [(.str "chord")])}))) (cM (cr (aJ (aN dC (aa 4) (pC (.str "once"))))) (aO (bU (a8 "Hand" "come" bC 3 (ao 0) (aj (af (aa 1)) (aj (af (pC (.tuple [(.str "none")]))) aC))))
 (eS "Hand" "once" (ao 0) (af (aN bw (aa 3) (~~~1))))) (bU (a8 "Hand" "come" bC 3 (ao 0) (aj (af (aa 1)) (aj (af (aa 3)) aC))))))) [lD (.rf 0),-(nd k),-(.int L),-(mD m),-(.str (wd m))] (dR b s2 p.2 ps J)) (fun _ Z'=>SV.fz .none= .fz .none/\HS b (zD b L (s2,p.2) k m) Z') (fun _ _=>False) (fun r Z'=>r= .fz .none/\HS b (zD b L (s2,p.2) k m) Z'):=by
  have y:∀{Z:bh},cr (aJ (aN dC (aa 4) (pC (.str "tap")))) [lD (.rf 0),-(nd k),-(.int L),-(mD m),-(.str (wd m))] Z= .ok m.isT Z:=bZ (by fail "ev");have C:∀{Z:bh},cr (aJ (aN dC (aa 4) (pC (.str "letter")))) [lD (.rf 0),-(nd k),-(.int L),-(mD m),-(.str (wd m))] Z= .ok m.isL Z:=bZ (by fail "ev");have B:∀{Z:bh},cr (aJ (aN dC (aa 4) (pC (.str "once")))) [lD (.rf 0),-(nd k),-(.int L),-(mD m),-(.str (wd m))] Z= .ok m.isO Z:=bZ (by fail "ev");have F:∀{Z:bh},cr (aJ (aN dC (aa 2) (~~~0))) [lD (.rf 0),-(nd k),-(.int L),-(mD m),-(.str (wd m))] Z= .ok (decide (L=0)) Z:=bZ (by fail "ev");have kt:∀{Z:bh},af (cP {aa 1}) [lD (.rf 0),-(nd k),-(.int L),-(mD m),-(.str (wd m))] Z= .ok (.fz (.tuple (bV [k]))) Z:=ah (iJ (am (ag rfl) aG) rfl (SR rfl));have cm:∀{Z:bh},HS b (s2,p.2) Z->VA b.ls.length m->∃Z',bU (a8 "Hand" "come" bC 3 (ao 0) (aj (af (aa 1)) (aj (af (aa 3)) aC))) [lD (.rf 0),-(nd k),-(.int L),-(mD m),-(.str (wd m))] Z= .ok (.nx [lD (.rf 0),-(nd k),-(.int L),-(mD m),-(.str (wd m))]) Z'/\HS b (gQ (s2,p.2) k m) Z':=fun{Z} E va=>by obtain⟨Z',l,j⟩:=rS (k:=k) E (H.ak Y) va.lb (by omega) (show p.2.length<1000 by omega);exact⟨Z',jm (cb E (by left) rfl (aq (ah (ag rfl)) (aq (ah (ag rfl)) aM)) rfl l),j⟩
  cases m with
  |below=>exact absurd rfl I
  |YB c n=>refine tM y (oY (mr (lD ([k],0,lD (c,n))) rfl (ah (ρ':=bQ [lD (.rf 0),-(nd k),-(.int L),-(mD (.YB c n)),-(.str (wd (.YB c n)))]) ?_)) ⟨rfl,ps,J,e,rfl⟩);show _=Res.ok (PV.fz (.tuple [.tuple [nd k],.int 0,mD (.YB c n)]),_);fail "ev"
  |TK c=>
   obtain⟨d1,d2⟩:VA b.ls.length (.TK c)/\True:=⟨u,trivial⟩;by_cases G:L=0
   .rw[decide_eq_true G] at F
    have ov:=C8 Y (Z1:=dR b s2 p.2 ps J) ⟨ps,J,rfl⟩ rfl (SR rfl) kt;have M:HS b (s2,p.2) (dR b s2 p.2 ps J++[.lst (((fS b [k]).map gy).map .fz)]++[.lst []]):=⟨ps,_,e,rfl⟩;have v:zD b L (s2,p.2) k (.TK c)=if(!(fS b [k]).isEmpty)=Sz then({s2 with wt:=lD ([k],0,Sw)},p.2) else gQ (s2,p.2) k (.TK c):=by show(if(decide (L=0)&& !(fS b [k]).isEmpty)=Sz then _ else _)=_;rw[decide_eq_true G,Yo]
    rw[v];refine eK y (yF (jI C (jI F (bu ov))) (fun q=> ?_) fun q=> ?_)
    .rw[if_pos q];refine oY (mr (lD ([k],0,Sw)) rfl (ah (ρ':=bQ [lD (.rf 0),-(nd k),-(.int L),-(mD (.TK c)),-(.str (wd (.TK c)))]) ?_)) ⟨rfl,ps,_,e,rfl⟩;show _=Res.ok (PV.fz (.tuple [.tuple [nd k],.int 0,.tuple [.str "chord"]]),_);fail "ev"
    .rw[if_neg (by rw[q];simp)];obtain⟨Z',l,j⟩:=cm M u;exact eK B (oY l ⟨rfl,j⟩)
   .rw[decide_eq_false G] at F
    have v:zD b L (s2,p.2) k (.TK c)=gQ (s2,p.2) k (.TK c):=by show(if(decide (L=0)&& !(fS b [k]).isEmpty)=Sz then _ else _)=_;rw[decide_eq_false G,WE,if_neg S9]
    rw[v];obtain⟨Z',l,j⟩:=cm z u;exact eK y (eK (jI C (iC F)) (eK B (oY l ⟨rfl,j⟩)))
  |Vr n=>obtain⟨Z',l,j⟩:=cm z u;exact eK y (eK (iC C) (eK B (oY l ⟨rfl,j⟩)))
  |none=>obtain⟨Z',l,j⟩:=cm z trivial;exact eK y (eK (iC C) (eK B (oY l ⟨rfl,j⟩)))
  |once n=>obtain⟨Z',l,j⟩:=rS (k:=k) (a:= .none) z (H.ak Y) trivial (by omega) (show p.2.length<1000 by omega);have i1:bw (mD (.once n)) (.int 1)=-(.int n):=kP;obtain⟨X,J2,hq,rfl⟩:=j;refine eK y (eK (iC C) (tM B (DC (jm (cb z (by left) rfl (aq (ah (ag rfl)) (aq (ah aL) aM)) rfl l)) (oY (Co (lD n) rfl (ah (ρ':=bQ [lD (.rf 0),-(nd k),-(.int L),-(mD (.once n)),-(.str (wd (.once n)))]) ?_)) ⟨rfl,X,J2,hq,rfl⟩))));show _=Res.ok (PV.fz (.int n),_);exact aK (rv:= .fz (.int n)) (ag rfl) aL rfl rfl i1
 refine jF (ρ:=[lD (.rf 0),-(nd k),Sw,Sw,Sw]) rfl (j7 S rfl (j7 (A0 (ds:=[bD b,.int L,nd k]) (aq (qp rfl) (aq (ah (ag rfl)) (aq (ah (ag rfl)) aM))) rfl K) rfl (j7 (ah (d:= .str (wd m)) (ρ':=bQ [lD (.rf 0),-(nd k),-(.int L),-(mD m),Sw]) (aK (rv:= .fz (.str (wd m))) (ag rfl) aL rfl rfl c0)) rfl ?_)));refine .eq ?_ N;have U:∀{f g:fC} {ρ:bA} {Z Z':bh},aO f dA ρ Z= .ok (.nx ρ) Z'->aO f g ρ Z=g ρ Z':=fun{f g ρ Z Z'} h=>by
  unfold aO at h⊢;cases q:f ρ Z with
  |bad=>rw[q] at h;cases h
  |er x o=>rw[q] at h;cases h
  |ok fl o=>
   rw[q] at h;cases fl with
   |nx r=>cases h;rfl
   |_=>cases h
 exact U A
end
section
variable {b:Bd} (Y:VB b) {s:Vt} {sn:Sn} {ps:List (Nat×Mn)} {J:bh} {ρ:bA} {i:Nat} {Z:bh} {p:Vt×Sn} {k:Nat} {a:Mn} {ks:List Nat} {g:Int} {w:Option (Nat×Int)}
include Y
omit Y in
theorem Dt (h:SA b s) (f:s.wt=Sw):SW b s:=⟨h,fun _ _ _ e=>by rw[f] at e;cases e⟩
theorem OT (A:SA b p.1) (M:p.1.wt=Sw) (y:(k:Int)<b.n) (ha:p.1.ac k=Sw):SW b (JA b p k).1:=by
 obtain⟨H,G⟩:=BE Y A;obtain⟨f,v⟩:=xE Y H G y;have O:JA b p k=zD b (rp p.1.ac p.1.oc) (gZ p.1 (look b (rp p.1.ac p.1.oc) k),p.2) k (look b (rp p.1.ac p.1.oc) k):=rfl;rw[O];generalize rp p.1.ac p.1.oc=L at f v H G;generalize look b L k=m at f v;have z:=DB p.1 m;have l:SA b (gZ p.1 m):=BO A;have j:=z.2.trans M;have u:(gZ p.1 m).ac k=Sw:=by rw[z.1];exact ha
 generalize gZ p.1 m=s2 at l j u;have S:=Y.w1;have C:[k].Nodup:=UL.mpr ⟨UE,XX⟩;have E:∀x∈[k],(x:Int)<b.n:=fun x t=>by rw[Td.mp t];exact y
 have F:∀x∈[k],s2.ac x=Sw:=fun x t=>by rw[Td.mp t];exact u
 have cm:∀m,VA b.ls.length m->SW b (gQ (s2,p.2) k m).1:=fun m I=>Dt (l.cm y I) j;cases m with
 |below=>exact absurd rfl v
 |YB c n=>refine⟨⟨l.ac,l.oc⟩,fun _ _ _ e=> ?_⟩;cases e;exact⟨⟨by simp,C,E,F,W5 _,fun R K e=>by cases e;exact⟨f.1,f.2,rfl⟩,fun e=>by cases e⟩,by omega⟩
 |TK c=>
  show SW b (if(decide (L=0)&& !(fS b [k]).isEmpty)=Sz then({s2 with wt:=lD ([k],0,Sw)},p.2) else gQ (s2,p.2) k (.TK c)).1;split
  .rename_i q
   refine⟨⟨l.ac,l.oc⟩,fun _ _ _ e=> ?_⟩;cases e;refine⟨⟨by simp,C,E,F,W5 _,fun R K e=>(by cases e),fun _ x t=> ?_⟩,by omega⟩;have B:=(Ts _ _▸q:_/\_).2;cases qo:fS b [k] with
   |nil=>rw[qo] at B;cases B
   |cons c r=>
    have N:c∈fS b [k]:=by rw[qo];exact S5
    obtain⟨Q,P⟩:=Vj.mp N;exact(Y.vc c Q).2.2.1 x (of_decide_eq_true (UU.mp P x t))
  .exact cm _ f
 |Vr n=>exact cm _ f
 |none=>exact cm _ trivial
 |once n=>have h:=cm .none trivial;exact⟨⟨h.sa.ac,fun o e=>by cases e;exact f⟩,fun ks g w e=>by have e:s2.wt=lD (ks,g,w):=e;rw[j] at e;cases e⟩
theorem SW.wd (h:SW b s):WD b s:=fun ks g w e=>(h.wt ks g w e).1
omit Y in
theorem Ak (e:List (Nat×Mn)):∀{p:Vt×Sn},p.1.ac k=Sw->k∉e.map (·.1)->(kG p e).1.ac k=Sw:=by
 induction e with
 |nil=>exact fun h _=>h
 |cons q r f=>intro p h hn;rw[S6,Tq,not_or] at hn;exact f (p:=gQ p q.1 q.2) ((gU hn.1).trans h) hn.2
omit Y in
theorem Bp (ha:p.1.ac k=Sw) (hn:D9 p.1.wt k=SN):(dW b p).1.ac k=Sw:=by
 unfold dW;split
 .exact ha
 .rename_i ks g w q;refine Ak _ (p:=({p.1 with wt:=Sw},p.2)) ha fun z=> ?_;rw[q] at hn;obtain⟨x,e,rfl⟩:=Tv.mp z;exact of_decide_eq_false hn (Ws e).1
theorem Fa (e:SW b p.1) (f:(k:Int)<b.n):SW b (pq b p k).1:=by
 unfold pq;split
 .exact e
 .rename_i q
  rw[Wt,not_or] at q;have ha:p.1.ac k=Sw:=by
   cases z:p.1.ac k with
   |none=>rfl
   |some x=>rw[z] at q;exact absurd rfl q.1
  have hn:D9 p.1.wt k=SN:=by
   cases z:D9 p.1.wt k with
   |false=>rfl
   |true=>exact absurd z q.2
  split
  .rename_i h;obtain⟨ks,g,m,o,l,j⟩:=AM Y e f ha hn h;exact LN Y e m l j
  .have d:=jH Y e.sa (SW.wd Y e);exact OT Y d.1.sa d.2.1 f (Bp ha hn)
theorem Jq (h:HS b p Z) (e:SW b p.1) (B:(k:Int)<b.n) (Q:p.2.length<800):∃Z',hW [.rf 0,.fz (nd k)] Z= .ok (.fz .none) Z'/\HS b (pq b p k) Z':=by
 have R:=Y.n5;have A:k<5:=by omega
 have O:Dr (bN (yP SN (af (aa 1)) (aV "Hand" "acts" (ao 0)))) (bN (a8 "Hand" "is_waiting" cg 2 (ao 0) (aj (af (aa 1)) aC))) [lD (.rf 0),-(nd k)] Z= .ok ((p.1.ac k).isSome||D9 p.1.wt k) Z:=by
  have I:=cb (ρ:=[lD (.rf 0),-(nd k)]) (i:=0) (m:= "is_waiting") (fa:=aj (af (aa 1)) aC) h (by left) rfl (aq (ah (ag rfl)) aM) rfl (HQ h);obtain⟨ps,J,y,rfl⟩:=h
  have u:yP SN (af (aa 1)) (aV "Hand" "acts" (ao 0)) [lD (.rf 0),-(nd k)] (dR b p.1 p.2 ps J)= .ok (.fz (.bool (p.1.ac k).isSome)) (dR b p.1 p.2 ps J):=
   (Az (ah (ag rfl)) (iq rfl) rfl rfl).trans (by rw[show ke (ps.map kT) (.inl (k:Int))=_ from oB y A];cases p.1.ac k<;>rfl)
  cases q:(p.1.ac k).isSome with
  |true=>rw[q] at u;rw[V2];exact oZ (bu u)
  |false=>rw[q] at u;rw[W4];exact lH (bu u) (bu I)
 refine jF rfl (zn O (fun q=> ?_) fun q=>oX ?_)
 .unfold pq;rw[if_pos q];exact xG ⟨rfl,h⟩
 rw[abh] at q;have ha:p.1.ac k=Sw:=by
  cases z:p.1.ac k with
  |none=>rfl
  |some x=>rw[z] at q;exact absurd q.1 (by simp)
 have L:pq b p k=if Jn b p.1 k=Sz then xD b p k else JA b (dW b p) k:=by unfold pq;rw[if_neg (by rw[q.1,q.2];simp)]
 rw[L];obtain⟨P,H,f⟩:=N8 Y h e B q.2;refine zn (bu (cb h (by left) rfl (aq (ah (ag rfl)) aM) rfl H)) (fun t=> ?_) fun t=>oX ?_
 .rw[if_pos t];obtain⟨ks,g,j,T,N,S⟩:=AM Y e B ha q.2 t;obtain⟨l,C,o⟩:=JJ Y f e j N (e.wt _ _ _ j).1 (by omega);exact Pu (mi (cb f (by left) rfl (aq (ah (ag rfl)) aM) rfl C) (xG ⟨rfl,o⟩))
 .rw[if_neg (by rw[t];simp)]
  have d:=jH Y e.sa (SW.wd Y e);have F:∀l,HS b (dW b p) l->Wy (bU (a8 "Hand" "begin" gl 2 (ao 0) (aj (af (aa 1)) aC)) [lD (.rf 0),-(nd k)] l) (fun _ Z'=>SV.fz .none= .fz .none/\HS b (JA b (dW b p) k) Z') (fun _ _=>False) (fun r Z'=>r= .fz .none/\HS b (JA b (dW b p) k) Z'):=fun l o=>by obtain⟨U,K,v⟩:=N5 Y o d.1.sa d.2.1 B (by have:=d.2.2.1;omega);exact ju (cb o (by left) rfl (aq (ah (ag rfl)) aM) rfl K) ⟨rfl,v⟩
  cases qw:p.1.wt with
  |none=>
   have M:dW b p=p:=by unfold dW;rw[qw]
   have j:tE (kh p.1.wt) .none=-(.bool SN):=by rw[qw];rfl
   have E:=F P (by rw[M];exact f);obtain⟨ps,J,y,rfl⟩:=f;exact tN (bu (dL (b3 rfl) (ah aL) (cJ j))) (oX E)
  |some x=>
   obtain⟨ks,g,w⟩:=x;have j:tE (kh p.1.wt) .none=-(.bool Sz):=by rw[qw];rfl
   obtain⟨l,C,o⟩:=mh Y f e.sa qw (e.wt _ _ _ qw).1 (by omega);have G:=cb (ρ:=[lD (.rf 0),-(nd k)]) (i:=0) (m:= "decide") f (by left) rfl aM rfl C;obtain⟨ps,J,y,rfl⟩:=f;exact xo (bu (dL (b3 rfl) (ah aL) (cJ j))) (mi G (F l o))
theorem pB (e:SW b p.1) (f:D9 p.1.wt k=Sz):SW b (cZ b p k).1/\(cZ b p k).2.length<=p.2.length+5:=by
 unfold cZ;split
 .have d:=jH Y e.sa (SW.wd Y e);exact⟨d.1,d.2.2.1⟩
 .rename_i ks g c n q;have v:=(e.wt _ _ _ q).1;rw[q] at f;have h:=v.kn k (of_decide_eq_true f);have j:=(v.tp c n rfl).1;refine⟨Dt (SA.cm ⟨e.sa.ac,e.sa.oc⟩ h j) rfl,?_⟩;have:=sJ (p:=({p.1 with wt:=Sw},p.2)) (k:=k) (a:= .TK c);have:(gQ ({p.1 with wt:=Sw},p.2) k (.TK c)).2.length<=p.2.length+1:=this;omega
 .exact⟨e,acG _ _⟩
theorem iA (j:HS b p Z) (e:SW b p.1) (f:D9 p.1.wt k=Sz) (I:p.2.length<800):∃Z',gF [.rf 0,.fz (nd k)] Z= .ok (.fz .none) Z'/\HS b (cZ b p k) Z':=by
 have L:=Y.n5;cases q:p.1.wt with
 |none=>rw[q] at f;cases f
 |some x=>
  obtain⟨ks,g,w⟩:=x;have v:=(e.wt _ _ _ q).1;have l:k∈ks:=by rw[q] at f;exact of_decide_eq_true f
  have z:bw (kh p.1.wt) (.int 2)=-(uI w):=by rw[q];exact sO
  have F:=(Am fun c n h=>(v.tp c n h).1).1;have u:∀{Z:bh},cr (aJ (aN dC (aa 2) (pC (.tuple [.str "chord"])))) [lD (.rf 0),-(nd k),-(uI w)] Z= .ok w.isNone Z:=bZ (a9 (aK (ag rfl) aL rfl rfl F) rfl);cases w with
  |none=>
   have r:cZ b p k=dW b p:=by unfold cZ;rw[q]
   rw[r];obtain⟨H,o,t⟩:=mh Y j e.sa q v (by omega);have B:=cb (ρ:=[lD (.rf 0),-(nd k),-(uI Sw)]) (i:=0) (m:= "decide") j (by left) rfl aM rfl o;obtain⟨ps,J,y,rfl⟩:=j;exact jF rfl (j7 (cG (b3 rfl) (ah aL) z) rfl (tM u (ju B ⟨rfl,t⟩)))
  |some G=>
   obtain⟨c,n⟩:=G;have r:cZ b p k=gQ ({p.1 with wt:=Sw},p.2) k (.TK c):=by unfold cZ;rw[q]
   rw[r];have E:=(v.tp c n rfl).1;have K:=v.kn k l;obtain⟨ps,J,y,rfl⟩:=j;have A:HS b ({p.1 with wt:=Sw},p.2) (dR b {p.1 with wt:=Sw} p.2 ps J):=⟨ps,J,y,rfl⟩;obtain⟨H,o,t⟩:=rS (k:=k) (a:= .TK c) A (SA.ak Y ⟨e.sa.ac,e.sa.oc⟩) E (by omega) (show p.2.length<1000 by omega);have C:bw (uI (lD (c,n))) (.int 1)=-(.str (jU c)):=kP;exact jF rfl (j7 (cG (b3 rfl) (ah aL) z) rfl (eK u (DC (mr Sw rfl (ah aL)) (ju (cb A (by left) rfl (aq (ah (ag rfl)) (aq (ah (iJ (am aL (am (aK (ag rfl) aL rfl rfl C) aG)) rfl (SR rfl))) aM)) rfl o) ⟨rfl,t⟩))))
omit Y in
theorem Nm (f:SW b p.1):SW b (go p k).1:=by
 refine⟨f.sa.gg,?_⟩;unfold go;split
 .intro ks g w e;obtain⟨v,j⟩:=f.wt ks g w e;exact⟨⟨v.ne,v.nd,v.kn,fun x h=>by
   by_cases z:x=k
   .rw[z];exact fD
   .exact(gU z).trans (v.kf x h),v.g0,v.tp,v.ch⟩,j⟩
 .exact f.wt
theorem KU (e:SW b p.1):SW b (yt b p k).1:=by
 unfold yt;split
 .rename_i q;exact Nm (pB Y e q).1
 .exact Nm e
theorem LY (e:HS b p Z) (h:SW b p.1) (C:(k:Int)<b.n) (t:p.2.length<700):∃Z',jt [.rf 0,.fz (nd k)] Z= .ok (.fz .none) Z'/\HS b (yt b p k) Z':=by
 have E:=Y.n5;have j:k<5:=by omega
 have f:∀{p:Vt×Sn} {Z:bh},HS b p Z->SW b p.1->p.2.length<800->Wy (cM (bN (yP SN (af (aa 1)) (aV "Hand" "acts" (ao 0)))) (bU (a8 "Hand" "go" jL 2 (ao 0) (aj (af (aa 1)) aC))) dA [lD (.rf 0),-(nd k)] Z) (fun _ Z'=>SV.fz .none= .fz .none/\HS b (go p k) Z') (fun _ _=>False) (fun r Z'=>r= .fz .none/\HS b (go p k) Z'):=fun{p Z} e h t=>by
  cases qa:p.1.ac k with
  |none=>
   have y:go p k=p:=by unfold go;rw[qa]
   rw[y];obtain⟨ps,J,l,rfl⟩:=e;refine eK (bu ((Az (ah (ag rfl)) (iq rfl) rfl rfl).trans (by rw[show ke (ps.map kT) (.inl (k:Int))=_ from oB l j,qa];rfl))) (mf ⟨rfl,ps,J,l,rfl⟩)
  |some a=>obtain⟨F,u,A⟩:=QE e (h.sa.ak Y) qa (by omega);have o:=cb (ρ:=[lD (.rf 0),-(nd k)]) (i:=0) (m:= "go") (fa:=aj (af (aa 1)) aC) e (by left) rfl (aq (ah (ag rfl)) aM) rfl u;obtain⟨ps,J,l,rfl⟩:=e;exact tM (bu ((Az (ah (ag rfl)) (iq rfl) rfl rfl).trans (by rw[show ke (ps.map kT) (.inl (k:Int))=_ from oB l j,qa];rfl))) (ju o ⟨rfl,A⟩)
 refine jF rfl (zn (bu (cb e (by left) rfl (aq (ah (ag rfl)) aM) rfl (HQ e))) (fun q=> ?_) fun q=> ?_)
 .unfold yt;rw[if_pos q];obtain⟨G,v,B⟩:=iA Y e h q (by omega);have z:=pB Y h q;exact mi (cb e (by left) rfl (aq (ah (ag rfl)) aM) rfl v) (f B z.1 (by omega))
 .unfold yt;rw[if_neg (by rw[q];simp)];exact oX (f e h (by omega))
theorem L6 (f:SW b p.1):SW b (nr b p).1:=by
 unfold nr;split
 .exact f
 .rename_i ks g w q
  obtain⟨v,l⟩:=f.wt ks g w q;have j:WV b p.1.ac ks (g+1) w:=⟨v.ne,v.nd,v.kn,v.kf,by have:=v.g0;omega,v.tp,v.ch⟩;split
  .exact(jH Y (p:=({p.1 with wt:=lD (ks,g+1,w)},p.2)) ⟨f.sa.ac,f.sa.oc⟩ fun _ _ _ e=>by cases e;exact j).1
  .rename_i h;exact⟨⟨f.sa.ac,f.sa.oc⟩,fun _ _ _ e=>by cases e;exact⟨j,by omega⟩⟩
theorem KC (n:HS b p Z) (e:SW b p.1) (A:p.2.length<800):∃Z',gp [.rf 0] Z= .ok (.fz .none) Z'/\HS b (nr b p) Z':=by
 obtain⟨ps,J,l,rfl⟩:=n;cases q:p.1.wt with
 |none=>
  have f:nr b p=p:=by unfold nr;rw[q]
  rw[f];have h:uH (kh p.1.wt) .none=-(.bool Sz):=by rw[q];rfl
  exact jF rfl (xo (bu (dL (b3 rfl) (ah aL) (cJ h))) (xG ⟨rfl,ps,J,l,rfl⟩))
 |some x=>
  obtain⟨ks,g,w⟩:=x;have v:=(e.wt _ _ _ q).1;have m:WV b p.1.ac ks (g+1) w:=⟨v.ne,v.nd,v.kn,v.kf,by have:=v.g0;omega,v.tp,v.ch⟩;have f:nr b p=if g+1=b.wt then dW b ({p.1 with wt:=lD (ks,g+1,w)},p.2) else({p.1 with wt:=lD (ks,g+1,w)},p.2):=by unfold nr;rw[q]
  rw[f];have h:uH (kh p.1.wt) .none=-(.bool SN):=by rw[q];rfl
  have e0:bw (kh p.1.wt) (.int 0)=-(.tuple (bV ks)):=by rw[q];exact jO
  have u:bw (kh p.1.wt) (.int 2)=-(uI w):=by rw[q];exact sO
  have t:bw (kh p.1.wt) (.int 1)=-(.int g):=by rw[q];exact kP
  have r:bw (bD b) (.int 3)=-(.int b.wt):=M8 rfl;have j:HS b ({p.1 with wt:=lD (ks,g+1,w)},p.2) (dR b {p.1 with wt:=lD (ks,g+1,w)} p.2 ps J):=⟨ps,J,l,rfl⟩;refine jF rfl (tN (bu (dL (b3 rfl) (ah aL) (cJ h))) (oX (j7 (dL (cG (b3 rfl) (ah aL) t) (ah aL) (cJ (gz _ _))) rfl (DC (mr (lD (ks,g+1,w)) rfl (pz (aq (cG (b3 rfl) (ah aL) e0) (aq (ah (ag rfl)) (aq (cG (b3 rfl) (ah aL) u) aM))) (SR rfl))) (yF (bu (dL (ah (ag rfl)) (cG (qp rfl) (ah aL) r) (cJ (jj _ _)))) (fun z=> ?_) fun z=> ?_)))))
  .rw[if_pos (of_decide_eq_true z)];obtain⟨B,o,y⟩:=mh Y j ⟨e.sa.ac,e.sa.oc⟩ rfl m (show p.2.length<900 by omega);exact ju (cb j (by left) rfl aM rfl o) ⟨rfl,y⟩
  .rw[if_neg (of_decide_eq_false z)];exact mf ⟨rfl,j⟩
def Xk.abX:Xk->Bool
 | .turn=>Sz
 |_=>SN
def Xk.isDown:Xk->Bool
 | .down _=>Sz
 |_=>SN
def EV (b:Bd):Xk->Prop
 | .down k=>(k:Int)<b.n
 | .up k=>(k:Int)<b.n
 | .turn=>True
theorem wX (f:SW b s) (h:EV b e):SW b (aQ b s e).1:=by
 cases e with
 |down k=>exact Fa Y f h
 |up k=>exact KU Y f
 |turn=>exact L6 Y f
omit Y in
theorem vk:∀l:List (Nat×Mn),aI tm (l.map pD)=lD (l.map kT)
 |[]=>rfl
 |q::r=>by rw[S6];unfold aI;rw[vk r];rfl
omit Y in
theorem zT:∀(l f:List (Nat×Mn)),((f++l).map (·.1)).Nodup->nF (f.map kT) (l.map kT)=(f++l).map kT
 |[],f,_=>by rw[Tr];rfl
 |q::r,f,h=>by
  have hn:∀x∈f,x.1≠q.1:=fun x j e=>by rw[Tc,V4] at h;exact h.2.2 _ (Tv.mpr ⟨x,j,rfl⟩) q.1 S5 e
  have t:kF (f.map kT) (kT q).1 (kT q).2=(f++[q]).map kT:=by
   unfold kF;rw[if_neg ?_,Tc]
   .rfl
   .intro z;obtain⟨u,o,n⟩:=Y3.mp z;obtain⟨x,m,rfl⟩:=Tv.mp o;have:=Sum.inl.inj (of_decide_eq_true n);exact hn x m (by omega)
  show nF (kF (f.map kT) (kT q).1 (kT q).2) (r.map kT)=_;rw[t,zT r (f++[q]) (by rw[Tg];exact h),Tg];rfl
omit Y in
theorem JQ:eC [.rf 0,.fz (bD b),.fz (eE s)] [.obj "Hand" []]= .ok (.fz .none) (dR b s [] (iy s.ac) []):=by
 have e0:bw (eE s) (.int 0)=-(.tuple ((iy s.ac).map pD)):=jO;have y:bw (eE s) (.int 1)=-(kh s.wt):=kP;have v:bw (eE s) (.int 2)=-(uy s.oc):=sO;have z:eF "bed" (.fz (bD b)) []=([("bed",.fz (bD b))]:List (Str×SV)):=rfl;have q:eF "acts" (.rf 1) ([("bed",.fz (bD b))]:List (Str×SV))=([("bed",.fz (bD b)),("acts",.rf 1)]:List (Str×SV)):=by unfold eF;rw[if_neg (by left)];rfl
 have o:eF "waiting" (.fz (kh s.wt)) ([("bed",.fz (bD b)),("acts",.rf 1)]:List (Str×SV))=([("bed",.fz (bD b)),("acts",.rf 1),("waiting",.fz (kh s.wt))]:List (Str×SV)):=by unfold eF;rw[if_neg (by left)];unfold eF;rw[if_neg (by left)];rfl
 have n:eF "once" (.fz (uy s.oc)) ([("bed",.fz (bD b)),("acts",.rf 1),("waiting",.fz (kh s.wt))]:List (Str×SV))=([("bed",.fz (bD b)),("acts",.rf 1),("waiting",.fz (kh s.wt)),("once",.fz (uy s.oc))]:List (Str×SV)):=by unfold eF;rw[if_neg (by left)];unfold eF;rw[if_neg (by left)];unfold eF;rw[if_neg (by left)];rfl
 have m:eF "sent" (.rf 2) ([("bed",.fz (bD b)),("acts",.rf 1),("waiting",.fz (kh s.wt)),("once",.fz (uy s.oc))]:List (Str×SV))=vZ b s:=by unfold eF;rw[if_neg (by left)];unfold eF;rw[if_neg (by left)];unfold eF;rw[if_neg (by left)];unfold eF;rw[if_neg (by left)];rfl
 have r:nF [] ((iy s.ac).map kT)=(iy s.ac).map kT:=zT (iy s.ac) [] (sU s.ac);have e:∀{x:SV} {ρ:bA} {fs:List (Str×SV)} {Z:bh} {j:ef} {f:Str} {c:Cell} {l:bh},ρ[0]? =lD (lD (.rf 0))->j ρ Z= .ok x (.obj "Hand" fs::l)->fs.length<100->eS "Hand" f (ao 0) j ρ Z= .ok (.nx ρ) (.obj "Hand" (eF f x fs)::l):=fun h u t=>(jX u (bj h) rfl t).trans rfl
 have ha:yZ (af (aN bw (aa 2) (~~~0))) [lD (.rf 0),-(bD b),-(eE s)] [.obj "Hand" ([("bed",.fz (bD b))]:List (Str×SV))]= .ok (.rf 1) [.obj "Hand" ([("bed",.fz (bD b))]:List (Str×SV)),.Yu ((iy s.ac).map kT)]:=
  (KZ (ah (d:= .tuple ((iy s.ac).map pD)) (aK (rv:= .fz (.tuple ((iy s.ac).map pD))) (ag rfl) aL rfl rfl e0)) (vk _)).trans (by rw[r];rfl)
 refine oQ (ρ:=[lD (.rf 0),-(bD b),-(eE s)]) (ρ1:=[lD (.rf 0),-(bD b),-(eE s)]) rfl (cS (e rfl (c:= .dead) (ah (d:=bD b) (ag rfl)) (SR rfl)) (cS (e rfl (c:= .dead) ha (SR rfl)) (cS (e rfl (c:= .dead) (ah (d:=kh s.wt) (aK (rv:= .fz (kh s.wt)) (ag rfl) aL rfl rfl y)) (SR rfl)) (cS (e rfl (c:= .dead) (ah (d:=uy s.oc) (aK (rv:= .fz (uy s.oc)) (ag rfl) aL rfl rfl v)) (SR rfl)) ?_))));rw[q,o,n];refine(e (fs:=([("bed",.fz (bD b)),("acts",.rf 1),("waiting",.fz (kh s.wt)),("once",.fz (uy s.oc))]:List (Str×SV))) rfl (c:= .dead) (eN (ds:=[]) (tU aG rfl (T5 _))) (SR rfl)).trans ?_;show RS.ok _ (Cell.obj "Hand" (eF "sent" (.rf 2) ([("bed",.fz (bD b)),("acts",.rf 1),("waiting",.fz (kh s.wt)),("once",.fz (uy s.oc))]:List (Str×SV)))::_)=_;rw[m];rfl
omit Y in
theorem La (e:Xk):∃x:Str,bw (gv e) (.int 0)=-(.str x)/\dC (.str x) (.str "turn")=-(.bool (e.abX))/\dC (.str x) (.str "down")=-(.bool (e.isDown)):=by
 have h:SG.strOk "down"=Sz:=by left
 have j:SG.strOk "up"=Sz:=by left
 have f:SG.strOk "turn"=Sz:=by left
 cases e with
 |down k=>exact⟨"down",jO,B0 h f (by left),Mx h⟩
 |up k=>exact⟨"up",jO,B0 j f (by left),B0 j h (by left)⟩
 |turn=>exact⟨"turn",jO,Mx f,B0 f h (by left)⟩
theorem Mg (o:SW b s) (y:EV b e):∃Z',lW [.fz (bD b),.fz (eE s),.fz (gv e)] []= .ok (.tp [.rf 2,.fz (eE (aQ b s e).1)]) Z'/\sh Z' (.rf 2)=lD (.list ((aQ b s e).2.map jc)):=by
 have f:HS b (s,[]) (dR b s [] (iy s.ac) []):=⟨iy s.ac,[],.refl _,rfl⟩;obtain⟨x,u,A,z⟩:=La e;have n:∀{Z:bh},cr (aJ (aN dC (aN bw (aa 2) (~~~0)) (pC (.str "turn")))) [-(bD b),-(eE s),-(gv e),lD (.rf 0)] Z= .ok (e.abX) Z:=bZ (a9 (aK (aK (ag rfl) aL rfl rfl u) aL rfl rfl A) rfl);have v:∀{Z:bh},cr (aJ (aN dC (aN bw (aa 2) (~~~0)) (pC (.str "down")))) [-(bD b),-(eE s),-(gv e),lD (.rf 0)] Z= .ok (e.isDown) Z:=bZ (a9 (aK (aK (ag rfl) aL rfl rfl u) aL rfl rfl z) rfl);have j:∀{Z:bh},HS b (aQ b s e) Z->Wy (gL (mP (aj (aV "Hand" "sent" (ao 3)) (aj (a8 "Hand" "stands" bG 1 (ao 3) aC) aC))) [-(bD b),-(eE s),-(gv e),lD (.rf 0)] Z) (fun _ Z'=>SV.fz .none= .tp [.rf 2,.fz (eE (aQ b s e).1)]/\sh Z' (.rf 2)=lD (.list ((aQ b s e).2.map jc))) (fun _ _=>False) (fun r Z'=>r= .tp [.rf 2,.fz (eE (aQ b s e).1)]/\sh Z' (.rf 2)=lD (.list ((aQ b s e).2.map jc))):=fun{Z} hs=>by obtain⟨t,h,l⟩:=qD hs;have m:=cb (ρ:=[-(bD b),-(eE s),-(gv e),lD (.rf 0)]) (i:=3) (m:= "stands") hs (by left) rfl aM rfl h;obtain⟨ps,J,F,rfl⟩:=hs;obtain⟨C,G,E,rfl⟩:=l;exact NQ (MK (aq (wK rfl) (aq m aM)) (SR rfl) rfl rfl) ⟨rfl,ez rfl⟩
 have B:vP "Hand" eC 3 (aj (af (aa 0)) (aj (af (aa 1)) aC)) [-(bD b),-(eE s),-(gv e),Sw] []= .ok (.rf 0) (dR b s [] (iy s.ac) []):=NW (aq (ah (ag rfl)) (aq (ah (ag rfl)) aM)) rfl JQ;refine jF rfl (j7 B rfl ?_);cases e with
 |turn=>obtain⟨t,h,l⟩:=KC Y f o (show 0<800 by decide);exact xo n (mi (cb f (by left) rfl aM rfl h) (j l))
 |down k=>obtain⟨t,h,l⟩:=Jq Y f o y (show 0<800 by decide);have q:bw (gv (.down k)) (.int 1)=-(nd k):=kP;exact tN n (xo v (mi (cb f (by left) rfl (aq (ah (aK (ag rfl) aL rfl rfl q)) aM) rfl h) (j l)))
 |up k=>obtain⟨t,h,l⟩:=LY Y f o y (show 0<700 by decide);have q:bw (gv (.up k)) (.int 1)=-(nd k):=kP;exact tN n (tN v (mi (cb f (by left) rfl (aq (ah (aK (ag rfl) aL rfl rfl q)) aM) rfl h) (j l)))
theorem Qa {e:Xk} (h:SW b s) (l:EV b e):vf lW 3 [.fz (bD b),.fz (eE s),.fz (gv e)] Z= .ok (.tp [.rf Z.length,.fz (eE (aQ b s e).1)]) (Z++[.lst (((aQ b s e).2.map jc).map .fz)]):=by
 obtain⟨f,n,m⟩:=Mg Y h l;unfold vf;rw[if_pos (show([.fz (bD b),.fz (eE s),.fz (gv e)]:List SV).length=3 from rfl),show aI ze [.fz (bD b),.fz (eE s),.fz (gv e)]=lD [bD b,eE s,gv e] from rfl];dsimp only;rw[show[bD b,eE s,gv e].map SV.fz=[.fz (bD b),.fz (eE s),.fz (gv e)] from rfl,n];show(match EY f Z.length [.rf 2,.fz (eE (aQ b s e).1)] with
  |some (l',cs,js)=>if js.Nodup then RS.ok (SV.tp l') (Z++cs.map Re) else .bad
  |none=> .bad)=_
 have j:EY f Z.length [.rf 2,.fz (eE (aQ b s e).1)]=lD ([.rf Z.length,.fz (eE (aQ b s e).1)],[(aQ b s e).2.map jc],[2]):=by unfold EY;rw[m];rfl
 rw[j];dsimp only;rw[if_pos (by decide)];rfl
end
def OG:Vt:=⟨fun _=>Sw,Sw,Sw⟩
theorem CC (b:Bd):SW b OG:=⟨⟨fun k a e=>(by cases e),fun o e=>(by cases e)⟩,fun f g w e=>(by cases e)⟩
theorem oy {α:Type} {f:α->D}:∀{l:List α},(∀a∈l,SG.canLay0 (f a)=Sz)->SG.canLayAll0 (l.map f)=Sz
 |[],_=>rfl
 |a::r,h=>by show(SG.canLay0 (f a)&&SG.canLayAll0 (r.map f))=Sz;rw[h a S5,oy fun x b=>h x (S2 _ b)];rfl
theorem jn {α:Type} {f:α->D} {n:Nat}:∀{l:List α},(∀a∈l,SG.depth (f a)<=n)->SG.depthAll (l.map f)<=n
 |[],_=>T5 _
 |a::r,h=>ag5.mpr ⟨h a S5,jn fun x b=>h x (S2 _ b)⟩
theorem Mv {d:D} (b:SG.canLay0 d=Sz) (a:SG.depth d<=64):m9 d=Sz:=by unfold m9;rw[b,decide_eq_true a];rfl
theorem xH {d:D} (h:m9 d=Sz):SG.canLay0 d=Sz:=by unfold m9 at h;exact(Ts _ _▸h:_/\_).1
theorem rF {d:D} (h:m9 d=Sz):uB d d=-(.bool SN):=by unfold uB;rw[h,xH h,Vl,if_pos rfl,W8 d (xH h)];rfl
theorem Mr {d:D} (h:m9 d=Sz):dC d d=-(.bool Sz):=by unfold dC;rw[h,xH h,Vl,if_pos rfl,W8 d (xH h)]
def WB (sn:Sn):Prop:=∀q∈sn,q.1<26
theorem KS {q:Nat×Bool} (h:q.1<26):SG.canLay0 (jc q)=Sz:=by show(SG.strOk (jU q.1)&&(SG.strOk (if q.2=Sz then "down" else "up")&&Sz))=Sz;rw[nX h];cases q.2<;>left
theorem BQ (q:Nat×Bool):SG.depth (jc q)<=1:=SR rfl
section
variable {b:Bd} (Z:VB b) {s:Vt} {p:Vt×Sn} {k:Nat} {a:Mn}
theorem WB.app {x y:Sn} (f:WB x) (e:WB y):WB (x++y):=fun q g=>(TZ.mp g).elim (f q) (e q)
theorem my (h:WB p.2) (ha:LB a):WB (gQ p k a).2:=by
 refine h.app fun q e=> ?_;cases a with
 |TK c=>
  have e:q∈(if oS p.1.ac (.TK c)=Sz then[] else[(c,Sz)]:Sn):=e;split at e
  .cases e
  .rw[Td.mp e];exact ha
 |_=>cases e
theorem G4 (e:List (Nat×Mn)):∀{p:Vt×Sn},WB p.2->(∀q∈e,LB q.2)->WB (kG p e).2:=by
 induction e with
 |nil=>exact fun h _=>h
 |cons q r g=>exact fun h f=>g (my h (f q S5)) fun x i=>f x (S2 _ i)
theorem Mz (h:WB p.2) (ha:SA b p.1):WB (go p k).2:=by
 unfold go;split
 .rename_i a q
  have lb:=(ha.ac k a q).2.lb;refine h.app fun x e=> ?_;cases a with
  |TK c=>
   have e:x∈(if oS (nt p.1.ac k Sw) (.TK c)=Sz then[] else[(c,SN)]:Sn):=e;split at e
   .cases e
   .rw[Td.mp e];exact lb
  |_=>cases e
 .exact h
include Z
theorem om (h:WB p.2) (i:WD b p.1):WB (dW b p).2:=by
 unfold dW;split
 .exact h
 .rename_i e g w q;exact G4 _ (p:=({p.1 with wt:=Sw},p.2)) h fun x f=>(wF Z (i e g w q) x f).2.lb
theorem PB (h:WB p.2) (g:SA b p.1) (i:(k:Int)<b.n):WB (JA b p k).2:=by
 obtain⟨o,l⟩:=BE Z g;obtain⟨e,f⟩:=xE Z (k:=k) o l i;have j:JA b p k=zD b (rp p.1.ac p.1.oc) (gZ p.1 (look b (rp p.1.ac p.1.oc) k),p.2) k (look b (rp p.1.ac p.1.oc) k):=rfl;rw[j];generalize look b (rp p.1.ac p.1.oc) k=m at e f;generalize rp p.1.ac p.1.oc=L at e;have lb:=e.lb;cases m with
 |YB c n=>exact h
 |TK c=>
  show WB (if(decide (L=0)&& !(fS b [k]).isEmpty)=Sz then({gZ p.1 (.TK c) with wt:=lD ([k],0,Sw)},p.2) else gQ (gZ p.1 (.TK c),p.2) k (.TK c)).2;split
  .exact h
  .exact my (p:=(gZ p.1 (.TK c),p.2)) h lb
 |Vr n=>exact my (p:=(gZ p.1 (.Vr n),p.2)) h lb
 |once n=>exact my (p:=(gZ p.1 (.once n),p.2)) (k:=k) (a:= .none) h trivial
 |none=>exact my (p:=(gZ p.1 .none,p.2)) h lb
 |below=>exact absurd rfl f
theorem BX {e:Xk} (h:SW b s) (l:EV b e):WB (aQ b s e).2:=by
 have f:WB []:=fun q o=>by cases o
 cases e with
 |turn=>
  show WB (nr b (s,[])).2;unfold nr;split
  .exact f
  .rename_i i g w q
   have v:=(h.wt i g w q).1;split
   .exact om Z (p:=({s with wt:=lD (i,g+1,w)},[])) f fun _ _ _ e=>by cases e;exact⟨v.ne,v.nd,v.kn,v.kf,by have:=v.g0;omega,v.tp,v.ch⟩
   .exact f
 |up k=>
  show WB (yt b (s,[]) k).2;unfold yt;split
  .rename_i q
   have z:=pB Z (p:=(s,[])) h q;refine Mz ?_ z.1.sa;unfold cZ;split
   .exact om Z (p:=(s,[])) f (SW.wd Z h)
   .rename_i c n e;have r:c<26:=((h.wt _ _ _ e).1.tp c n rfl).1;exact my (p:=({s with wt:=Sw},[])) f r
   .exact f
  .exact Mz (p:=(s,[])) f h.sa
 |down k=>
  show WB (pq b (s,[]) k).2;unfold pq;split
  .exact f
  .rename_i q
   rw[Wt,not_or] at q;have ha:s.ac k=Sw:=by
    cases z:s.ac k with
    |none=>rfl
    |some x=>exact absurd (show(s.ac k).isSome=Sz by rw[z];rfl) q.1
   have hn:D9 s.wt k=SN:=by
    cases z:D9 s.wt k with
    |false=>rfl
    |true=>exact absurd z q.2
   split
   .rename_i m
    obtain⟨i,g,j,y,t,u⟩:=AM Z (p:=(s,[])) h l ha hn m;have j:s.wt=lD (i,g,Sw):=j;unfold xD;dsimp only;rw[j];dsimp only;split
    .exact om Z (p:=({s with wt:=lD (i++[k],g,Sw)},[])) f fun _ _ _ e=>by cases e;exact t
    .exact f
   .have d:=jH Z (p:=(s,[])) h.sa (SW.wd Z h);exact PB Z (om Z (p:=(s,[])) f (SW.wd Z h)) d.1.sa l
end
end STP
namespace K42
open PySem L2 L3 STP
def qX:FS:=(bW (kO (aJ (aN My (aa 1) (fq b4 {aa 0}))) (dG (aN bw (aa 0) (aa 1))) dB)
 (dG (~~~0)))
def ci:FN:=gR 2 qX
def gM:FS:=(bW (kO (z8 (aJ (aN My (aa 0) (~~~0))) (aJ (aN PO (aa 0) (aN Kg (~~~10) (~~~18))))) (bW (pQ (n9 ip {aa 1}) (gN 3) (jg (aN EE (aa 0) (~~~1000)) (gN 0)))
 (dG (aN sA (aa 0) (aa 2)))) dB)
 (bW (jg (aN i7 (aN d5 (aN d5 (aN sA (aa 0) (~~~1000033)) (aN i7 (~~~77) (aa 1))) (~~~5)) (aN d5 (aN i7 (aa 1) (aa 1)) (~~~40009))) (gN 4))
 (dG (aN sA (aN EE (aN sA (aN d5 (aN i7 (aN sA (aa 4) (~~~998857)) (~~~30011)) (aa 1)) (~~~999983)) (~~~3)) (aa 2)))))
def aY:FN:=gR 5 gM
def ng:FS:=(dG (aN g6 (pC (.str "abz")) (fA aY 3 {aa 0,aa 1,~~~3})))
def dn:FN:=gR 2 ng
def eT:FS:=(bW (jg (fA aY 3 {aa 0,~~~11,~~~12}) (gN 3))
 (bW (kO (aJ (aN dC (aa 2) (~~~1))) (jg (aN bw (di {~~~1,~~~1,~~~1,~~~8}) (fA aY 3 {aa 0,~~~12,~~~4})) (gN 3)) dB)
 (bW (jg (aN d5 (~~~1) (fA aY 3 {aa 0,~~~13,fq vI {~~~1,aN uO (aa 2) (~~~1)}})) (gN 4))
 (bW (kO (z8 (aJ (aN dC (aa 3) (~~~4))) (aJ (aN dC (aa 3) (~~~5)))) (dG (cP {pC (.str "layer"),aa 4})) dB)
 (bW (kO (z8 (aJ (aN dC (aa 3) (~~~6))) (aJ (aN dC (aa 3) (~~~7)))) (dG (cP {pC (.str "tap"),fA dn 2 {aa 0,~~~14},aa 4})) dB)
 (bW (kO (aJ (aN dC (aa 3) (~~~8))) (dG (cP {pC (.str "none")})) dB)
 (bW (kO (aJ (aN dC (aa 3) (~~~9))) (dG (cP {pC (.str "once"),aa 4})) dB)
 (bW (kO (AC (aJ (aN GC (aa 3) (~~~9))) (aJ (aN GC (aa 1) (~~~0)))) (dG (cP {pC (.str "below")})) dB)
 (dG (cP {pC (.str "letter"),fA dn 2 {aa 0,~~~15}}))))))))))
def eO:FN:=gR 5 eT
def gC:FS:=(bW (jg (di ay) (gN 3))
 (bW (pQ (n9 ip {aN Pm (~~~1) (aa 1)}) (gN 4) (bW (jg (fq fU {dX 1 [4] (n9 ip {aa 1}) (gN 0) (aJ (aN dC (aN Cw (aN K9 (aa 1) (aa 0)) (~~~1)) (~~~1))) (aa 0)}) (gN 5))
 (bW (jg (xK (aN GC (fq b4 {aa 5}) (~~~1)) (fq sr {dX 1 [2] (fu (aa 5)) (gN 0) cV (aN dC (aN bw (aN bw (aa 1) (aa 0)) (~~~0)) (pC (.str "letter")))})) (gN 6))
 (kO (AC (aJ (aa 6)) (AC (aJ (aN My (fq b4 {aa 3}) (~~~4))) (aJ (aN dC (fA aY 3 {aa 0,aN d5 (~~~20) (aa 4),~~~3}) (~~~0))))) (rZ (EL 3 (cP {aa 5,aN g6 (pC (.str "abcz")) (fA aY 3 {aa 0,aN d5 (~~~40) (aa 4),~~~4})}))) dB))))
 (dG (fq fU {aa 3}))))
def gI:FN:=gR 7 gC
def kg:FS:=(bW (jg (fA ci 2 {aa 0,aa 1}) (gN 3))
 (bW (jg (aN bw (di (ae (~~~1) {~~~2,~~~2,~~~2,~~~3})) (fA aY 3 {aa 3,~~~5,~~~5})) (gN 4))
 (bW (jg (di ay) (gN 5))
 (bW (pQ (n9 ip {aa 4}) (gN 6) (bW (jg (dX 1 [0,1,2,6] (n9 ip {aa 2}) (gN 0) cV (fA ci 2 {aa 1,aN d5 (aN d5 (aN d5 (aa 2) (~~~1)) (aN i7 (aa 3) (aa 4))) (aa 0)})) (gN 7))
 (rZ (EL 5 (fq fU {dX 1 [6,4] (fu (aa 7)) (gN 0) cV (fA eO 3 {aa 0,aa 1,aa 2})})))))
 (bW (jg (fA gI 3 {fA ci 2 {aa 0,aN d5 (aa 1) (~~~10)},aa 2,aN bw (aa 5) (~~~0)}) (gN 8))
 (dG (cP {aa 2,fq fU {aa 5},aa 8,aN d5 (~~~1) (fA aY 3 {aa 3,~~~6,aN bw (di {~~~4,~~~4,~~~2}) (aN uO (aa 2) (~~~1))})})))))))
def j9:FN:=gR 9 kg
def qQ:FS:=(dG (aN bw (di {~~~1,~~~2,~~~2,~~~3}) (fA aY 3 {fA ci 2 {aa 0,~~~0},~~~1,~~~4})))
def jo:FN:=gR 1 qQ
def lx:FS:=(bW (jg (dX 1 [] (n9 ip {aN bw (aa 0) (~~~0)}) (gN 0) cV (cP {pC (.str "down"),aa 0})) (gN 1))
 (bW (jg (dX 1 [] (n9 ip {aN bw (aa 0) (~~~0)}) (gN 0) cV (cP {pC (.str "up"),aa 0})) (gN 2))
 (dG (aN d5 (aN d5 (aa 1) (aa 2)) (di {cP {pC (.str "turn"),~~~0}})))))
def eR:FN:=gR 3 lx
def qN:FS:=(bW (kO (nw (aJ (mO "tuple" (aa 0)))) (dG (pC (.bool SN))) dB)
 (bW (pQ (fu (aa 0)) (gN 1) (bW (kO (z8 (nw (aJ (mO "tuple" (aa 1)))) (z8 (aJ (aN uB (fq b4 {aa 1}) (~~~2))) (nw (aJ (fq sr {dX 1 [] (fu (aa 1)) (gN 0) cV (mO "str" (aa 0))}))))) (dG (pC (.bool SN))) dB)
 (kO (aJ (aN xI (aN bw (aa 1) (~~~1)) (di {pC (.str "down"),pC (.str "up")}))) (dG (pC (.bool SN))) dB)))
 (dG (pC (.bool Sz)))))
def fO:FN:=gR 2 qN
def mY:FS:=(bW (kO (z8 (nw (aJ (mO "tuple" (aa 0)))) (aJ (aN uB (fq b4 {aa 0}) (~~~2)))) (dG (pC (.bool SN))) dB)
 (bW (kO (z8 (nw (aJ (mO "tuple" (aN bw (aa 0) (~~~0))))) (z8 (nw (aJ (mO "tuple" (aN bw (aa 0) (~~~1))))) (aJ (aN uB (fq b4 {aN bw (aa 0) (~~~0)}) (fq b4 {aN bw (aa 0) (~~~1)}))))) (dG (pC (.bool SN))) dB)
 (bW (pQ (fu (aN bw (aa 0) (~~~0))) (gN 2) (bW (kO (z8 (nw (aJ (mO "tuple" (aa 2)))) (aJ (aN uB (fq b4 {aa 2}) (aa 1)))) (dG (pC (.bool SN))) dB)
 (pQ (fu (aa 2)) (gN 3) (kO (z8 (nw (aJ (mO "int" (aa 3)))) (z8 (aJ (mO "bool" (aa 3))) (nw (aJ (tV Pb My (~~~0) (aa 3) (fq b4 {aN bw (aa 0) (~~~0)})))))) (dG (pC (.bool SN))) dB))))
 (dG (fq sr {dX 1 [1] (fu (aN bw (aa 0) (~~~1))) (gN 0) cV (xK (mO "tuple" (aa 0)) (xK (aN dC (fq b4 {aa 0}) (aa 1)) (fq sr {dX 1 [] (fu (aa 0)) (gN 0) cV (fA fO 1 {aa 0})})))})))))
def gG:FN:=gR 4 mY
end K42
namespace K42
open PySem L2 L3 L10 STP
def dJ:fC:=(aO (cM (bN (CV Sz (af (aa 1)) (aV "Places" "numbers" (ao 0)))) (aO (cM (bN (lw PO (jT b4 (aj (aV "Places" "found" (ao 0)) aC)) (aV "Places" "most" (ao 0)))) (rV "TooMany" "most" (aV "Places" "most" (ao 0))) dA)
 (aO (xa (aV "Places" "numbers" (ao 0)) (af (aa 1)) (jT b4 (aj (aV "Places" "found" (ao 0)) aC)))
 (bU (kJ (aV "Places" "found" (ao 0)) (af (cP {aa 1,aa 2,aa 3})))))) dA)
 (gL (tL (aV "Places" "numbers" (ao 0)) (af (aa 1)))))
def bT:ji:=dg 4 dJ
def c9:fC:=(aO (eS "Places" "most" (ao 0) (af (aa 2)))
 (aO (eS "Places" "found" (ao 0) (af (di ay)))
 (aO (eS "Places" "numbers" (ao 0) wf)
 (bU (qH "Places" "enter" bT 4 (ao 0) (aj (af (aa 1)) (aj (af (pC .none)) (aj (af (pC .none)) aC))))))))
def dm:ji:=dg 3 c9
def r9:fC:=(aO (cY (oW (af (fA eR 1 {aa 0}))) (dY 2))
 (aO (cY (Ez "Places" dm 3 (aj (af (pC (.tuple [(.tuple []),.none,.none]))) (aj (af (aa 1)) aC))) (dY 3))
 (aO (cY (af (di ay)) (dY 4))
 (aO (cY (af (di ay)) (dY 5))
 (aO (qu (bN (lw My (jT b4 (aj (ao 4) aC)) (jT b4 (aj (aV "Places" "found" (ao 3)) aC)))) (aO (cY (jT b4 (aj (ao 4) aC)) (dY 6))
 (aO (cY (g6 (g6 (aV "Places" "found" (ao 3)) (af (aa 6))) (af (~~~0))) (dY 7))
 (aO (cY (oW (eU 1 [0,7] (fM (fu (aa 2))) (dY 0) cK (yO STP.lW 3 (aj (af (aa 1)) (aj (af (aa 2)) (aj (af (aa 0)) aC)))))) (dY 8))
 (aO (bU (kJ (ao 4) (jT fU (aj (sL 2 [3,6] (fM (zL {aa 2,aa 8})) (PU 2 (tT (dY 0) (tT (dY 1) El))) cK (qH "Places" "enter" bT 4 (ao 2) (aj (af (aN bw (aa 1) (~~~1))) (aj (af (aa 3)) (aj (af (aa 0)) aC))))) aC))))
 (bU (kJ (ao 5) (af (fq fU {dX 1 [] (fu (aa 8)) (gN 0) cV (fq fU {aN bw (aa 0) (~~~0)})})))))))))
 (gL (mP (aj (aV "Places" "found" (ao 3)) (aj (ao 4) (aj (ao 5) aC))))))))))
def gO:ji:=dg 9 r9
def xX:fC:=(gL (g6 (ym gO 2 [] (aj (af (aa 0)) (aj (af (aa 1)) aC))) (af (~~~0))))
def dc:ji:=dg 2 xX
def nQ:fC:=(aO (cY wf (dY 1))
 (gL (eU 1 [1] (fQ (ao 0)) (dY 0) cK (zu (ao 1) (af (aa 0)) (qh (ao 1))))))
def d8:ji:=dg 2 nQ
def jw:fC:=(aO (cY (g6 (aV "Sorting" "rounds" (ao 0)) (af (EZ tG (~~~1)))) (dY 2))
 (gL (mP (aj (g6 (ao 2) (af (aa 1))) (aj (jT fU (aj (eU 1 [2] (fQ (g6 (aV "Sorting" "steps" (ao 0)) (af (aa 1)))) (dY 0) cK (g6 (ao 1) (af (aa 0)))) aC)) aC)))))
def bF:ji:=dg 3 jw
def iX:fC:=(aO (cY (oW (ym gO 2 [] (aj (af (aa 1)) (aj (af (aa 2)) aC)))) (dY 3))
 (aO (eS "Sorting" "steps" (ao 0) (af (aN bw (aa 3) (~~~1))))
 (aO (eS "Sorting" "sends" (ao 0) (af (aN bw (aa 3) (~~~2))))
 (aO (eS "Sorting" "rounds" (ao 0) (af (di ay)))
 (aO (cY (nk d8 1 (aj (aV "Sorting" "sends" (ao 0)) aC)) (dY 4))
 (qu (Dr (bN (lw dC (aV "Sorting" "rounds" (ao 0)) (af (di ay)))) (bN (lw GC (jT i6 (aj (ao 4) aC)) (jT i6 (aj (g6 (aV "Sorting" "rounds" (ao 0)) (af (EZ tG (~~~1)))) aC))))) (aO (bU (kJ (aV "Sorting" "rounds" (ao 0)) (ao 4)))
 (cY (nk d8 1 (aj (eU 1 [0] (lQ (jT b4 (aj (aV "Sorting" "steps" (ao 0)) aC))) (dY 0) cK (a8 "Sorting" "mark_of" bF 2 (ao 1) (aj (af (aa 0)) aC))) aC)) (dY 4)))))))))
def cQ:ji:=dg 5 iX
def vV:fC:=(aO (cY (Ez "Sorting" cQ 3 (aj (af (aa 0)) (aj (af (aa 1)) aC))) (dY 2))
 (aO (cY (oW (g6 (aV "Sorting" "rounds" (ao 2)) (af (EZ tG (~~~1))))) (dY 3))
 (aO (cY (oW (af (dX 1 [3] (n9 ip {aN d5 (fq L10.i6 {aa 3}) (~~~1)}) (gN 0) cV (L10.E4 1 (aa 0))))) (dY 4))
 (aO (cY (jT fU (aj (eU 1 [2,3] (fM (fu (aa 4))) (dY 0) cK (jT fU (aj (eU 1 [2] (fQ (g6 (aV "Sorting" "steps" (ao 1)) (af (aa 0)))) (dY 0) cK (af (aN bw (aa 1) (aa 0)))) aC))) aC)) (dY 5))
 (gL (mP (aj (af (aa 5)) (aj (jT fU (aj (eU 1 [2] (fM (fu (aa 4))) (dY 0) cK (g6 (aV "Sorting" "sends" (ao 1)) (af (aa 0)))) aC)) aC))))))))
def eD:ji:=dg 6 vV
def df:ji
 |[.fz b],Z=>(match dc [.fz b,.fz (.int 90)] Z with
  | .ok x Z'=>(match sh Z' x with
   |some (.list ds)=> .ok (.fz (nd ds.length)) Z'
   |_=> .bad)
  | .er x Z'=>if x.cls=("TooMany":Str) then .ok (.fz .none) Z' else .bad
  |_=> .bad)
 |_,_=> .bad
def Nk:fC:=(aO (cY (af (fA j9 3 {aa 0,~~~1,fA jo 1 {aa 0}})) (dY 1))
 (aO (cY (nk df 1 (aj (af (aa 1)) aC)) (dY 2))
 (aO (cM (cr (aJ (aN uH (aa 2) (pC .none)))) (gL (af (pC (.bool Sz)))) dA)
 (aO (cY (tf eD 2 [] (aj (af (aa 1)) (aj (af (~~~90)) aC))) (dY 3))
 (aO (cM (cr (z8 (nw (aJ (fA gG 2 {aa 3,fq b4 {fA eR 1 {aa 1}}}))) (nw (aJ (tV Pb Pb (~~~1) (fq b4 {aN bw (aa 3) (~~~0)}) (aa 2)))))) (gL (af (pC (.bool SN)))) dA)
 (aO (cY (af (~~~1)) (dY 4))
 (aO (zA (fM (n9 ip {fq b4 {aN bw (aa 3) (~~~0)}})) (dY 5) (aO (cM (cr (aJ (aN PO (aa 5) (aa 4)))) (gL (af (pC (.bool SN)))) dA)
 (zA (fM (fu (aN bw (aN bw (aa 3) (~~~0)) (aa 5)))) (dY 6) (aO (cM (cr (aJ (aN GC (aa 6) (aa 4)))) (gL (af (pC (.bool SN)))) dA)
 (cY (af (fq vI {aa 4,aN d5 (aa 6) (~~~1)})) (dY 4))))))
 (gL (A8 (af (aN dC (aa 4) (fq b4 {aN bw (aa 3) (~~~0)}))) (lw dC (tf eD 2 [(.int 400)] (aj (af (aa 1)) aC)) (af (aa 3))))))))))))
def F_law:ji:=dg 7 Nk
abbrev zf (d:D):Option PV:=-(d)
abbrev zo (l:List D):Option PV:=lD (.ow l)
theorem rO (ns:List Int) (k:Nat):∃c:Int,ci [.list (ns.map .int),nd k]= .ok (.fz (.int c)):=by
 have a:b4 [.list (ns.map .int)]=-(nd ns.length):=(i4 _).trans (by rw[Sy]);have lt:=pV (k:Int) (ns.length:Int);by_cases h:k<ns.length
 .rw[decide_eq_true (by omega)] at lt;have e:bw (.list (ns.map .int)) (nd k)=-(.int ns[k]):=yc (by rw[SX,SM h];rfl);exact⟨ns[k],ja (ρ:=[zf (.list (ns.map .int)),zf (nd k)]) rfl (jx (b:=Sz) (a9 (aK (rv:= .fz (.bool Sz)) (ag rfl) (cD (rv:= .fz (nd ns.length)) (am (ag rfl) aG) rfl a) rfl rfl lt) rfl) (fun _=>jB (pv:= .fz (.int ns[k])) (rv:= .fz (.int ns[k])) (aK (rv:= .fz (.int ns[k])) (ag rfl) (ag rfl) rfl rfl e) rfl rfl) fun q=>nomatch q)⟩
 .rw[decide_eq_false (by omega)] at lt;exact⟨0,ja (ρ:=[zf (.list (ns.map .int)),zf (nd k)]) rfl (jx (b:=SN) (a9 (aK (rv:= .fz (.bool SN)) (ag rfl) (cD (rv:= .fz (nd ns.length)) (am (ag rfl) aG) rfl a) rfl rfl lt) rfl) (fun q=>nomatch q) fun _=>dZ (gA (pv:= .fz (.int 0)) (rv:= .fz (.int 0)) aL rfl rfl))⟩
abbrev ET (c:Int) (k m:Nat) (a b:Option PV):bq:=[zf (.int c),zf (nd k),zf (nd m),a,b]
theorem ii (c:Int) (k m:Nat) (o:k<=1000) (hm:0<m):∃r:Nat,aY [.int c,nd k,nd m]= .ok (.fz (nd r))/\r<m:=by
 have a:∀x:Int,∃r:Nat,sA (.int x) (nd m)=-(nd r)/\r<m:=fun x=>by have A:0<=x % (m:Int):=ac7 _ (by omega);have J:x % (m:Int)<m:=abQ _ (by omega);refine⟨(x % (m:Int)).toNat,?_,by omega⟩;rw[wm (by omega),nd,Ym A]
 have g:∃rv,gR 5 gM [.int c,nd k,nd m]= .ok rv/\∃r:Nat,rv= .fz (nd r)/\r<m:=by
  refine sK (T:=fun rv=>∃r:Nat,rv= .fz (nd r)/\r<m) (ρ:=ET c k m Sw Sw) rfl ?_;unfold gM;have f:=MO;refine jx (b:=decide (c<0)||decide ((10:Int)^18<=c)) (ρ1:=ET c k m Sw Sw) (jb (a9 (aK (rv:= .fz (.bool (decide (c<0)))) (ag rfl) aL rfl rfl (pV _ _)) rfl) fun _=>a9 (aK (rv:= .fz (.bool (decide ((10:Int)^18<=c)))) (ag rfl) (aK (rv:= .fz (.int ((10:Int)^18))) aL aL rfl rfl f) rfl rfl (zJ _ _)) rfl) (fun _=>FD ?_) (fun _=>dZ ?_)
  .have B:=ma (n:=k) (by omega)
   refine uv (fun _ ρ=>∃(x:Int) (t:Option PV),ρ=ET x k m t Sw) (ds:=bV (SJ k)) (ρ1:=ET c k m Sw Sw) (by fail "ev") ⟨c,Sw,rfl⟩ ?_ ?_
   .rintro i d ρ hi ⟨x,t,rfl⟩;have e:EE (.int x) (.int 1000)=-(.int (x/1000)):=Jj ⟨by decide,by decide⟩;exact⟨_,rfl,Hs (ρ2:=ET (x/1000) k m (zf d) Sw) (aK (rv:= .fz (.int (x/1000))) (ag rfl) aL rfl rfl e) rfl ⟨_,_,rfl⟩⟩
   .rintro ρ ⟨x,t,rfl⟩;obtain⟨r,l,j⟩:=a x;exact jB (pv:= .fz (nd r)) (rv:= .fz (nd r)) (ρ1:=ET x k m t Sw) (aK (rv:= .fz (nd r)) (ag rfl) (ag rfl) rfl rfl l) rfl ⟨r,rfl,j⟩
  .have K:0<=c % 1000033/\c % 1000033<1000033:=⟨ac7 _ (by decide),abQ _ (by decide)⟩
   have I:(k:Int)*k<=1000000:=by
    have:k*k<=1000*1000:=X8 o o;have e:(k:Int)*k=((k*k:Nat):Int):=by rw[Int.natCast_mul]
    omega
   have v:0<=(k:Int)*k:=Int.mul_nonneg (by omega) (by omega);have H:sA (.int c) (.int 1000033)=-(.int (c % 1000033)):=wm (by decide);have G:i7 (.int 77) (nd k)=-(.int (77*k)):=oO ⟨by omega,by omega⟩;have F:i7 (nd k) (nd k)=-(.int (k*k)):=oO ⟨by omega,by omega⟩;have u:i7 (.int (c % 1000033+77*k+5)) (.int (k*k+40009))=-(.int ((c % 1000033+77*k+5)*(k*k+40009))):=oO ⟨by omega,by omega⟩;generalize hx:(c % 1000033+77*(k:Int)+5)*(k*k+40009)=x at u;have E:sA (.int x) (.int 998857)=-(.int (x % 998857)):=wm (by decide);have q:i7 (.int (x % 998857)) (.int 30011)=-(.int (x % 998857*30011)):=IK ⟨by omega,by omega⟩;generalize x % 998857*30011=y at q;have p:sA (.int (y+k)) (.int 999983)=-(.int ((y+k) % 999983)):=wm (by decide);generalize (y+(k:Int)) % 999983=z at p;have C:EE (.int z) (.int 3)=-(.int (z/3)):=Jj ⟨by omega,by omega⟩;obtain⟨r,l,j⟩:=a (z/3);refine fW (ρ3:=ET c k m Sw (zf (.int x))) (by fail "ev") rfl rfl ?_;exact gA (pv:= .fz (nd r)) (rv:= .fz (nd r)) (ρ1:=ET c k m Sw (zf (.int x))) (aK (rv:= .fz (nd r)) (by fail "ev") (ag rfl) rfl rfl l) rfl ⟨r,rfl,j⟩
 obtain⟨rv,h,r,rfl,w⟩:=g;exact⟨r,h,w⟩
theorem N3 {z:Str} {cs:List Nat} (hz:z.cps.toList=cs.map (97+·)) (a:z.length<=1000000) {r:Int} {c:Nat} (b:0<=r) (h:cs[r.toNat]? =lD c):L3.g6 (.str z) (.int r)=-(.str (jU c)):=by show(if z.length<=1000000 then(mX z.cps.toList r).map (fun c=>RV.fz (.str ⟨#[c]⟩)) else Sw)=_;rw[if_pos a,hz,xk (v:=97+c) b (by rw[SX,h];rfl)];rfl
theorem Jp {z:Str} (cs:List Nat) (hz:z.cps.toList=cs.map (97+·)) (b:z.length<=1000000) (e:∀c∈cs,c<26) {r:Int} (f:0<=r) (g:r<cs.length):∃c,c<26/\L3.g6 (.str z) (.int r)=-(.str (jU c)):=by
 have a:r.toNat<cs.length:=by omega
 exact⟨cs[r.toNat],e _ (Vc a),N3 hz b f (SM a)⟩
theorem zY {n i k:Nat} (h:(SJ n)[i]? =lD k):k=i/\i<n:=by obtain⟨b,a⟩:=SD.mp h;rw[List.getElem_range] at a;rw[S0] at b;exact⟨a.symm,b⟩
theorem KY {n a:Int} {e:List (List Mn)} {b:List Mn} (h:VL n a e) (g:(b.length:Int)=n) (f:∀m∈b,VM e.length a m):VL n a (e++[b]):=by
 intro i l hi;rcases L10.cz hi with h'|⟨rfl,rfl⟩
 .exact h i l h'
 .exact⟨g,f⟩
theorem vJ (c:Int) (k:Nat) (e:k<=1000):∃l,l<26/\dn [.int c,nd k]= .ok (.fz (.str (jU l))):=by obtain⟨r,er,g⟩:=ii c k 3 e (by decide);have a:aY [.int c,nd k,.int 3]= .ok (.fz (nd r)):=er;obtain⟨l,b,f⟩:=Jp (z:= "abz") [0,1,25] (by left) (by left) (by decide) (show(0:Int)<=(r:Int) by omega) (show(r:Int)<3 by omega);exact⟨l,b,ja (ρ:=[zf (.int c),zf (nd k)]) rfl (gA (pv:= .fz (.str (jU l))) (rv:= .fz (.str (jU l))) (ρ1:=[zf (.int c),zf (nd k)]) (aK (rv:= .fz (.str (jU l))) aL (dr (rv:= .fz (nd r)) (ds:=[.int c,nd k,.int 3]) (am (ag rfl) (am (ag rfl) (am aL aG))) rfl rfl a) rfl rfl f) rfl rfl)⟩
theorem Pe {a:Nat} (b:1<=a):∃M:Nat,vI [.int 1,.int ((a:Int) - 1)]=-(nd M)/\1<=M/\(1<a->M=a - 1):=by
 by_cases h:1<a
 .refine⟨a - 1,?_,by omega,fun _=>rfl⟩;show lD (RV.fz (.int (if(1:Int)<(a:Int) - 1 then(a:Int) - 1 else 1)))=lD (RV.fz (.int ((a - 1:Nat):Int)));congr 3;split<;>omega
 .obtain rfl:a=1:=by omega
  exact⟨1,rfl,by omega,fun h=>by omega⟩
abbrev E5 (c:Int) (L e:Nat) (a b:Option PV):bq:=[zf (.int c),zf (nd L),zf (nd e),a,b]
theorem JG (c:Int) (L a:Nat) (o:1<=a) (Q:a<=1000):∃m:Mn,VM L a m/\eO [.int c,nd L,nd a]= .ok (.fz (mD m)):=by
 obtain⟨j,e0,F⟩:=ii c 11 12 (by decide) (by decide);obtain⟨g,v,E⟩:=ii c 12 4 (by decide) (by decide);obtain⟨M,O,M1,M2⟩:=Pe o;obtain⟨f,u,G⟩:=ii c 13 M (by decide) (by omega);obtain⟨n,I,A⟩:=vJ c 14 (by decide);obtain⟨l,H,y⟩:=vJ c 15 (by decide);have e0:aY [.int c,.int 11,.int 12]= .ok (.fz (nd j)):=e0;have v:aY [.int c,.int 12,.int 4]= .ok (.fz (nd g)):=v;have u:aY [.int c,.int 13,nd M]= .ok (.fz (nd f)):=u;have A:dn [.int c,.int 14]= .ok (.fz (.str (jU n))):=A;have y:dn [.int c,.int 15]= .ok (.fz (.str (jU l))):=y;have p:∃rv,gR 5 eT [.int c,nd L,nd a]= .ok rv/\∃m:Mn,VM L a m/\rv= .fz (mD m):=by
  refine sK (T:=fun rv=>∃m:Mn,VM L a m/\rv= .fz (mD m)) (ρ:=E5 c L a Sw Sw) rfl ?_;unfold eT;refine fW (ρ3:=E5 c L a (zf (nd j)) Sw) (dr (rv:= .fz (nd j)) (ds:=[.int c,.int 11,.int 12]) (am (ag rfl) (am aL (am aL aG))) rfl rfl e0) rfl rfl ?_;refine Ga (Go.imp (N:=fun r=>∃w:Int,(a=1->w=1\/w=8)/\r=E5 c L a (zf (.int w)) Sw) (HD (b:=decide ((a:Int)=1)) (ρ1:=E5 c L a (zf (nd j)) Sw) (a9 (aK (rv:= .fz (.bool (decide ((a:Int)=1)))) (ag rfl) aL rfl rfl (jj _ _)) rfl) (fun q=> ?_) (fun q=> ?_)) (fun r ⟨w,t,e⟩=> ?_) (fun _ h=>h) (fun _ h=>h))
  .obtain⟨x,C,K⟩:∃x:Int,(x=1\/x=8)/\bw (.list [.int 1,.int 1,.int 1,.int 8]) (nd g)=-(.int x):=by
    have:g=0\/g=1\/g=2\/g=3:=by omega
    rcases this with rfl|rfl|rfl|rfl
    .exact⟨1,.inl rfl,yc rfl⟩
    .exact⟨1,.inl rfl,yc rfl⟩
    .exact⟨1,.inl rfl,yc rfl⟩
    .exact⟨8,.inr rfl,yc rfl⟩
   exact Hs (pv:= .fz (.int x)) (ρ2:=E5 c L a (zf (.int x)) Sw) (aK (rv:= .fz (.int x)) (by fail "ev") (dr (rv:= .fz (nd g)) (ds:=[.int c,.int 12,.int 4]) (am (ag rfl) (am aL (am aL aG))) rfl rfl v) rfl rfl K) rfl ⟨x,fun _=>C,rfl⟩
  .have q:=of_decide_eq_false q;exact wc ⟨j,fun z=>by omega,rfl⟩
  subst e;refine fW (ρ3:=E5 c L a (zf (.int w)) (zf (.int (1+(f:Int))))) (aK (rv:= .fz (.int (1+(f:Int)))) aL (dr (rv:= .fz (nd f)) (ds:=[.int c,.int 13,nd M]) (am (ag rfl) (am aL (am (cD (rv:= .fz (nd M)) (ds:=[.int 1,.int ((a:Int) - 1)]) (am aL (am (aK (rv:= .fz (.int ((a:Int) - 1))) (ag rfl) aL rfl rfl (ul _ _)) aG)) rfl O) aG))) rfl rfl u) rfl rfl (gz _ _)) rfl rfl ?_;have i:1<a->(1:Int)<=1+(f:Int)/\1+(f:Int)<a:=fun z=>by have:=M2 z;omega
  refine jx (b:=decide (w=4)||decide (w=5)) (ρ1:=E5 c L a (zf (.int w)) (zf (.int (1+(f:Int))))) (by fail "ev") (fun q=> ?_) (fun _=>dZ ?_)
  .refine jB (pv:= .fz (mD (.Vr (1+(f:Int))))) (rv:= .fz (mD (.Vr (1+(f:Int))))) (ρ1:=E5 c L a (zf (.int w)) (zf (.int (1+(f:Int))))) (show _=Res.ok (PV.fz (.tuple [.str "layer",.int (1+(f:Int))]),_) by fail "ev") rfl ⟨_,?_,rfl⟩;rw[Wt,decide_eq_true_eq,decide_eq_true_eq] at q;exact i (YF o fun z=>by have:=t z.symm;omega)
  refine jx (b:=decide (w=6)||decide (w=7)) (ρ1:=E5 c L a (zf (.int w)) (zf (.int (1+(f:Int))))) (by fail "ev") (fun q=> ?_) (fun _=>dZ ?_)
  .refine jB (pv:= .fz (mD (.YB n (1+(f:Int))))) (rv:= .fz (mD (.YB n (1+(f:Int))))) (ρ1:=E5 c L a (zf (.int w)) (zf (.int (1+(f:Int))))) (show _=Res.ok (PV.fz (.tuple [.str "tap",.str (jU n),.int (1+(f:Int))]),_) by fail "ev") rfl ⟨_,?_,rfl⟩;rw[Wt,decide_eq_true_eq,decide_eq_true_eq] at q;exact⟨I,i (YF o fun z=>by have:=t z.symm;omega)⟩
  refine jx (b:=decide (w=8)) (ρ1:=E5 c L a (zf (.int w)) (zf (.int (1+(f:Int))))) (by fail "ev") (fun q=> ?_) (fun _=>dZ ?_)
  .exact jB (pv:= .fz (mD .none)) (rv:= .fz (mD .none)) (ρ1:=E5 c L a (zf (.int w)) (zf (.int (1+(f:Int))))) (show _=Res.ok (PV.fz (.tuple [.str "none"]),_) by fail "ev") rfl ⟨.none,trivial,rfl⟩
  refine jx (b:=decide (w=9)) (ρ1:=E5 c L a (zf (.int w)) (zf (.int (1+(f:Int))))) (by fail "ev") (fun q=> ?_) (fun _=>dZ ?_)
  .refine jB (pv:= .fz (mD (.once (1+(f:Int))))) (rv:= .fz (mD (.once (1+(f:Int))))) (ρ1:=E5 c L a (zf (.int w)) (zf (.int (1+(f:Int))))) (show _=Res.ok (PV.fz (.tuple [.str "once",.int (1+(f:Int))]),_) by fail "ev") rfl ⟨_,?_,rfl⟩;rw[decide_eq_true_eq] at q;exact i (YF o fun z=>by have:=t z.symm;omega)
  have J:GC (nd L) (.int 0)=-(.bool (decide ((0:Int)<L))):=rfl;refine jx (b:=(decide (9<w)&&decide ((0:Int)<L))) (ρ1:=E5 c L a (zf (.int w)) (zf (.int (1+(f:Int))))) (by fail "ev") (fun q=> ?_) (fun _=>dZ ?_)
  .rw[Ts] at q;have P:=of_decide_eq_true q.2;exact jB (pv:= .fz (mD .below)) (rv:= .fz (mD .below)) (ρ1:=E5 c L a (zf (.int w)) (zf (.int (1+(f:Int))))) (show _=Res.ok (PV.fz (.tuple [.str "below"]),_) by fail "ev") rfl ⟨.below,by show(L:Int)≠0;omega,rfl⟩
  exact gA (pv:= .fz (mD (.TK l))) (rv:= .fz (mD (.TK l))) (ρ1:=E5 c L a (zf (.int w)) (zf (.int (1+(f:Int))))) (show _=Res.ok (PV.fz (.tuple [.str "letter",.str (jU l)]),_) by fail "ev") rfl ⟨.TK l,H,rfl⟩
 obtain⟨rv,h,m,B,rfl⟩:=p;exact⟨m,B,h⟩
structure CsV (l0:List Mn) (cs:List (List Nat×Nat)):Prop where
 vc:∀c∈cs,VC l0 c
 un:cs.Pairwise fun a c=>a.1≠c.1
theorem CsV.nil (l0:List Mn):CsV l0 []:=⟨fun c a=>(by cases a),Xs⟩
theorem CsV.add (h:CsV l0 cs) (j:2<=s.length) (f:s.Pairwise (·<·)) (i:∀k∈s,E3 l0 k=Sz) (g:l<26) (e:s∉cs.map (·.1)):CsV l0 (cs++[(s,l)]):=by
 refine⟨fun c b=>(TZ.mp b).elim (h.vc c) fun z=> ?_,List.pairwise_append.mpr ⟨h.un,List.pairwise_singleton _ _,fun a ha c b=> ?_⟩⟩
 .rw[Td.mp z];exact⟨j,f,i,g⟩
 .rw[Td.mp b];exact fun z=>e (Tv.mpr ⟨a,ha,z⟩)
theorem NZ (a:k<l0.length):∃d,bw (kW l0) (nd k)=-(d)/\∃w,bw d (.int 0)=-(.str w)/\dC (.str w) (.str "letter")=-(.bool (E3 l0 k)):=by
 have b:E3 l0 k=l0[k].isL:=by unfold E3;rw[SM a];rfl
 rw[b];exact⟨mD l0[k],M8 (by rw[SX,SM a];rfl),_,uR _,mE _⟩
theorem Qb (i:Int) (k:Nat):K9 (.int i) (nd k)=-(.int (i/2^k)):=by show(if RE i (k:Int)=Sz then lD (RV.fz (.int (i/2^((k:Nat):Int).toNat))) else Sw)=_;rw[if_pos (by unfold RE;exact decide_eq_true (by omega)),Um]
def Pw (x:Int) (k:Nat):Bool:=decide (Ua.bitAnd (x/2^k) 1=1)
def rh (n m:Nat):List Nat:=(SJ n).filter (Pw m)
theorem L8:∀n,n<4->∀a,a<2^n->∀b,b<2^n->rh n a=rh n b->a=b:=by left
theorem lB (p:α->Bool):∀l:List α,rC (l.map fun c=>SG.bool (p c))=lD (l.map p)
 |[]=>rfl
 |c::r=>by show(rC (r.map fun c=>SG.bool (p c))).map (p c::·)=_;rw[lB p r];rfl
theorem lM (p:α->Bool) (l:List α):sr [.list (l.map fun c=>SG.bool (p c))]=-(.bool (l.all p)):=by show(rC _).map (fun bs=>RV.fz (.bool (bs.all id)))=_;rw[lB];show lD (RV.fz (.bool _))=_;rw[aek];rfl
abbrev E7 (c:Int) (n:Nat) (l0:List Mn) (cs:List (List Nat×Nat)) (a b d:Option PV):bq:=[zf (.int c),zf (nd n),zf (kW l0),zo (cs.map gy),a,b,d]
theorem Eu (c:Int) (n:Nat) (hn:n<4) (l0:List Mn) (hl:l0.length=n):∃cs,CsV l0 cs/\cs.length<=4/\gI [.int c,nd n,kW l0]= .ok (.fz (.tuple (cs.map gy))):=by
 have p8:2^n<=8:=TJ (Nat.pow_le_pow_right (by decide) (show n<=3 by omega)) (by decide);have rgm:ip [nd (2^n)]=lD (bV (SJ (2^n))):=ma (by omega);have rgn:ip [nd n]=lD (bV (SJ n)):=ma (by omega);have X:=Mc n (by omega);have E:∃rv,gR 7 gC [.int c,nd n,kW l0]= .ok rv/\∃cs,CsV l0 cs/\cs.length<=4/\rv= .fz (.tuple (cs.map gy)):=by
  refine sK rfl ?_;unfold gC;refine fW (ρ3:=E7 c n l0 [] Sw Sw Sw) (by fail "ev") rfl rfl ?_;refine uv (fun i ρ=>∃(cs:List (List Nat×Nat)) (A p o:Option PV),CsV l0 cs/\cs.length<=4/\(∀s∈cs.map (·.1),∃m,m<i/\m<2^n/\s=rh n m)/\ρ=E7 c n l0 cs A p o) (by fail "ev") ⟨[],Sw,Sw,Sw,CsV.nil _,T5 _,(fun s F=>by cases F),rfl⟩ ?_ ?_
  .rintro i d ρ hi ⟨cs,A,p,o,g,y,v,rfl⟩
   obtain⟨k,hk,rfl⟩:=xY hi;obtain⟨rfl,e⟩:=zY hk;refine⟨E7 c n l0 cs (zf (nd k)) p o,rfl,?_⟩;have f:kR (dU (gN 0) (aJ (aN dC (aN Cw (aN K9 (aa 1) (aa 0)) (~~~1)) (~~~1))) (aa 0) (bV (SJ n)) [Sw,-(nd k)] [])= .ok ((rh n k).map nd):=xA nd nd (Pw k) (SJ n) (by rw[S0];omega) rfl (fun j r=>by have Z:=Qb (k:Int) j;have Y:Cw (.int ((k:Int)/2^j)) (.int 1)=-(.int (Ua.bitAnd ((k:Int)/2^j) 1)):=rfl;exact a9 (aK (aK (aK (ag rfl) (ag rfl) rfl rfl Z) aL rfl rfl Y) aL rfl rfl (jj _ _)) rfl) fun j _ _=>ag rfl;have N:(rh n k).Pairwise (·<·):=aeW _ aaD;have P:∀j∈rh n k,j<n:=fun j r=>TL.mp (Vj.mp r).1;have U:(rh n k).length<=n:=by have:=XJ (Pw k) (SJ n);rw[S0] at this;exact this
   have O:rh n k∉cs.map (·.1):=fun z=>by obtain⟨m,m1,C,B⟩:=v _ z;have:=L8 n hn k e m C B;omega
   have b:∀s∈cs.map (·.1),∃m,m<k+1/\m<2^n/\s=rh n m:=fun s F=>by obtain⟨m,m1,C,B⟩:=v s F;exact⟨m,by omega,C,B⟩
   have Q:∃m,m<k+1/\m<2^n/\rh n k=rh n m:=⟨k,by omega,e,rfl⟩;generalize rh n k=s at f N P U O Q;refine fW (cD (am (ei (by fail "ev") rfl f) aG) rfl rfl) rfl rfl ?_;have G:b4 [.tuple (bV s)]=-(nd s.length):=(lV _).trans (by rw[ir]);have L:kR (dU (gN 0) cV (aN dC (aN bw (aN bw (aa 1) (aa 0)) (~~~0)) (pC (.str "letter"))) (bV s) [Sw,-(kW l0)] [])= .ok (s.map fun j=> .bool (E3 l0 j)):=gH nd (fun j=> .bool (E3 l0 j)) s (by omega) rfl (fun j r=>by obtain⟨d,e1,w,e2,e3⟩:=NZ (l0:=l0) (k:=j) (by have:=P j r;omega);exact aK (aK (aK (ag rfl) (ag rfl) rfl rfl e1) aL rfl rfl e2) aL rfl rfl e3);refine fW (oo (a9 (aK (cD (am (ag rfl) aG) rfl G) aL rfl rfl (CF _ _)) rfl) fun _=>cD (am (ei (by fail "ev") rfl L) aG) rfl (lM _ _)) rfl rfl ?_;obtain⟨t,K,ht⟩:=ii c (20+k) 3 (by omega) (by decide);have K:=K;obtain⟨u,J,hu⟩:=ii c (40+k) 4 (by omega) (by decide);have J:=J;obtain⟨l,M,el⟩:=Jp (z:= "abcz") [0,1,2,25] (by left) (by left) (by decide) (show(0:Int)<=(u:Int) by omega) (show(u:Int)<4 by omega);have H:b4 [.list (cs.map gy)]=-(nd cs.length):=(i4 _).trans (by rw[Sy]);generalize hg:(decide ((1:Int)<(s.length:Int))&&s.all (E3 l0))=gd;refine HD
    (xz (a9 (ag rfl) rfl) fun _=>xz (a9 (aK (cD (am (lz rfl) aG) rfl H) aL rfl rfl (pV _ _)) rfl) fun _=>a9 (aK (dr (am (ag rfl) (am (aK aL (ag rfl) rfl rfl (gz _ _)) (am aL aG))) rfl rfl K) aL rfl rfl (jj _ _)) rfl) (fun q=> ?_) fun _=>wc ⟨cs,_,_,_,g,y,b,rfl⟩
   rw[Ts,Ts] at q;obtain⟨I,R,_⟩:=q;have R:=of_decide_eq_true R;rw[<-hg,Ts,UU] at I;have g3:=of_decide_eq_true I.1;exact wV (A3 rfl (iJ (am (ag rfl) (am (aK aL (dr (am (ag rfl) (am (aK aL (ag rfl) rfl rfl (gz _ _)) (am aL aG))) rfl rfl J) rfl rfl el) aG)) rfl (SR rfl)) rfl rfl (by rw[Sy];omega) (by show _=[zf (.int c),zf (nd n),zf (kW l0),zo ((cs++[(s,l)]).map gy),_,_,_];rw[Tc];rfl)) ⟨cs++[(s,l)],_,_,_,g.add (by omega) N I.2 M O,by rw[SH];show cs.length+1<=4;omega,fun x a=>by
    rw[Tc,TZ] at a;rcases a with a|a
    .exact b x a
    .rw[Td.mp a];exact Q,rfl⟩
  .rintro ρ ⟨cs,A,p,o,g,y,v,rfl⟩;exact gA (cD (am (lz rfl) aG) rfl rfl) rfl ⟨cs,g,y,rfl⟩
 obtain⟨rv,h,cs,T,S,rfl⟩:=E;exact⟨cs,T,S,h⟩
theorem Qx (h:1<=n) (g:n<=5) (j:rs.length<=3) (b:rs[0]? =lD l0) (i:VL n rs.length rs) (a:CsV l0 cs) (l:cs.length<=4) (f:1<=w) (e:w<=4):VB ⟨n,rs,cs,w⟩:=by
 cases rs with
 |nil=>cases b
 |cons x r=>cases S7 b;exact⟨h,g,by show 1<=r.length+1;omega,j,i,l,a.vc,a.un,f,e⟩
abbrev E9 (ns:List Int) (a n:Nat) (c:Int) (g:Nat) (h f e b:Option PV):bq:=[zf (.list (ns.map .int)),zf (nd a),zf (nd n),zf (.int c),zf (nd g),h,f,e,b]
theorem Sj {n:Nat} (hn:n=1\/n=2\/n=3):∃w:Nat,0<w/\w<=4/\bw (.list [.int 4,.int 4,.int 2]) (.int ((n:Int) - 1))=-(nd w):=by
 rcases hn with rfl|rfl|rfl
 .exact⟨4,by decide,by decide,J3 (by decide) rfl⟩
 .exact⟨4,by decide,by decide,J3 (by decide) rfl⟩
 .exact⟨2,by decide,by decide,J3 (by decide) rfl⟩
theorem Sk {r:Nat} (a:r<5):∃w:Nat,1<=w/\w<=3/\bw (.list [.int 1,.int 2,.int 2,.int 2,.int 3]) (nd r)=-(nd w):=by
 have:r=0\/r=1\/r=2\/r=3\/r=4:=by omega
 rcases this with rfl|rfl|rfl|rfl|rfl
 .exact⟨1,by decide,by decide,yc rfl⟩
 .exact⟨2,by decide,by decide,yc rfl⟩
 .exact⟨2,by decide,by decide,yc rfl⟩
 .exact⟨2,by decide,by decide,yc rfl⟩
 .exact⟨3,by decide,by decide,yc rfl⟩
theorem K3 (ns:List Int):∃n:Nat,(n=1\/n=2\/n=3)/\jo [.list (ns.map .int)]= .ok (.fz (nd n)):=by
 obtain⟨c,a⟩:=rO ns 0;have a:ci [.list (ns.map .int),.int 0]= .ok (.fz (.int c)):=a;obtain⟨r,er,e⟩:=ii c 1 4 (by decide) (by decide);have er:aY [.int c,.int 1,.int 4]= .ok (.fz (nd r)):=er;obtain⟨n,hn,b⟩:∃n:Nat,(n=1\/n=2\/n=3)/\bw (.list [.int 1,.int 2,.int 2,.int 3]) (nd r)=-(nd n):=by
  have:r=0\/r=1\/r=2\/r=3:=by omega
  rcases this with rfl|rfl|rfl|rfl
  .exact⟨1,by decide,yc rfl⟩
  .exact⟨2,by decide,yc rfl⟩
  .exact⟨2,by decide,yc rfl⟩
  .exact⟨3,by decide,yc rfl⟩
 exact⟨n,hn,ja (ρ:=[zf (.list (ns.map .int))]) rfl (gA (pv:= .fz (nd n)) (rv:= .fz (nd n)) (ρ1:=[zf (.list (ns.map .int))]) (aK (rv:= .fz (nd n)) (by fail "ev") (dr (rv:= .fz (nd r)) (ds:=[.int c,.int 1,.int 4]) (am (dr (rv:= .fz (.int c)) (ds:=[.list (ns.map .int),.int 0]) (am (ag rfl) (am aL aG)) rfl rfl a) (am aL (am aL aG))) rfl rfl er) rfl rfl b) rfl rfl)⟩
theorem ND (ns:List Int) (a n:Nat) (hn:n=1\/n=2\/n=3):∃b:Bd,VB b/\b.n=n/\j9 [.list (ns.map .int),nd a,nd n]= .ok (.fz (bD b)):=by
 obtain⟨l,e0⟩:=rO ns a;obtain⟨S,R,h5⟩:=ii l 5 5 (by decide) (by decide);have R:aY [.int l,.int 5,.int 5]= .ok (.fz (nd S)):=R;obtain⟨g,l1,l3,el⟩:=Sk h5;obtain⟨w,X,w4,ew⟩:=Sj hn;obtain⟨A,P,h6⟩:=ii l 6 w (by decide) X;have P:aY [.int l,.int 6,nd w]= .ok (.fz (nd A)):=P;obtain⟨I,z⟩:=rO ns (a+10);have z:ci [.list (ns.map .int),.int ((a:Int)+10)]= .ok (.fz (.int I)):=z;have n1:(1:Int)<=(n:Int):=by rcases hn with rfl|rfl|rfl<;>decide
 have n3:(n:Int)<=3:=by rcases hn with rfl|rfl|rfl<;>decide
 have Z:ip [nd n]=lD (bV (SJ n)):=ma (by omega);have rgl:ip [nd g]=lD (bV (SJ g)):=ma (by omega);have M:∃rv,gR 9 kg [.list (ns.map .int),nd a,nd n]= .ok rv/\∃b:Bd,(VB b/\b.n=n)/\rv= .fz (bD b):=by
  refine sK (T:=fun rv=>∃b:Bd,(VB b/\b.n=n)/\rv= .fz (bD b)) (ρ:=[zf (.list (ns.map .int)),zf (nd a),zf (nd n),Sw,Sw,Sw,Sw,Sw,Sw]) rfl ?_;unfold kg;refine fW (ρ3:=[zf (.list (ns.map .int)),zf (nd a),zf (nd n),zf (.int l),Sw,Sw,Sw,Sw,Sw]) (by fail "ev") rfl rfl ?_;refine fW (ρ3:=E9 ns a n l g Sw Sw Sw Sw) (aK (rv:= .fz (nd g)) (by fail "ev") (dr (rv:= .fz (nd S)) (ds:=[.int l,.int 5,.int 5]) (am (ag rfl) (am aL (am aL aG))) rfl rfl R) rfl rfl el) rfl rfl ?_;refine fW (ρ3:=E9 ns a n l g (zo []) Sw Sw Sw) (by fail "ev") rfl rfl ?_;refine uv (fun i ρ=>∃(e:List (List Mn)) (E C:Option PV),e.length=i/\VL n g e/\ρ=E9 ns a n l g (zo (e.map kW)) E C Sw) (ds:=bV (SJ g)) (ρ1:=E9 ns a n l g (zo []) Sw Sw Sw) (by fail "ev") ⟨[],Sw,Sw,rfl,(fun j r h=>by cases h),rfl⟩ ?_ ?_
  .rintro i d ρ hi ⟨e,E,C,F,H,rfl⟩
   obtain⟨L,hL,rfl⟩:=xY hi;obtain⟨rfl,hin⟩:=zY hL;refine⟨E9 ns a n l g (zo (e.map kW)) (zf (nd L)) C Sw,rfl,?_⟩;have mu:i7 (nd n) (nd L)=-(.int ((n:Int)*L)):=oO ⟨by omega,by omega⟩;obtain⟨xs,c1,c2,c3⟩:=yD (gt:=gN 0) (ft:=cV) (fe:=fA ci 2 {aa 1,aN d5 (aN d5 (aN d5 (aa 2) (~~~1)) (aN i7 (aa 3) (aa 4))) (aa 0)}) (ds:=bV (SJ n)) (ρ:=[Sw,zf (.list (ns.map .int)),zf (nd a),zf (nd n),zf (nd L)]) (fun ρ=>∃o,ρ=[o,zf (.list (ns.map .int)),zf (nd a),zf (nd n),zf (nd L)]) (fun _ x=>∃y:Int,x= .int y/\True) ⟨Sw,rfl⟩ (by rw[ir,S0];omega) (by rintro j d v ρ ⟨o,rfl⟩;obtain⟨k,hk,rfl⟩:=xY v;obtain⟨c,G⟩:=rO ns (a+1+n*L+k);have G:ci [.list (ns.map .int),.int ((a:Int)+1+(n:Int)*L+k)]= .ok (.fz (.int c)):=G;refine⟨.int c,_,JS (ρ1:=[zf (nd k),zf (.list (ns.map .int)),zf (nd a),zf (nd n),zf (nd L)]) rfl rfl (dr (rv:= .fz (.int c)) (ds:=[.list (ns.map .int),.int ((a:Int)+1+(n:Int)*L+k)]) (am (ag rfl) (am (aK (rv:= .fz (.int ((a:Int)+1+(n:Int)*L+k))) (aK (rv:= .fz (.int ((a:Int)+1+(n:Int)*L))) (aK (rv:= .fz (.int ((a:Int)+1))) (ag rfl) aL rfl rfl (gz _ _)) (aK (rv:= .fz (.int ((n:Int)*L))) (ag rfl) (ag rfl) rfl rfl mu) rfl rfl (gz _ _)) (ag rfl) rfl rfl (gz _ _)) aG)) rfl rfl G) rfl rfl,⟨_,rfl⟩,c,rfl,trivial⟩);obtain⟨cs,rfl,_⟩:=wu (f:=SG.int) (Q:=fun _ (_:Int)=>True) xs 0 c3;rw[ir,S0,Sy] at c2;refine fW (pv:= .ow (cs.map .int)) (ρ3:=E9 ns a n l g (zo (e.map kW)) (zf (nd L)) (zo (cs.map .int)) Sw) (ei (cs:=[.list (ns.map .int),nd a,nd n,nd L]) (ds:=bV (SJ n)) (by fail "ev") rfl c1) rfl rfl ?_;obtain⟨U,c4,c5,c6⟩:=yD (gt:=gN 0) (ft:=cV) (fe:=fA eO 3 {aa 0,aa 1,aa 2}) (ds:=cs.map .int) (ρ:=[Sw,zf (nd L),zf (nd g)]) (fun ρ=>∃o,ρ=[o,zf (nd L),zf (nd g)]) (fun _ x=>∃y:Mn,x=mD y/\VM L g y) ⟨Sw,rfl⟩ (by rw[Sy];omega) (by
    rintro j d v ρ ⟨o,rfl⟩;obtain⟨c,rfl⟩:∃c:Int,d= .int c:=by
     rw[SX] at v;cases q:cs[j]? with
     |none=>rw[q] at v;cases v
     |some x=>rw[q] at v;exact⟨x,(S7 v).symm⟩
    obtain⟨m,J,em⟩:=JG c L g l1 (by omega);exact⟨mD m,_,JS (ρ1:=[zf (.int c),zf (nd L),zf (nd g)]) rfl rfl (dr (rv:= .fz (mD m)) (ds:=[.int c,nd L,nd g]) (am (ag rfl) (am (ag rfl) (am (ag rfl) aG))) rfl rfl em) rfl rfl,⟨_,rfl⟩,m,rfl,J⟩)
   obtain⟨p,rfl,q6⟩:=wu (f:=mD) (Q:=fun _ y=>VM L g y) U 0 c6;rw[Sy,Sy] at c5;have K:fU [.list (p.map mD)]=-(kW p):=rfl;have N:(e.map kW).length<1000000:=by rw[Sy];omega
   refine wV (pv:= .fz .none) (ρ1:=E9 ns a n l g (zo (e.map kW++[kW p])) (zf (nd L)) (zf (.list (cs.map .int))) Sw) (A3 (pa:= .fz (kW p)) (d:=kW p) rfl (cD (rv:= .fz (kW p)) (ds:=[.list (p.map mD)]) (am (ei (cs:=[nd L,nd g]) (ds:=cs.map .int) (eX (lz rfl) rfl rfl) rfl c4) aG) rfl K) rfl rfl N rfl) ⟨e++[p],_,_,by rw[SH,F];rfl,KY H (by omega) (fun m hm=> ?_),by rw[Tc];rfl⟩;obtain⟨t,ht⟩:=Wf.mp hm;rw[F];exact q6 t m ht
  .rintro ρ ⟨e,E,C,F,H,rfl⟩;rw[ir,S0] at F;obtain⟨u,O⟩:∃u,e[0]? =lD u:=⟨_,SM (show 0<e.length by omega)⟩;have hl0:=(H 0 u O).1;obtain⟨cs,J,Y,G⟩:=Eu I n (by omega) u (by omega);have i0:bw (.list (e.map kW)) (.int 0)=-(kW u):=J3 (by decide) (by show(e.map kW)[0]? =_;rw[SX,O];rfl);refine fW (ρ3:=E9 ns a n l g (zo (e.map kW)) E C (zf (.tuple (cs.map gy)))) (dr (rv:= .fz (.tuple (cs.map gy))) (ds:=[.int I,nd n,kW u]) (am (dr (rv:= .fz (.int I)) (ds:=[.list (ns.map .int),.int ((a:Int)+10)]) (am (ag rfl) (am (aK (rv:= .fz (.int ((a:Int)+10))) (ag rfl) aL rfl rfl (gz _ _)) aG)) rfl rfl z) (am (ag rfl) (am (aK (rv:= .fz (kW u)) (dx:= .list (e.map kW)) (lz rfl) aL rfl rfl i0) aG))) rfl rfl G) rfl rfl ?_;have K:fU [.list (e.map kW)]=-(.tuple (e.map kW)):=rfl;refine gA (pv:= .fz (bD ⟨n,e,cs,1+(A:Int)⟩)) (rv:= .fz (bD ⟨n,e,cs,1+(A:Int)⟩)) (ρ1:=E9 ns a n l g (zo (e.map kW)) E C (zf (.tuple (cs.map gy)))) (iJ (ds:=[nd n,.tuple (e.map kW),.tuple (cs.map gy),.int (1+(A:Int))]) (am (ag rfl) (am (cD (rv:= .fz (.tuple (e.map kW))) (ds:=[.list (e.map kW)]) (am (lz rfl) aG) rfl K) (am (ag rfl) (am (aK (rv:= .fz (.int (1+(A:Int)))) aL (dr (rv:= .fz (nd A)) (ds:=[.int l,.int 6,nd w]) (am (ag rfl) (am aL (am (aK (rv:= .fz (nd w)) (dx:= .list [.int 4,.int 4,.int 2]) (by fail "ev") (aK (rv:= .fz (.int ((n:Int) - 1))) (ag rfl) aL rfl rfl (ul _ _)) rfl rfl ew) aG))) rfl rfl P) rfl rfl (gz _ _)) aG)))) rfl (SR rfl)) rfl ⟨_,⟨Qx n1 (Int.le_trans n3 (by decide)) (by omega) O (by rw[F];exact H) J Y (by omega) (by omega),rfl⟩,rfl⟩
 obtain⟨rv,h,b,⟨B,hb⟩,rfl⟩:=M;exact⟨b,B,hb,h⟩
section
variable {ρ ρ1:bA} {Z Z1 Y U:bh} {x y z:SV} {i:Nat} {d:D} {X:List (D×D)}
theorem vF (h:Z[i]? =lD (.dd X)):pE Z (.rf i)=lD (i,X):=by unfold pE;dsimp only;rw[h]
theorem Ln (a:fk ρ Z= .ok x Z1) (hd:fd ρ Z1= .ok (.rf i) Y) (e:lc x=lD k) (b:Y[i]? =lD (.dd X)):CV neg fk fd ρ Z= .ok (.fz (.bool ((g9 X k).isSome !=neg))) Y:=by unfold CV;rw[a,RS.bind_ok,hd,RS.bind_ok,e];show((RS.TX Y (pE Y (.rf i))).bind _)=_;rw[vF b];rfl
theorem GX (hd:fd ρ Z= .ok (.rf i) Z1) (a:fk ρ Z1= .ok x Y) (f:lc x=lD k) (e:Y[i]? =lD (.dd X)) (b:g9 X k=lD d):tL fd fk ρ Z= .ok (.fz d) Y:=by unfold tL;rw[hd,RS.bind_ok,a,RS.bind_ok,f];show((RS.TX Y (pE Y (.rf i))).bind _)=_;rw[vF e];show((RS.TX Y (g9 X k)).bind _)=_;rw[b];rfl
theorem Ik (a:fv ρ Z= .ok (.fz d) Z1) (hd:fd ρ Z1= .ok (.rf i) Y) (e:fk ρ Y= .ok x U) (g:lc x=lD k) (f:U[i]? =lD (.dd X)) (b:X.length<1000000):xa fd fk fv ρ Z= .ok (.nx ρ) (U.set i (.dd (ou X k d))):=by unfold xa;rw[a,RS.bind_ok,hd,RS.bind_ok,e,RS.bind_ok,g];show((RS.TX U (pE U (.rf i))).bind _)=_;rw[vF f];show(if X.length<1000000 then _ else _)=_;rw[if_pos b]
theorem rH (ha:fa ρ Z= .ok xs Z1) (hn:xs.length=n) (a:F xs Z1= .ok x Y):nk F n fa ρ Z= .ok x Y:=by unfold nk;rw[ha,RS.bind_ok,if_pos hn,a,yU]
end
theorem mL {l r:bh}:(l++r)[l.length+t]? =r[t]? :=by rw[TC (by omega),Xm]
theorem rY {l r:bh}:(l++r).set (l.length+t) c=l++r.set t c:=by rw[List.set_append_right _ _ (by omega),Xm]
structure Pl where
 p:D
 b:D
 e:D
def Da (q:Pl):D:= .tuple [q.p,q.b,q.e]
def eB:List Pl->D->Option Nat
 |[],_=>Sw
 |q::r,p=>if SG.eqv q.p p=Sz then lD 0 else(eB r p).map (·+1)
def eA:Nat->List Pl->List (D×D)
 |_,[]=>[]
 |k,q::r=>(q.p,nd k)::eA (k+1) r
theorem kX:∀(k:Nat) (fs:List Pl) (p:D),g9 (eA k fs) p=(eB fs p).map fun i=>nd (k+i)
 |_,[],_=>rfl
 |k,q::r,p=>by
  have a:=kX (k+1) r p;unfold g9 at a⊢;unfold eA eB;rw[TQ];cases SG.eqv q.p p with
  |true=>rfl
  |false=>dsimp only;rw[a,if_neg S9,Option.map_map];congr 1;funext i;show nd (k+1+i)=nd (k+(i+1));rw[UI,YU 1 i]
theorem yK:∀(k:Nat) (fs:List Pl) (q:Pl),eA k (fs++[q])=eA k fs++[(q.p,nd (k+fs.length))]
 |k,[],q=>rfl
 |k,a::r,q=>by show(a.p,nd k)::eA (k+1) (r++[q])=(a.p,nd k)::(eA (k+1) r++[(q.p,nd (k+(r.length+1)))]);rw[yK (k+1) r q,UI,YU 1 r.length]
theorem rG:∀(k:Nat) (fs:List Pl),(eA k fs).length=fs.length
 |_,[]=>rfl
 |k,q::r=>congrArg (·+1) (rG (k+1) r)
theorem CJ (h:eB fs p=Sw):ou (eA 0 fs) p (nd fs.length)=eA 0 (fs++[⟨p,b,e⟩]):=by
 have g:=kX 0 fs p;rw[h] at g;unfold g9 at g;have f:((eA 0 fs).find? fun a=>SG.eqv a.1 p)=Sw:=by
  cases q:(eA 0 fs).find? fun a=>SG.eqv a.1 p with
  |none=>rfl
  |some x=>rw[q] at g;cases g
 unfold ou;rw[f,yK,Ud];rfl
theorem ur (h:eB fs q.p=Sw) (f:SG.eqv q.p q.p=Sz):eB (fs++[q]) q.p=lD fs.length:=by
 induction fs with
 |nil=>show(if SG.eqv q.p q.p=Sz then lD 0 else _)=_;rw[if_pos f];rfl
 |cons a r b=>
  unfold eB at h;show(if SG.eqv a.p q.p=Sz then lD 0 else(eB (r++[q]) q.p).map (·+1))=_;by_cases e:SG.eqv a.p q.p=Sz
  .rw[if_pos e] at h;cases h
  .rw[if_neg e] at h⊢;rw[b (by cases k:eB r q.p with|none=>rfl|some _=>rw[k] at h;cases h)];rfl
theorem xg (h:LD.keyD p=Sz):SG.eqv p p=Sz:=by
 refine W8 p (LD.kd_lay p ?_);cases p with
 |tuple xs=>unfold LD.keyD at h;rw[Ts] at h;unfold LD.kd;exact h.1
 |_=>simp[LD.keyD] at h
def pF (m:Int) (j k:Nat):List (Str×SV):=[("most",.fz (.int m)),("found",.rf j),("numbers",.rf k)]
structure PSt (i j k:Nat) (m:Int) (fs:List Pl) (Z:bh):Prop where
 o:Z[i]? =lD (.obj "Places" (pF m j k))
 f:Z[j]? =lD (.lst ((fs.map Da).map .fz))
 n:Z[k]? =lD (.dd (eA 0 fs))
 jk:j≠k
 ij:i≠j
 ik:i≠k
 lt:fs.length<100000
def uG (j k:Nat) (fs:List Pl) (Z:bh):bh:=(Z.set k (.dd (eA 0 fs))).set j (.lst ((fs.map Da).map .fz))
section
variable {i j k:Nat} {m:Int} {fs:List Pl} {Z:bh} {p b e:D}
theorem PSt.ent (h:PSt i j k m fs Z) (l:fs.length+1<100000):PSt i j k m (fs++[q]) (uG j k (fs++[q]) Z):=by
 have g:=(SD.mp h.f).1;have a:=(SD.mp h.n).1;refine⟨?_,?_,?_,h.jk,h.ij,h.ik,by rw[SH];exact l⟩
 .unfold uG;rw[TY (Ne.symm h.ij),TY (Ne.symm h.ik)];exact h.o
 .unfold uG;rw[T6 (by rw[Ug];exact g)]
 .unfold uG;rw[TY h.jk,T6 a]
theorem Jm:(pF m j k).lookup ("most":Str)=-(.int m):=by rfl
theorem vB:(pF m j k).lookup ("found":Str)=lD (.rf j):=by rfl
theorem yH:(pF m j k).lookup ("numbers":Str)=lD (.rf k):=by rfl
theorem vD:(pF m j k).lookup ("enter":Str)=Sw:=by rfl
theorem Ip (a:LD.keyD p=Sz):lc (.fz p)=lD p:=if_pos a
theorem uU (h:PSt i j k m fs Z) (hm:L9.Qv (.int m)=Sz) (O:m<=1000) (E:LD.keyD p=Sz):bT [.rf i,.fz p,.fz b,.fz e] Z=(match eB fs p with
  |some t=> .ok (.fz (nd t)) Z
  |none=>if m<=(fs.length:Int) then .er ⟨"TooMany",[("most",.int m)]⟩ Z else .ok (.fz (nd fs.length)) (uG j k (fs++[⟨p,b,e⟩]) Z)):=by
 have w:=Ip E;have A:∀{a:bh},a[i]? =lD (.obj "Places" (pF m j k))->aV "Places" "numbers" (ao 0) [lD (.rf i),-(p),-(b),-(e)] a= .ok (.rf k) a:=fun z=>d6 (bj rfl) z yH;have F:∀{a:bh},a[i]? =lD (.obj "Places" (pF m j k))->aV "Places" "found" (ao 0) [lD (.rf i),-(p),-(b),-(e)] a= .ok (.rf j) a:=fun z=>d6 (bj rfl) z vB;have B:∀{a:bh},a[i]? =lD (.obj "Places" (pF m j k))->aV "Places" "most" (ao 0) [lD (.rf i),-(p),-(b),-(e)] a= .ok (.fz (.int m)) a:=fun z=>d6 (bj rfl) z Jm;have u:∀{a:bh},af (aa 1) [lD (.rf i),-(p),-(b),-(e)] a= .ok (.fz p) a:=ah (ag rfl);have g:=Ln (neg:=Sz) u (A h.o) w h.n;rw[kX] at g;have get:∀{l:List Pl} {a:bh} {t:Nat},a[i]? =lD (.obj "Places" (pF m j k))->a[k]? =lD (.dd (eA 0 l))->eB l p=lD t->gL (tL (aV "Places" "numbers" (ao 0)) (af (aa 1))) [lD (.rf i),-(p),-(b),-(e)] a= .ok (.rt (.fz (nd t))) a:=fun K J I=>by refine gX (GX (A K) u w J ?_);rw[kX,I];show lD (nd (0+_))=_;rw[Ud]
 have v:=nc (aq (F h.o) aM) (by unfold aI;rw[ez h.f];rfl) ((i4 _).trans (by rw[Sy]));cases q:eB fs p with
 |some t=>rw[q] at g;refine iW rfl ?_;exact cS (jR (bu g) jq) (get h.o h.n q)
 |none=>
  rw[q] at g;dsimp only;by_cases r:m<=(fs.length:Int)
  .rw[if_pos r]
   have y:=bu (dL v (B h.o) (cJ ((zJ _ _).trans (by rw[decide_eq_true r]))));show dg 4 dJ _ _=_;unfold dg;show((dJ [lD (.rf i),-(p),-(b),-(e)] Z).bind _)=_;have N:dJ [lD (.rf i),-(p),-(b),-(e)] Z= .er ⟨"TooMany",[("most",.int m)]⟩ Z:=by unfold dJ;unfold aO;rw[gK (bu g) rfl,gK y rfl,DJ (B h.o) hm];rfl
   rw[N];rfl
  .rw[if_neg r]
   have y:=bu (dL v (B h.o) (cJ ((zJ _ _).trans (by rw[decide_eq_false r]))));have C:=Ik v (A h.o) u w h.n (by rw[rG];have:=h.lt;omega);rw[CJ q] at C;have L:(Z.set k (.dd (eA 0 (fs++[⟨p,b,e⟩]))))[i]? =lD (.obj "Places" (pF m j k)):=(TY (Ne.symm h.ik)).trans h.o;have G:(Z.set k (.dd (eA 0 (fs++[⟨p,b,e⟩]))))[j]? =lD (.lst ((fs.map Da).map .fz)):=(TY (Ne.symm h.jk)).trans h.f;have H:=wA (fe:=af (cP {aa 1,aa 2,aa 3})) (x:= .fz (Da ⟨p,b,e⟩)) (F L) G (ah (iJ (am (ag rfl) (am (ag rfl) (am (ag rfl) aG))) rfl (SR rfl))) G (by rw[Sy,Sy];have:=h.lt;omega);have M:(Z.set k (.dd (eA 0 (fs++[⟨p,b,e⟩])))).set j (.lst ((fs.map Da).map SV.fz++[.fz (Da ⟨p,b,e⟩)]))=uG j k (fs++[⟨p,b,e⟩]) Z:=by unfold uG;rw[Tc,Tc];rfl
   rw[M] at H;have P:=h.ent (q:=⟨p,b,e⟩) (by omega);refine iW rfl ?_;exact cS (gK (bu g) (cS (jR y jq) (cS C (jm H)))) (get P.o P.n (ur q (xg E)))
end
def mQ (Z:bh) (m:Int) (fs:List Pl) (J:bh):bh:=Z++(Cell.obj "Places" (pF m (Z.length+1) (Z.length+2)):: .lst ((fs.map Da).map .fz):: .dd (eA 0 fs)::J)
theorem AY (h:fs.length<100000):PSt Z.length (Z.length+1) (Z.length+2) m fs (mQ Z m fs J):=
 ⟨by have:=mL (l:=Z) (r:=Cell.obj "Places" (pF m (Z.length+1) (Z.length+2)):: .lst ((fs.map Da).map .fz):: .dd (eA 0 fs)::J) (t:=0);exact this,mL,mL,by omega,by omega,by omega,h⟩
theorem Cq:uG (Z.length+1) (Z.length+2) fs' (mQ Z m fs J)=mQ Z m fs' J:=by unfold uG mQ;rw[rY,rY];rfl
def TM (m:Int):Xc:=⟨"TooMany",[("most",.int m)]⟩
theorem yS (a:0<=m) (h:m<=1000):L9.Qv (.int m)=Sz:=by refine decide_eq_true (YC (Nat.log2_le_self m.natAbs) ?_);omega
theorem HC (l:LD.keyD p=Sz) (j:0<=m) (f:m<=1000):dm [.rf Z.length,.fz p,.fz (.int m)] (Z++[.obj "Places" []])=if m<=0 then .er (TM m) (mQ Z m [] []) else .ok (.fz .none) (mQ Z m [⟨p,.none,.none⟩] []):=by
 have i:eS "Places" "most" (ao 0) (af (aa 2)) [lD (.rf Z.length),-(p),-(.int m)] (Z++[.obj "Places" []])= .ok (.nx [lD (.rf Z.length),-(p),-(.int m)]) (Z++[.obj "Places" [("most",.fz (.int m))]]):=
  (jX (ah (ag rfl)) (bj rfl) aW (by decide)).trans (by rw[gj];rfl)
 have h:eS "Places" "found" (ao 0) (af (di ay)) [lD (.rf Z.length),-(p),-(.int m)] (Z++[.obj "Places" [("most",.fz (.int m))]])= .ok (.nx [lD (.rf Z.length),-(p),-(.int m)]) (Z++[.obj "Places" [("most",.fz (.int m)),("found",.rf (Z.length+1))],.lst []]):=by refine(jX (eN (by fail "ev")) (bj rfl) (by rw[Tg];exact mL (t:=0)) (SR rfl)).trans ?_;rw[Tg,show Z.length=Z.length+0 from rfl,rY,SH];rfl
 have g:eS "Places" "numbers" (ao 0) wf [lD (.rf Z.length),-(p),-(.int m)] (Z++[.obj "Places" [("most",.fz (.int m)),("found",.rf (Z.length+1))],.lst []])= .ok (.nx [lD (.rf Z.length),-(p),-(.int m)]) (mQ Z m [] []):=by refine(jX rfl (bj rfl) (by rw[Tg];exact mL (t:=0)) (SR rfl)).trans ?_;rw[Tg,show Z.length=Z.length+0 from rfl,rY,SH];rfl
 have P:PSt Z.length (Z.length+1) (Z.length+2) m [] (mQ Z m [] []):=AY (by decide);have n:=uU (b:= .none) (e:= .none) P (yS j f) f l;have a:=Ch (F:=bT) (fo:=ao 0) (fa:=aj (af (aa 1)) (aj (af (pC .none)) (aj (af (pC .none)) aC))) (ρ:=[lD (.rf Z.length),-(p),-(.int m)]) (bj rfl) P.o vD (aq (ah (ag rfl)) (aq (ah aL) (aq (ah aL) aM))) rfl;rw[n] at a;have a:qH "Places" "enter" bT 4 (ao 0) (aj (af (aa 1)) (aj (af (pC .none)) (aj (af (pC .none)) aC))) [lD (.rf Z.length),-(p),-(.int m)] (mQ Z m [] [])=if m<=0 then .er (TM m) (mQ Z m [] []) else .ok (.fz (nd 0)) (uG (Z.length+1) (Z.length+2) [⟨p,.none,.none⟩] (mQ Z m [] [])):=a
 rw[Cq] at a;show dg 3 c9 _ _=_;unfold dg;show((c9 [lD (.rf Z.length),-(p),-(.int m)] (Z++[.obj "Places" []])).bind _)=_;unfold c9;rw[cS i rfl,cS h rfl,cS g rfl];unfold bU;rw[a];split<;>rfl
theorem oH:∀{l:List α},(∀a∈l,LD.kd (f a)=Sz)->LD.kds (l.map f)=Sz
 |[],_=>by rw[V0,LD.kds]
 |a::r,h=>by rw[S6,LD.kds,h a S5,oH fun x b=>h x (S2 _ b)];rfl
theorem Dw:∀ks:List Nat,LD.kds (bV ks)=Sz:=fun ks=>oH fun a _=>by show LD.kd (.int a)=Sz;rw[LD.kd]
theorem M0 (h:LB m):LD.kd (mD m)=Sz:=by
 cases m with
 |TK c=>show LD.kd (.tuple [.str "letter",.str (jU c)])=Sz;simp only[LD.kd,LD.kds];rw[nX h,show SG.strOk "letter"=Sz by left];rfl
 |Vr n=>show LD.kd (.tuple [.str "layer",.int n])=Sz;simp only[LD.kd,LD.kds];rw[show SG.strOk "layer"=Sz by left];rfl
 |YB c n=>show LD.kd (.tuple [.str "tap",.str (jU c),.int n])=Sz;simp only[LD.kd,LD.kds];rw[nX h,show SG.strOk "tap"=Sz by left];rfl
 |once n=>show LD.kd (.tuple [.str "once",.int n])=Sz;simp only[LD.kd,LD.kds];rw[show SG.strOk "once"=Sz by left];rfl
 |none=>show LD.kd (.tuple [.str "none"])=Sz;simp only[LD.kd,LD.kds];rw[show SG.strOk "none"=Sz by left];rfl
 |below=>show LD.kd (.tuple [.str "below"])=Sz;simp only[LD.kd,LD.kds];rw[show SG.strOk "below"=Sz by left];rfl
theorem Qs (h:SW b s):LD.kd (eE s)=Sz/\SG.depth (eE s)<=4:=by
 have j:LD.kds ((iy s.ac).map pD)=Sz:=oH fun q l=>by show LD.kd (.tuple [nd q.1,mD q.2])=Sz;simp only[LD.kd,LD.kds];rw[M0 (h.sa.ac _ _ (mn.mp l).2).2.lb];rfl
 have o:∀m:Mn,SG.depth (mD m)<=1:=fun m=>by cases m<;>exact SR rfl
 have p:SG.depthAll ((iy s.ac).map pD)<=2:=jn fun q _=>by show max 0 (max (SG.depth (mD q.2)) 0)+1<=2;have:=o q.2;omega
 have f:LD.kd (kh s.wt)=Sz/\SG.depth (kh s.wt)<=2:=by
  cases q:s.wt with
  |none=>exact⟨by show LD.kd .none=Sz;rw[LD.kd],T5 _⟩
  |some x=>
   obtain⟨a,g,w⟩:=x;have v:=(h.wt a g w q).1;constructor
   .show LD.kd (.tuple [.tuple (bV a),.int g,uI w])=Sz
    simp only[LD.kd,LD.kds];rw[Dw];cases w with
    |none=>show(Sz&&(Sz&&(LD.kd (.tuple [.str "chord"])&&Sz)))=Sz;simp only[LD.kd,LD.kds];rw[show SG.strOk "chord"=Sz by left];rfl
    |some i=>obtain⟨c,n⟩:=i;have lb:LB (.YB c n):=(v.tp c n rfl).1;show(Sz&&(Sz&&(LD.kd (mD (.YB c n))&&Sz)))=Sz;rw[M0 lb];rfl
   .show max (SG.depthAll (bV a)+1) (max 0 (max (SG.depth (uI w)) 0))+1<=2
    rw[jZ];cases w with
    |none=>exact SR rfl
    |some i=>exact SR rfl
 have e:LD.kd (uy s.oc)=Sz/\SG.depth (uy s.oc)=0:=by cases s.oc<;>exact⟨by show LD.kd _=Sz;unfold uy;simp only[LD.kd],rfl⟩
 constructor
 .show LD.kd (.tuple [.tuple ((iy s.ac).map pD),kh s.wt,uy s.oc])=Sz;simp only[LD.kd,LD.kds];rw[j,f.1,e.1];rfl
 .show max (SG.depthAll ((iy s.ac).map pD)+1) (max (SG.depth (kh s.wt)) (max (SG.depth (uy s.oc)) 0))+1<=4;rw[e.2];have:=f.2;omega
theorem AD (h:SW b s):LD.keyD (eE s)=Sz:=by obtain⟨a,e⟩:=Qs h;unfold eE at a e⊢;rw[LD.kd] at a;rw[LD.keyD];rw[a,decide_eq_true (show _<=8 by omega)];rfl
def cL (n:Nat):List Xk:=(SJ n).map .down++(SJ n).map .up++[.turn]
theorem wO {b:Bd} {n:Nat} (hn:b.n=n):∀e∈cL n,EV b e:=by
 intro e a;rcases TZ.mp a with a|a
 .rcases TZ.mp a with a|a
  .obtain⟨k,f,rfl⟩:=Tv.mp a;have:=TL.mp f;show(k:Int)<b.n;omega
  .obtain⟨k,f,rfl⟩:=Tv.mp a;have:=TL.mp f;show(k:Int)<b.n;omega
 .rw[Td.mp a];trivial
theorem Ql (h:xs.length+ys.length<=1000000):d5 (.list xs) (.list ys)=lD (.ow (xs++ys)):=if_pos h
theorem RI (b:Bd):bw (bD b) (.int 0)=-(.int b.n):=jO
theorem HP {b:Bd} {n:Nat} (hn:b.n=n) (l:n<=5):eR [bD b]= .ok (.ow ((cL n).map gv)):=by
 have i:ip [.int b.n]=lD (bV (SJ n)):=by rw[hn];exact ma (by omega)
 have j:=RI b;have a:(SJ n).length<=1000:=by rw[S0];omega
 have f:kR (dU (gN 0) cV (cP {pC (.str "down"),aa 0}) (bV (SJ n)) [Sw] [])= .ok ((SJ n).map fun k=>gv (.down k)):=gH nd (fun k=>gv (.down k)) (SJ n) a rfl fun k _=>iJ (am aL (am (ag rfl) aG)) rfl (SR rfl);have e:kR (dU (gN 0) cV (cP {pC (.str "up"),aa 0}) (bV (SJ n)) [Sw] [])= .ok ((SJ n).map fun k=>gv (.up k)):=gH nd (fun k=>gv (.up k)) (SJ n) a rfl fun k _=>iJ (am aL (am (ag rfl) aG)) rfl (SR rfl);have h:d5 (.list ((SJ n).map fun k=>gv (.down k))) (.list ((SJ n).map fun k=>gv (.up k)))=lD (.ow (((SJ n).map fun k=>gv (.down k))++(SJ n).map fun k=>gv (.up k))):=Ql (by rw[Sy,Sy];omega);have g:d5 (.list (((SJ n).map fun k=>gv (.down k))++(SJ n).map fun k=>gv (.up k))) (.list [gv .turn])=lD (.ow ((cL n).map gv)):=(Ql (by rw[SH,Sy,Sy];show _+1<=_;omega)).trans (by unfold cL;rw[Tc,Tc,Tj,Tj];rfl);refine ja rfl ?_;unfold lx;refine fW (ei (by fail "ev") rfl f) rfl rfl ?_;refine fW (ei (by fail "ev") rfl e) rfl rfl ?_;exact gA (aK (aK (lz rfl) (lz rfl) rfl rfl h) (tU (am (iJ (am aL (am aL aG)) rfl (SR rfl)) aG) rfl (SR rfl)) rfl rfl g) rfl rfl
section
variable {ρ:bA} {Z Z1:bh} {i:Nat} {fe:ef} {T:SV->bh->Prop} {X:Xc->Prop}
theorem yN (h:Z[i]? =lD (.lst xs)):i9 Z (.rf i)=lD (i,xs):=by unfold i9;dsimp only;rw[h]
theorem Kc (a:fo ρ Z= .ok (.rf i) Z) (h:Z[i]? =lD (.lst xs)) (b:Out (fe ρ Z) (fun x Z2=>∃ys,Z2[i]? =lD (.lst ys)/\ys.length<1000000/\T (.fz .none) (Z2.set i (.lst (ys++[x])))) X):Out (kJ fo fe ρ Z) T X:=by
 refine .eq (show kJ fo fe ρ Z=(fe ρ Z).bind fun x Z2=>(RS.TX Z2 (i9 Z2 (.rf i))).bind fun p j=>if p.2.length<1000000 then .ok (.fz .none) (j.set p.1 (.lst (p.2++[x]))) else .bad from ?_) (Out.bind (b.imp fun x Z2 k=> ?_))
 .unfold kJ;rw[a,RS.bind_ok,yN h];rfl
 .obtain⟨ys,g,f,e⟩:=k;refine .eq (r':=RS.ok (SV.fz .none) (Z2.set i (.lst (ys++[x])))) ?_ ⟨e⟩;rw[yN g];show(if ys.length<1000000 then _ else _)=_;rw[if_pos f]
theorem KN (a:Out (fe ρ Z) (fun x Z2=>∃ds,sh Z2 x=lD (.list ds)/\T (.fz (.tuple ds)) Z2) X):Out (jT fU (aj fe aC) ρ Z) T X:=by
 refine .eq (show jT fU (aj fe aC) ρ Z=(fe ρ Z).bind fun x Z2=>uD fU [x] Z2 from ?_) (Out.bind (a.imp fun x Z2 k=> ?_))
 .unfold jT aj;cases fe ρ Z<;>rfl
 .obtain⟨ds,e,b⟩:=k;refine .eq (r':=RS.ok (SV.fz (.tuple ds)) Z2) ?_ ⟨b⟩;unfold uD aI aI;rw[e];rfl
end
structure Rm where
 s:Vt
 b:D
 e:D
def kK (r:Rm):Pl:=⟨eE r.s,r.b,r.e⟩
def nI (fs:List Rm) (s:Vt) (b e:D):List Rm:=if(eB (fs.map kK) (eE s)).isSome=Sz then fs else fs++[⟨s,b,e⟩]
def fR (fs:List Rm) (s:Vt):Nat:=(eB (fs.map kK) (eE s)).getD fs.length
def gq (b:Bd) (s:Vt) (r:Nat) (fs:List Rm) (es:List Xk):List Rm:=es.foldl (fun fs e=>nI fs (aQ b s e).1 (nd r) (gv e)) fs
theorem HZ {es:List Xk} (h:es[i]? =lD e):gq b s r fs (es.take (i+1))=nI (gq b s r fs (es.take i)) (aQ b s e).1 (nd r) (gv e):=by unfold gq;rw[U5,h,WU];rfl
theorem KA (fs:List Rm) (s:Vt) (b e:D):fs<+:nI fs s b e:=by
 unfold nI;split
 .exact Vz _
 .exact abG _ _
theorem rT:∀(es:List Xk) (fs:List Rm),fs<+:gq b s r fs es
 |[],fs=>Vz _
 |e::es,fs=>(KA fs _ _ _).trans (rT es _)
theorem GN (es:List Xk) (fs:List Rm) (i:Nat):gq b s r fs (es.take i)<+:gq b s r fs es:=by
 have e:gq b s r fs es=gq b s r (gq b s r fs (es.take i)) (es.drop i):=by unfold gq;rw[<-WU,List.take_append_drop]
 rw[e];exact rT _ _
theorem xn:∀{fs b:List Pl},eB fs p=lD t->eB (fs++b) p=lD t
 |[],_,h=>by cases h
 |a::r,b,h=>by
  unfold eB at h;show(if SG.eqv a.p p=Sz then lD 0 else(eB (r++b) p).map (·+1))=_;split
  .rename_i e;rw[if_pos e] at h;exact h
  .rename_i e
   rw[if_neg e] at h;cases q:eB r p with
   |none=>rw[q] at h;cases h
   |some j=>rw[q] at h;rw[xn q];exact h
theorem De (h:fs<+:gs) (hi:eB (fs.map kK) (eE s)=lD t):fR gs s=t:=by obtain⟨l,rfl⟩:=h;unfold fR;rw[Tc,xn hi];rfl
theorem Pg (h:SW b s):SG.eqv (eE s) (eE s)=Sz:=xg (AD h)
theorem BZ (h:SW b s) (x y:D):eB ((nI fs s x y).map kK) (eE s)=lD (fR fs s):=by
 unfold nI fR;cases q:eB (fs.map kK) (eE s) with
 |some t=>show eB (fs.map kK) (eE s)=_;rw[q];rfl
 |none=>show eB ((fs++[(⟨s,x,y⟩:Rm)]).map kK) (eE s)=lD fs.length;rw[Tc];have:=ur (q:=⟨eE s,x,y⟩) q (Pg h);rw[Sy] at this;exact this
theorem O9 (h:SW b s) (e:∀r∈fs,SW b r.s):∀r∈nI fs s x y,SW b r.s:=by
 unfold nI;split
 .exact e
 .intro r a
  rcases TZ.mp a with a|a
  .exact e r a
  .rw[Td.mp a];exact h
theorem Bc (a:VB b) (f:SW b s):∀(es:List Xk) (fs:List Rm),(∀e∈es,EV b e)->(∀r∈fs,SW b r.s)->∀q∈gq b s r fs es,SW b q.s
 |[],fs,_,hf=>hf
 |e::es,fs,he,hf=>Bc a f es _ (fun x g=>he x (S2 _ g)) (O9 (wX a f (he e S5)) hf)
def cC (b:Bd) (es:List Xk):Nat->List Rm
 |0=>[⟨OG,.none,.none⟩]
 |i+1=>match(cC b es i)[i]? with
  |some r=>gq b r.s i (cC b es i) es
  |none=>cC b es i
theorem wJ (h:(cC b es i)[i]? =lD r):cC b es (i+1)=gq b r.s i (cC b es i) es:=by show(match(cC b es i)[i]? with|some r=>gq b r.s i (cC b es i) es|none=>cC b es i)=_;rw[h]
theorem Bf (h:(cC b es i).length<=i):cC b es (i+1)=cC b es i:=by show(match(cC b es i)[i]? with|some r=>gq b r.s i (cC b es i) es|none=>cC b es i)=_;rw[List.getElem?_eq_none h]
theorem yx (b:Bd) (es:List Xk) (i:Nat):cC b es i<+:cC b es (i+1):=by
 by_cases h:i<(cC b es i).length
 .rw[wJ (SM h)];exact rT _ _
 .rw[Bf (by omega)];exact Vz _
theorem CM (b:Bd) (es:List Xk) (i k:Nat):cC b es i<+:cC b es (i+k):=by
 induction k with
 |zero=>exact Vz _
 |succ k a=>exact a.trans (yx b es (i+k))
theorem LL (h:(cC b es N).length<=N) (k:Nat):cC b es (N+k)=cC b es N:=by
 induction k with
 |zero=>rfl
 |succ k a=>rw[<-UI,Bf (by rw[a];omega),a]
theorem pS (h:(cC b es N).length<=N) (i:Nat):(cC b es i).length<=(cC b es N).length:=by
 by_cases hi:i<=N
 .obtain⟨k,rfl⟩:=Vs hi;exact(CM b es i k).length_le
 .obtain⟨k,rfl⟩:=Vs (show N<=i by omega);rw[LL h];exact SU _
theorem Dp (h:(cC b es N).length=N) (h':(cC b es M).length=M):N=M:=by have e:=pS (V6 h) M;have a:=pS (V6 h') N;omega
theorem nz (a:VB b) (f:∀e∈es,EV b e):∀i,∀r∈cC b es i,SW b r.s
 |0=>fun r g=>by rw[Td.mp g];exact CC b
 |i+1=>by
  by_cases h:i<(cC b es i).length
  .rw[wJ (SM h)];exact Bc a (nz a f i _ (Vc h)) es _ f (nz a f i)
  .rw[Bf (by omega)];exact nz a f i
theorem wP (b:Bd) (es:List Xk) (i:Nat):1<=(cC b es i).length:=by have:=(CM b es 0 i).length_le;rw[Ud] at this;exact this
theorem Py (h:i<(cC b es i).length):i+1<=(cC b es (i+1)).length:=TJ h (yx b es i).length_le
def jf (b:Bd) (s:Vt) (e:Xk):D:= .tuple [.list ((aQ b s e).2.map jc),eE (aQ b s e).1]
def nJ (b:Bd) (s:Vt) (e:Xk):Cell:= .lst (((aQ b s e).2.map jc).map .fz)
def BR (b:Bd) (s:Vt):Nat->List Xk->List SV
 |_,[]=>[]
 |n,e::r=> .tp [.rf n,.fz (eE (aQ b s e).1)]::BR b s (n+1) r
theorem zR (b:Bd) (s:Vt):∀(es:List Xk) (n:Nat) (e:Xk),BR b s n (es++[e])=BR b s n es++[.tp [.rf (n+es.length),.fz (eE (aQ b s e).1)]]
 |[],n,e=>rfl
 |a::r,n,e=>by show _::BR b s (n+1) (r++[e])=_::(BR b s (n+1) r++_);rw[zR b s r (n+1) e,UI,YU 1 r.length];rfl
theorem Dh (b:Bd) (s:Vt):∀(es:List Xk) (n:Nat),(BR b s n es).length=es.length
 |[],_=>rfl
 |_::r,n=>congrArg (·+1) (Dh b s r (n+1))
theorem Ce (b:Bd) (s:Vt):∀(es:List Xk) (Z R:bh),km (frz 3) (Z++(es.map (nJ b s)++R)) (BR b s Z.length es)=lD (es.map (jf b s),Z++(SS es.length .dead++R))
 |[],Z,R=>rfl
 |e::r,Z,R=>by
  have g:(Z++(nJ b s e::(r.map (nJ b s)++R)))[Z.length]? =lD (nJ b s e):=mL (t:=0);have i:frz 2 (Z++(nJ b s e::(r.map (nJ b s)++R))) (.rf Z.length)=lD (.list ((aQ b s e).2.map jc),Z++(.dead::(r.map (nJ b s)++R))):=by unfold frz;rw[g];unfold nJ;dsimp only;rw[rK];dsimp only;have:=rY (l:=Z) (r:=nJ b s e::(r.map (nJ b s)++R)) (t:=0) (c:= .dead);exact congrArg (fun z=>lD (SG.list ((aQ b s e).2.map jc),z)) this
  have h:frz 3 (Z++(nJ b s e::(r.map (nJ b s)++R))) (.tp [.rf Z.length,.fz (eE (aQ b s e).1)])=lD (jf b s e,Z++(.dead::(r.map (nJ b s)++R))):=by
   have f:km (frz 2) (Z++(nJ b s e::(r.map (nJ b s)++R))) [.rf Z.length,.fz (eE (aQ b s e).1)]=lD ([.list ((aQ b s e).2.map jc),eE (aQ b s e).1],Z++(.dead::(r.map (nJ b s)++R))):=by unfold km;rw[i];rfl
   unfold frz;rw[show([AV.rf Z.length,AV.fz (eE (aQ b s e).1)].map AV.sv)=[.rf Z.length,.fz (eE (aQ b s e).1)] from rfl,f];rfl
  have a:=Ce b s r (Z++[.dead]) R;rw[SH,Tg,Tg] at a;show(match frz 3 (Z++(nJ b s e::(r.map (nJ b s)++R))) (.tp [.rf Z.length,.fz (eE (aQ b s e).1)]) with
   |some (d,Z1)=>(match km (frz 3) Z1 (BR b s (Z.length+1) r) with
    |some (ds,Z2)=>lD (d::ds,Z2)
    |none=>Sw)
   |none=>Sw)=_
  rw[h];dsimp only;rw[show Z++(Cell.dead::(r.map (nJ b s)++R))=Z++([Cell.dead]++(r.map (nJ b s)++R)) from rfl,show Z.length+1=Z.length+[Cell.dead].length from rfl,a];rfl
theorem A1 (m:VB b) (n:SW b s) {es:List Xk} (r:∀e∈es,EV b e) (z:es.length<=1000) (w:ρ[0]? =lD (-(bD b))) (v:ρ[2]? =lD (-(.list (es.map gv)))) (u:ρ[7]? =lD (-(eE s))):
  ∃J,oW (eU 1 [0,7] (fM (fu (aa 2))) (dY 0) cK (yO STP.lW 3 (aj (af (aa 1)) (aj (af (aa 2)) (aj (af (aa 0)) aC))))) ρ Z= .ok (.fz (.list (es.map (jf b s)))) (Z++J):=by
 have hi:fM (fu (aa 2)) ρ Z= .ok (es.map gv) Z:=iE (eX (ag (by unfold bQ;rw[SX,v];rfl)) rfl rfl);have h:e9 1 [0,7] ρ=[Sw,-(bD b),-(eE s)]:=by unfold e9;show Sw::[(ρ[0]?).join,(ρ[7]?).join]=_;rw[w,u];rfl
 have t:=iB (X:=fun _=>False) (gt:=dY 0) (ft:=cK) (fe:=yO STP.lW 3 (aj (af (aa 1)) (aj (af (aa 2)) (aj (af (aa 0)) aC)))) (fun i a l g=>∃o,a=[o,-(bD b),-(eE s)]/\l=Z++(es.take i).map (nJ b s)/\g=BR b s Z.length (es.take i)) (es.map gv) 0 (e9 1 [0,7] ρ) Z [] ⟨Sw,h,by rw[XY,V0,Tr],rfl⟩ (by
  rintro i d a l g f ⟨o,rfl,rfl,rfl⟩;rw[Ud];rw[SX] at f;cases q:es[i]? with
  |none=>rw[q] at f;cases f
  |some e=>
   rw[q] at f;cases S7 f;have y:=(SD.mp q).1;refine⟨by rw[Dh,UT];omega,[-(gv e),-(bD b),-(eE s)],rfl,rfl,?_⟩;have p:vf STP.lW 3 [.fz (bD b),.fz (eE s),.fz (gv e)] (Z++(es.take i).map (nJ b s))= .ok (.tp [.rf (Z++(es.take i).map (nJ b s)).length,.fz (eE (aQ b s e).1)]) ((Z++(es.take i).map (nJ b s))++[nJ b s e]):=Qa m n (r e (Tt q));refine .eq (r':=RS.ok (SV.tp [.rf (Z++(es.take i).map (nJ b s)).length,.fz (eE (aQ b s e).1)]) ((Z++(es.take i).map (nJ b s))++[nJ b s e])) ?_ ⟨_,rfl,?_,?_⟩
   .unfold yO;rw[aq (ah (ag rfl)) (aq (ah (ag rfl)) (aq (ah (ag rfl)) aM)),RS.bind_ok,p];rfl
   .rw[U5,q,Tc,Tg];rfl
   .rw[U5,q];show BR b s Z.length (es.take i)++_=BR b s Z.length (es.take i++[e]);rw[zR,SH,Sy])
 obtain⟨xs,A,j,a,o,_,rfl,rfl⟩:=t.all;rw[Ud,Sy,Xh] at j;have cm:=ig hi j;have fz:frz 4 ((Z++es.map (nJ b s))++[Cell.lst (BR b s Z.length es)]) (.rf (Z++es.map (nJ b s)).length)=lD (.list (es.map (jf b s)),(Z++(SS es.length Cell.dead++[Cell.lst (BR b s Z.length es)])).set (Z++es.map (nJ b s)).length .dead):=by unfold frz;rw[aW];dsimp only;rw[Tg,Ce b s es Z [Cell.lst (BR b s Z.length es)]]
 rw[SH,rY] at fz;exact⟨_,pI cm (by rw[SH];exact fz)⟩
theorem Cy (f g:α->D):∀l:List α,k6 (l.map f) (l.map g)=l.map fun x=> .tuple [f x,g x]
 |[]=>rfl
 |x::r=>by show SG.tuple [f x,g x]::k6 (r.map f) (r.map g)=_;rw[Cy f g r];rfl
theorem EC {b:Bd} (B:VB b) {s:Vt} (C:SW b s) {es:List Xk} (G:∀e∈es,EV b e) (hl:es.length<=1000) {ρ:bA} {Z J:bh} {m:Int} {r:Nat} {fs:List Rm} (K:0<=m) (E:m<=1000) (U:(fs.length:Int)<=m)
  (S:ρ[2]? =lD (-(.list (es.map gv)))) (R:ρ[3]? =lD (lD (.rf Z.length))) (Q:ρ[6]? =lD (-(nd r))) (O:ρ[8]? =lD (-(.list (es.map (jf b s))))):
  Out (sL 2 [3,6] (fM (zL {aa 2,aa 8})) (PU 2 (tT (dY 0) (tT (dY 1) El))) cK (qH "Places" "enter" bT 4 (ao 2) (aj (af (aN bw (aa 1) (~~~1))) (aj (af (aa 3)) (aj (af (aa 0)) aC)))) ρ (mQ Z m (fs.map kK) J))
   (fun x Z'=>x= .rf (mQ Z m ((gq b s r fs es).map kK) J).length/\Z'=mQ Z m ((gq b s r fs es).map kK) (J++[.lst ((es.map fun e=>nd (fR (gq b s r fs es) (aQ b s e).1)).map .fz)])/\((gq b s r fs es).length:Int)<=m)
   (fun x=>x=TM m/\m<((gq b s r fs es).length:Int)):=by
 have hi:fM (zL {aa 2,aa 8}) ρ (mQ Z m (fs.map kK) J)= .ok (es.map fun e=> .tuple [gv e,jf b s e]) (mQ Z m (fs.map kK) J):=by
  have I:(bQ ρ)[2]? =lD (-(.list (es.map gv))):=by unfold bQ;rw[SX,S];rfl
  have H:(bQ ρ)[8]? =lD (-(.list (es.map (jf b s)))):=by unfold bQ;rw[SX,O];rfl
  rw[<-Cy];exact iE (xh (d:= .list (es.map gv)) (e:= .list (es.map (jf b s))) (am (ag I) (am (ag H) aG)) rfl rfl rfl)
 have A:e9 2 [3,6] ρ=[Sw,Sw,lD (.rf Z.length),-(nd r)]:=by unfold e9;show Sw::Sw::[(ρ[3]?).join,(ρ[6]?).join]=_;rw[R,Q];rfl
 refine AZ hi (Out.imp (iB (fun i f Z' l=>∃v u,f=[v,u,lD (.rf Z.length),-(nd r)]/\Z'=mQ Z m ((gq b s r fs (es.take i)).map kK) J/\l=((es.take i).map fun e=>nd (fR (gq b s r fs es) (aQ b s e).1)).map .fz/\((gq b s r fs (es.take i)).length:Int)<=m) (es.map fun e=> .tuple [gv e,jf b s e]) 0 (e9 2 [3,6] ρ) (mQ Z m (fs.map kK) J) [] ⟨Sw,Sw,A,rfl,rfl,U⟩ ?_) ?_)
 .rintro i d f Z' l j ⟨v,u,rfl,rfl,rfl,hle⟩
  rw[Ud] at hle⊢;rw[SX] at j;cases q:es[i]? with
  |none=>rw[q] at j;cases j
  |some e=>
   rw[q] at j;cases S7 j;have il:=(SD.mp q).1;have y:=G e (Tt q);have g:=wX B C y;have rt:=HZ (b:=b) (s:=s) (r:=r) (fs:=fs) q;have h:=GN (b:=b) (s:=s) (r:=r) es fs (i+1);have T:=Bc B C (r:=r) (es.take i) fs (fun x N=>G x (List.mem_of_mem_take N));generalize hF:gq b s r fs (es.take i)=F at hle rt;refine⟨by rw[Sy,Sy,UT];omega,[-(gv e),-(jf b s e),lD (.rf Z.length),-(nd r)],rfl,rfl,?_⟩;have L:(F.map kK).length<100000:=by rw[Sy];omega
   have P:PSt Z.length (Z.length+1) (Z.length+2) m (F.map kK) (mQ Z m (F.map kK) J):=AY L;have X:=uU (b:=nd r) (e:=gv e) P (yS K E) E (AD g);have M:bw (jf b s e) (.int 1)=-(eE (aQ b s e).1):=kP;have a:=Ch (n:=4) (m:= "enter") (F:=bT) (fo:=ao 2) (fa:=aj (af (aN bw (aa 1) (~~~1))) (aj (af (aa 3)) (aj (af (aa 0)) aC))) (ρ:=[-(gv e),-(jf b s e),lD (.rf Z.length),-(nd r)]) (xs:=[.fz (eE (aQ b s e).1),.fz (nd r),.fz (gv e)]) (bj rfl) P.o vD (aq (ah (aK (rv:= .fz (eE (aQ b s e).1)) (ag rfl) aL rfl rfl M)) (aq (ah (ag rfl)) (aq (ah (ag rfl)) aM))) rfl;rw[X] at a;have w:=De h (s:=(aQ b s e).1) (t:=fR F (aQ b s e).1) (by rw[rt];exact BZ g _ _);have Y:((es.take (i+1)).map fun e=>nd (fR (gq b s r fs es) (aQ b s e).1)).map SV.fz=((es.take i).map fun e=>nd (fR (gq b s r fs es) (aQ b s e).1)).map .fz++[.fz (nd (fR F (aQ b s e).1))]:=by rw[U5,q,Tc,Tc];show _++[SV.fz (nd (fR (gq b s r fs es) (aQ b s e).1))]=_;rw[w]
   rw[Y,rt];cases q2:eB (F.map kK) (eE (aQ b s e).1) with
   |some t=>
    rw[q2] at a;have p:nI F (aQ b s e).1 (nd r) (gv e)=F:=by unfold nI;rw[q2];rfl
    have z:fR F (aQ b s e).1=t:=by unfold fR;rw[q2];rfl
    rw[p,z];exact .eq a ⟨_,_,rfl,rfl,rfl,hle⟩
   |none=>
    rw[q2] at a;have p:nI F (aQ b s e).1 (nd r) (gv e)=F++[⟨(aQ b s e).1,nd r,gv e⟩]:=by unfold nI;rw[q2];rfl
    have z:fR F (aQ b s e).1=F.length:=by unfold fR;rw[q2];rfl
    dsimp only at a;rw[Sy] at a;by_cases hm:m<=(F.length:Int)
    .rw[if_pos hm] at a;refine .eq a ⟨rfl,?_⟩;have:=h.length_le;rw[rt,p,SH] at this;have this:F.length+1<=_:=this;omega
    .rw[if_neg hm,Cq] at a;rw[p,z];refine .eq a ⟨_,_,rfl,by rw[Tc];rfl,rfl,?_⟩;rw[SH];show((F.length+1:Nat):Int)<=m;omega
 .rintro xs Z' ⟨f,v,u,_,rfl,rfl,hle⟩;rw[Ud,Sy,Xh] at*;refine⟨rfl,?_,hle⟩;unfold mQ;rw[Tg];rfl
theorem oV (h:Out r T X) (k:∀a Z,T a Z->T' a Z) (b:∀x,X x->X' x):Out r T' X':=by
 refine⟨?_⟩;have h:=h.out;cases r with
 |bad=>exact h
 |er x o=>exact b x h
 |ok a o=>exact k a o h
def Fm (b:Bd) (es:List Xk) (j:Nat):D:=match(cC b es j)[j]? with
 |some r=> .tuple (es.map fun e=>nd (fR (cC b es (j+1)) (aQ b r.s e).1))
 |none=> .none
def zy (b:Bd) (es:List Xk) (j:Nat):D:=match(cC b es j)[j]? with
 |some r=> .tuple (es.map fun e=> .tuple ((aQ b r.s e).2.map jc))
 |none=> .none
def iG (b:Bd) (es:List Xk) (n:Nat):List D:=(SJ n).map (Fm b es)
def bX (b:Bd) (es:List Xk) (n:Nat):List D:=(SJ n).map (zy b es)
def uz (Z:bh) (m:Int) (b:Bd) (es:List Xk) (n:Nat) (J:bh):bh:=mQ Z m ((cC b es n).map kK) (.lst ((iG b es n).map .fz):: .lst ((bX b es n).map .fz)::J)
theorem rM:mQ Z m fs (J++K)=mQ Z m fs J++K:=by unfold mQ;rw[Tg];rfl
theorem B4:(mQ Z m fs J).length=Z.length+3+J.length:=by unfold mQ;rw[SH];show Z.length+(J.length+1+1+1)=_;omega
theorem Sh {xs:List SV} {n:Nat} {v:SV} (h:xs[n]? =lD v):mX xs (n:Int)=lD v:=xk (by omega) (by rw[Um];exact h)
abbrev W9 (b:Bd) (m:Int) (es:List Xk) (l:Nat) (f e a:Option SV):bA:=[-(bD b),-(.int m),-(.list (es.map gv)),lD (.rf l),lD (.rf (l+3)),lD (.rf (l+4)),f,e,a]
theorem tS (A:VB b) {n:Nat} (hn:b.n=n) (h5:n<=5) (S:0<=m) (R:m<=1000) (a:bh):Out (gO [.fz (bD b),.fz (.int m)] a) (fun v Z'=>∃N J,(cC b (cL n) N).length=N/\(N:Int)<=m/\v= .tp [.rf (a.length+2),.rf (a.length+4),.rf (a.length+5)]/\Z'=uz (a++[.dead]) m b (cL n) N J) (fun x=>x=TM m/\∃i,m<((cC b (cL n) i).length:Int)):=by
 have p:(cL n).length<=1000:=by unfold cL;rw[SH,SH,Sy,Sy,S0];show n+n+1<=_;omega
 have l:=wO hn;have ev:=HP hn h5;generalize cL n=es at p l ev;refine sG rfl ?_;unfold r9;have e1:oW (af (fA eR 1 {aa 0})) [-(bD b),-(.int m),Sw,Sw,Sw,Sw,Sw,Sw,Sw] a= .ok (.fz (.list (es.map gv))) (a++[.dead]):=by refine pI (eN (dr (am (ag rfl) aG) rfl rfl ev)) ?_;rw[j8 aW,gj]
 refine gc e1 rfl ?_;have U:(a++[Cell.dead]).length=a.length+1:=by rw[SH];rfl
 have r2:a.length+2=(a++[Cell.dead]).length+1:=by omega
 have r4:a.length+4=(a++[Cell.dead]).length+3:=by omega
 have r5:a.length+5=(a++[Cell.dead]).length+4:=by omega
 rw[r2,r4,r5];generalize a++[Cell.dead]=base;have Q:=IR (C:= "Places") (F:=dm) (fa:=aj (af (pC (.tuple [(.tuple []),.none,.none]))) (aj (af (aa 1)) aC)) (ρ:=[-(bD b),-(.int m),-(.list (es.map gv)),Sw,Sw,Sw,Sw,Sw,Sw]) (Z:=base) (aq (ah (d:=eE OG) (show _=Res.ok (PV.fz (.tuple [.tuple [],.none,.none]),_) from aL)) (aq (ah (ag rfl)) aM)) rfl;rw[HC (AD (CC b)) S R] at Q;refine wz (.eq Q ?_);by_cases hm:m<=0
 .rw[if_pos hm];exact⟨rfl,0,by show m<1;omega⟩
 rw[if_neg hm];refine Out.eq rfl ⟨?_⟩;show kS _ _ _ _;refine gc (ρ1:=[-(bD b),-(.int m),-(.list (es.map gv)),lD (.rf base.length),lD (.rf (base.length+3)),Sw,Sw,Sw,Sw]) ((eN (by fail "ev")).trans (by rw[B4,<-rM];rfl)) rfl ?_;refine gc (ρ1:=W9 b m es base.length Sw Sw Sw) ((eN (by fail "ev")).trans (by rw[B4,<-rM];rfl)) rfl ?_;refine nA (zP (fun n ρ Z=>∃J j h g,ρ=W9 b m es base.length j h g/\Z=uz base m b es n J/\n<=(cC b es n).length/\((cC b es n).length:Int)<=m) 1000 (by decide) ⟨[],Sw,Sw,Sw,rfl,rfl,T5 _,by show(1:Int)<=m;omega⟩ ?_);rintro n ρ Z ⟨J,j,h,g,rfl,rfl,hle,hlm⟩;have K:=nz A l n;have lF:((cC b es n).map kK).length<100000:=by rw[Sy];omega
 have P:PSt base.length (base.length+1) (base.length+2) m ((cC b es n).map kK) (uz base m b es n J):=AY lF;have g3:(uz base m b es n J)[base.length+3]? =lD (.lst ((iG b es n).map .fz)):=mL;have O:(iG b es n).length=n:=by unfold iG;rw[Sy,S0]
 have dl:(bX b es n).length=n:=by unfold bX;rw[Sy,S0]
 have w:∀{j h g:Option SV},jT b4 (aj (ao 4) aC) (W9 b m es base.length j h g) (uz base m b es n J)= .ok (.fz (nd n)) (uz base m b es n J):=nc (aq (bj rfl) aM) (by unfold aI;rw[ez g3];rfl) ((i4 _).trans (by rw[O]));have H:∀{j h g:Option SV},aV "Places" "found" (ao 3) (W9 b m es base.length j h g) (uz base m b es n J)= .ok (.rf (base.length+1)) (uz base m b es n J):=d6 (bj rfl) P.o vB;have L:jT b4 (aj (aV "Places" "found" (ao 3)) aC) (W9 b m es base.length j h g) (uz base m b es n J)= .ok (.fz (nd (cC b es n).length)) (uz base m b es n J):=nc (aq H aM) (by unfold aI;rw[ez P.f];rfl) ((i4 _).trans (by rw[Sy,Sy]));have z:=bu (dL w L (cJ (pV (n:Int) ((cC b es n).length:Int))));by_cases Y:n<(cC b es n).length
 case neg=>
  rw[decide_eq_false (by omega)] at z;refine .inl ⟨_,z,?_⟩;have nN:(cC b es n).length=n:=by omega
  refine wU (MK (aq H (aq (bj rfl) (aq (bj rfl) aM))) (SR rfl) rfl rfl) ⟨n,J,nN,by omega,rfl,rfl⟩
 case pos=>
  rw[decide_eq_true (by omega)] at z;refine .inr ⟨by omega,_,z,?_⟩;obtain⟨r,u⟩:∃r,(cC b es n)[n]? =lD r:=⟨_,SM Y⟩;have q:=K r (Tt u);refine gc (x:= .fz (nd n)) (ρ1:=W9 b m es base.length (-(nd n)) h g) w rfl ?_;have st:g6 (g6 (aV "Places" "found" (ao 3)) (af (aa 6))) (af (~~~0)) (W9 b m es base.length (-(nd n)) h g) (uz base m b es n J)= .ok (.fz (eE r.s)) (uz base m b es n J):=cG (dx:=Da (kK r)) (t6 H (ah (d:=nd n) (ag rfl)) rfl P.f (Sh (by rw[SX,SX,SX,u];rfl))) (ah aL) jO;refine gc (x:= .fz (eE r.s)) (ρ1:=W9 b m es base.length (-(nd n)) (-(eE r.s)) g) st rfl ?_;obtain⟨M,ha⟩:=A1 A q l p (ρ:=W9 b m es base.length (-(nd n)) (-(eE r.s)) g) (Z:=uz base m b es n J) rfl rfl rfl;refine gc (x:= .fz (.list (es.map (jf b r.s)))) (ρ1:=W9 b m es base.length (-(nd n)) (-(eE r.s)) (-(.list (es.map (jf b r.s))))) ha rfl ?_;have eJ:uz base m b es n J++M=uz base m b es n (J++M):=by unfold uz;rw[<-rM];rfl
  rw[eJ];generalize J++M=J;have y:=EC A q l p (ρ:=W9 b m es base.length (-(nd n)) (-(eE r.s)) (-(.list (es.map (jf b r.s))))) (Z:=base) (J:= .lst ((iG b es n).map .fz):: .lst ((bX b es n).map .fz)::J) (m:=m) (r:=n) (fs:=cC b es n) S R hlm rfl rfl rfl rfl;rw[<-wJ u] at y;have E:Fm b es n= .tuple (es.map fun e=>nd (fR (cC b es (n+1)) (aQ b r.s e).1)):=by unfold Fm;rw[u]
  have G:zy b es n= .tuple (es.map fun e=> .tuple ((aQ b r.s e).2.map jc)):=by unfold zy;rw[u]
  have B:iG b es (n+1)=iG b es n++[Fm b es n]:=by unfold iG;rw[Wu,Tc];rfl
  have I:bX b es (n+1)=bX b es n++[zy b es n]:=by unfold bX;rw[Wu,Tc];rfl
  have y:=oV y (T':=fun x Z'=>∃ds,sh Z' x=lD (.list ds)/\(∃ys,Z'[base.length+3]? =lD (.lst ys)/\ys.length<1000000/\kS (bU (kJ (ao 5) (af (fq fU {dX 1 [] (fu (aa 8)) (gN 0) cV (fq fU {aN bw (aa 0) (~~~0)})}))) (W9 b m es base.length (-(nd n)) (-(eE r.s)) (-(.list (es.map (jf b r.s))))) (Z'.set (base.length+3) (.lst (ys++[.fz (.tuple ds)])))) (fun ρ Z=>∃J j h g,ρ=W9 b m es base.length j h g/\Z=uz base m b es (n+1) J/\n+1<=(cC b es (n+1)).length/\((cC b es (n+1)).length:Int)<=m) (fun v Z'=>∃N J,(cC b es N).length=N/\(N:Int)<=m/\v= .tp [.rf (base.length+1),.rf (base.length+3),.rf (base.length+4)]/\Z'=uz base m b es N J) (fun x=>x=TM m/\∃i,m<((cC b es i).length:Int)))) (X':=fun x=>x=TM m/\∃i,m<((cC b es i).length:Int)) ?_ (fun x T=>⟨T.1,n+1,T.2⟩)
  .exact Gb (Kc (i:=base.length+3) (bj rfl) (mL (t:=3)) (KN y))
  rintro x Z' ⟨rfl,rfl,hm'⟩;refine⟨es.map fun e=>nd (fR (cC b es (n+1)) (aQ b r.s e).1),?_,(iG b es n).map .fz,mL (t:=3),by rw[Sy,O];omega,?_⟩
  .refine ez ?_;rw[rM];exact aW
  .have w1:(mQ base m ((cC b es (n+1)).map kK) ((.lst ((iG b es n).map .fz):: .lst ((bX b es n).map .fz)::J)++[.lst ((es.map fun e=>nd (fR (cC b es (n+1)) (aQ b r.s e).1)).map .fz)])).set (base.length+3) (.lst ((iG b es n).map SV.fz++[.fz (.tuple (es.map fun e=>nd (fR (cC b es (n+1)) (aQ b r.s e).1)))]))=mQ base m ((cC b es (n+1)).map kK) (.lst ((iG b es (n+1)).map .fz):: .lst ((bX b es n).map .fz)::(J++[.lst ((es.map fun e=>nd (fR (cC b es (n+1)) (aQ b r.s e).1)).map .fz)])):=by
    unfold mQ;rw[rY,B,E,Tc];rfl
   rw[w1];generalize J++[Cell.lst ((es.map fun e=>nd (fR (cC b es (n+1)) (aQ b r.s e).1)).map .fz)]=J;have cm:kR (dU (gN 0) cV (fq fU {aN bw (aa 0) (~~~0)}) (es.map (jf b r.s)) [Sw] [])= .ok (es.map fun e=> .tuple ((aQ b r.s e).2.map jc)):=gH (cp:=[]) (jf b r.s) (fun e=> .tuple ((aQ b r.s e).2.map jc)) es p rfl fun e _=>by have i0:bw (jf b r.s e) (.int 0)=-(.list ((aQ b r.s e).2.map jc)):=jO;exact cD (rv:= .fz (.tuple ((aQ b r.s e).2.map jc))) (ds:=[.list ((aQ b r.s e).2.map jc)]) (am (aK (rv:= .fz (.list ((aQ b r.s e).2.map jc))) (ag rfl) aL rfl rfl i0) aG) rfl rfl
   have X:(mQ base m ((cC b es (n+1)).map kK) (.lst ((iG b es (n+1)).map .fz):: .lst ((bX b es n).map .fz)::J))[base.length+4]? =lD (.lst ((bX b es n).map .fz)):=mL (t:=4);have ap:=wA (ρ:=W9 b m es base.length (-(nd n)) (-(eE r.s)) (-(.list (es.map (jf b r.s))))) (fo:=ao 5) (fe:=af (fq fU {dX 1 [] (fu (aa 8)) (gN 0) cV (fq fU {aN bw (aa 0) (~~~0)})})) (x:= .fz (zy b es n)) (bj rfl) X (by rw[G];exact ah (cD (rv:= .fz (.tuple (es.map fun e=> .tuple ((aQ b r.s e).2.map jc)))) (ds:=[.list (es.map fun e=> .tuple ((aQ b r.s e).2.map jc))]) (am (ei (cs:=[]) (ds:=es.map (jf b r.s)) (eX (d:= .list (es.map (jf b r.s))) (ag rfl) rfl rfl) rfl cm) aG) rfl rfl)) X (by rw[Sy,dl];omega);refine AI (jm ap) ⟨J,_,_,_,rfl,?_,Py Y,hm'⟩;unfold uz mQ;rw[rY,I,Tc];rfl
theorem vX (e:VB b) {n:Nat} (hn:b.n=n) (j:n<=5) (g:0<=m) (f:m<=1000) (a:bh):Out (dc [.fz (bD b),.fz (.int m)] a) (fun v Z'=>∃N i K,(cC b (cL n) N).length=N/\(N:Int)<=m/\v= .rf (a.length+i)/\Z'=a++K/\K[i]? =lD (.lst ((((cC b (cL n) N).map kK).map Da).map .fz))) (fun x=>x=TM m/\∃i,m<((cC b (cL n) i).length:Int)):=by refine sG rfl ?_;unfold xX;refine Kb ?_;have p:=zc (F:=gO) (es:=[]) (fa:=aj (af (aa 0)) (aj (af (aa 1)) aC)) (ρ:=[-(bD b),-(.int m)]) (Z:=a) (aq (ah (ag rfl)) (aq (ah (ag rfl)) aM)) rfl;refine Out.bind (.eq p ((tS e hn j g f a).imp fun v Z' h=> ?_));obtain⟨N,J,o,l,rfl,rfl⟩:=h;refine .eq (r':=RS.ok (SV.rf (a.length+2)) (uz (a++[.dead]) m b (cL n) N J)) ?_ ⟨N,2,_,o,l,rfl,(by unfold uz mQ;rw[Tg]),rfl⟩;rw[ah aL,RS.bind_ok];rfl
def Cn (c:Nat->Nat):Nat->Nat
 |0=>0
 |l+1=>max (Cn c l) (c l+1)
def RG (c:Nat->Nat) (n:Nat):Prop:=∀i,i<n->c i<=Cn c i
section
variable {c f:Nat->Nat} {n:Nat}
theorem pK (l:Nat):Cn c (l+1)=max (Cn c l) (c l+1):=rfl
theorem xb (k:Nat):Cn c i<=Cn c (i+k):=by
 induction k with
 |zero=>exact SU _
 |succ k a=>rw[<-UI,pK];omega
theorem F0 (h:i<=j):Cn c i<=Cn c j:=by obtain⟨k,rfl⟩:=Vs h;exact xb k
theorem jQ (h:i<l):c i<Cn c l:=by have:=F0 (c:=c) h;rw[pK] at this;omega
theorem Ap (h:RG c n):∀l,l<=n->Cn c l<=l
 |0,_=>SU _
 |l+1,hl=>by have b:=Ap h l (by omega);have a:=h l (by omega);rw[pK];omega
theorem k9 (h:RG c n):∀l,l<=n->k<Cn c l->∃i,i<l/\c i=k/\Cn c i=k
 |0,_,hk=>absurd hk (ac8 _)
 |l+1,hl,hk=>by
  by_cases e:k<Cn c l
  .obtain⟨i,a,b⟩:=k9 h l (by omega) e;exact⟨i,by omega,b⟩
  .have g:=h l (by omega);rw[pK] at hk;exact⟨l,by omega,by omega,by omega⟩
theorem J4 (p:RG c n) (a:RG f n) (o:∀i j,i<n->j<n->f i=f j->c i=c j) (hn:Cn f n<=Cn c n):∀i,i<n->f i=c i:=by
 have new:∀l,l<n->c l=Cn c l->f l=Cn f l:=fun l g e=>by
  by_cases q:f l<Cn f l
  .obtain⟨j,h,b,_⟩:=k9 a l (by omega) q;have:=o j l (by omega) g b;have:=jQ (c:=c) h;omega
  .have:=a l g;omega
 have d:∀l k,l+k<=n->Cn f l+Cn c (l+k)<=Cn f (l+k)+Cn c l:=by
  intro l k
  induction k with
  |zero=>intro _;exact SU _
  |succ k m=>
   intro A;have z:=m (by omega);rw[<-UI,pK,pK];have v:=p (l+k) (by omega);have r:=a (l+k) (by omega);by_cases q:c (l+k)=Cn c (l+k)
   .have:=new (l+k) (by omega) q;omega
   .omega
 have e:∀l,l<=n->Cn f l=Cn c l:=fun l g=>by obtain⟨k,rfl⟩:=Vs g;have u:=d 0 l (by omega);have B:=d l k (SU _);rw[Ud] at u;have y:Cn f 0=0:=rfl;have w:Cn c 0=0:=rfl;omega
 intro i
 induction i using Nat.strongRecOn with
 |ind i m=>
  intro hi;have e0:=e i (by omega);have t:=e (i+1) (by omega);rw[pK,pK] at t;have v:=p i hi;have r:=a i hi;by_cases q:f i<Cn f i
  .obtain⟨j,h,b,_⟩:=k9 a i (by omega) q;rw[<-b,m j h (by omega),o j i (by omega) hi b]
  .omega
def Lq:Nat->List Nat->Prop
 |_,[]=>True
 |m,s::r=>s<=m/\Lq (max m (s+1)) r
def vA (m:Nat) (r:List Nat):Nat:=r.foldl (fun m s=>max m (s+1)) m
theorem Js (m s:Nat) (r:List Nat):vA m (s::r)=vA (max m (s+1)) r:=rfl
theorem DD:∀{m:Nat} (r:List Nat),(∀s∈r,s<m)->vA m r=m
 |_,[],_=>rfl
 |m,s::r,h=>by have b:=h s S5;rw[Js,show max m (s+1)=m by omega];exact DD r fun x a=>h x (S2 _ a)
theorem yJ:∀{m:Nat} (r:List Nat),m<=vA m r/\∀s∈r,s<vA m r
 |m,[]=>⟨SU _,fun _ h=>nomatch h⟩
 |m,s::r=>by
  obtain⟨e,b⟩:=yJ (m:=max m (s+1)) r;rw[Js];refine⟨by omega,fun x a=> ?_⟩;rcases Tq.mp a with rfl|a
  .omega
  .exact b x a
theorem Cs (a:RG c n):∀(r:List Nat) (l:Nat),Lq l r->vA l r<=n->Lq (Cn c l) (r.map c)/\vA (Cn c l) (r.map c)=Cn c (vA l r)
 |[],l,_,_=>⟨True.intro,rfl⟩
 |s::r,l,⟨h1,h2⟩,hn=>by
  rw[Js] at hn;obtain⟨g,b⟩:=Cs a r _ h2 hn;have h:=(yJ (m:=max l (s+1)) r).1;have e:max (Cn c l) (c s+1)=Cn c (max l (s+1))/\c s<=Cn c l:=by
   by_cases q:s<l
   .have:=jQ (c:=c) q;rw[show max l (s+1)=l by omega];exact⟨by omega,by omega⟩
   .obtain rfl:s=l:=by omega
    rw[show max s (s+1)=s+1 by omega];exact⟨rfl,a s (by omega)⟩
  refine⟨⟨e.2,by rw[e.1];exact g⟩,?_⟩;show vA (max (Cn c l) (c s+1)) (r.map c)=_;rw[e.1,b,Js]
theorem Eb {S:Nat->List Nat} {L:Nat->Nat} (r:RG c n) (C:∀a,a<n->a<L a/\L (a+1)<=n/\Lq (L a) (S a)/\vA (L a) (S a)=L (a+1)) (Q:∀a a',a<n->a'<n->c a=c a'->(S a).map c=(S a').map c) (T:L 0=1) (R:L n=n) (y:0<n):
  ∃m:Nat->Nat,m 0=1/\m (Cn c n)=Cn c n/\∀k a,a<n->c a=k->Cn c a=k->k<m k/\Lq (m k) ((S a).map c)/\vA (m k) ((S a).map c)=m (k+1):=by
 have row:∀a,a<n->Lq (Cn c (L a)) ((S a).map c)/\vA (Cn c (L a)) ((S a).map c)=Cn c (L (a+1)):=fun a ha=>by obtain⟨_,b,t,E⟩:=C a ha;have:=Cs r (S a) (L a) t (by omega);rw[E] at this;exact this
 have I:∀a k,a+k<=n->Cn c (L a)<=Cn c (L (a+k)):=by
  intro a k
  induction k with
  |zero=>intro _;exact SU _
  |succ k A=>intro h;have i1:=A (by omega);have i2:=(row (a+k) (by omega)).2;have i3:=(yJ (m:=Cn c (L (a+k))) ((S (a+k)).map c)).1;rw[<-UI];omega
 have w:∀a,a<n->c a<Cn c a->Cn c (L (a+1))=Cn c (L a):=fun a ha q=>by obtain⟨a',g,b,_⟩:=k9 r a (by omega) q;have e:=Q a a' ha (by omega) b.symm;obtain⟨_,u⟩:=row a ha;obtain⟨_,U⟩:=row a' (by omega);obtain⟨k,rfl⟩:=Vs g;have p:=I (a'+1) k (by show a'+1+k<=n;exact Wz ha);rw[<-u];refine DD _ fun s l=> ?_;rw[e] at l;have:=(yJ (m:=Cn c (L a')) ((S a').map c)).2 s l;have p:Cn c (L (a'+1))<=Cn c (L (a'.succ+k)):=p;omega
 have j:∀a d,a+d<=n->Cn c (a+d)=Cn c a->Cn c (L (a+d))=Cn c (L a):=by
  intro a d
  induction d with
  |zero=>intro _ _;rfl
  |succ d A=>
   intro g b;have Y:=xb (c:=c) (i:=a) d;have X:Cn c (a+d)<=Cn c (a+d+1):=xb 1;rw[<-UI] at b⊢;have q:c (a+d)<Cn c (a+d):=by have:Cn c (a+d+1)=max (Cn c (a+d)) (c (a+d)+1):=rfl;omega
   rw[w (a+d) (by omega) q];exact A (by omega) (by omega)
 have o:∀k,∃a,k<Cn c n->a<n/\c a=k/\Cn c a=k:=fun k=>by
  by_cases q:k<Cn c n
  .obtain⟨i,h⟩:=k9 r n (SU _) q;exact⟨i,fun _=>h⟩
  .exact⟨0,fun h=>absurd h q⟩
 have G:c 0=0:=by have:=r 0 y;have z:Cn c 0=0:=rfl;omega
 have B:∀k a a',a<n->a'<n->c a=k->Cn c a=k->c a'=k->Cn c a'=k->a=a':=fun k a a' _ _ g b t E=>by
  rcases YZ a a' with q|q|q
  .have:=jQ (c:=c) q;omega
  .exact q
  .have:=jQ (c:=c) q;omega
 refine⟨fun k=>if k<Cn c n then Cn c (L (Classical.choose (o k))) else Cn c n,?_,?_,?_⟩
 .have q:0<Cn c n:=YC (T5 _) (jQ y);dsimp only;rw[if_pos q];obtain⟨g,b,t⟩:=Classical.choose_spec (o 0) q;rw[B 0 _ 0 g y b t G rfl,T,pK,G];rfl
 .dsimp only;rw[if_neg (Ui _)]
 .intro k a ha g b
  have q:k<Cn c n:=by rw[<-g];exact jQ ha
  obtain⟨M,K,J⟩:=Classical.choose_spec (o k) q;have e:=B k _ a M ha K J g b;obtain⟨H,u⟩:=row a ha;obtain⟨p,Z,_⟩:=C a ha;dsimp only;rw[if_pos q,e];refine⟨by have:=jQ (c:=c) p;omega,H,?_⟩;rw[u];have ca:Cn c (a+1)=k+1:=by rw[pK];omega
  by_cases v:k+1<Cn c n
  .rw[if_pos v]
   obtain⟨P,O,N⟩:=Classical.choose_spec (o (k+1)) v;generalize Classical.choose (o (k+1))=a2 at P O N;have lt:a+1<=a2:=by
    rcases aeX a2 (a+1) with z|z
    .have:=F0 (c:=c) (show a2<=a by omega);omega
    .exact z
   obtain⟨d,rfl⟩:=Vs lt;exact(j (a+1) d (by omega) (by omega)).symm
  .rw[if_neg v];obtain⟨d,F⟩:=Vs (show a+1<=n from ha);have hm:=F0 (c:=c) (show a+1<=n from ha);have:=j (a+1) d (by omega) (by rw[F];omega);rw[F,R] at this;exact this.symm
end
def sM (fs:List Pl) (d:D):List Pl:=if(eB fs d).isSome=Sz then fs else fs++[⟨d,.none,.none⟩]
def uJ (fs:List Pl) (d:D):Nat:=(eB fs d).getD fs.length
def gw (ds:List D):List Pl:=ds.foldl sM []
def x9 (ds:List D) (i:Nat):Nat:=uJ (gw (ds.take i)) (ds[i]?.getD .none)
def PN (ds:List D):List Nat:=(SJ ds.length).map (x9 ds)
theorem tO:∀{fs:List Pl} {d:D} {t:Nat},eB fs d=lD t->∃q,fs[t]? =lD q/\SG.eqv q.p d=Sz
 |[],_,_,h=>by cases h
 |a::r,d,t,h=>by
  unfold eB at h;split at h
  .rename_i e;cases h;exact⟨a,rfl,e⟩
  .cases q:eB r d with
   |none=>rw[q] at h;cases h
   |some j=>rw[q] at h;cases h;obtain⟨x,f,b⟩:=tO q;exact⟨x,by simpa using f,b⟩
theorem pM (h:ds[i]? =lD d):gw (ds.take (i+1))=sM (gw (ds.take i)) d/\x9 ds i=uJ (gw (ds.take i)) d:=by
 refine⟨?_,?_⟩
 .unfold gw;rw[U5,h,WU];rfl
 .unfold x9;rw[h];rfl
theorem CD (fs:List Pl) (d:D):(sM fs d).length=max fs.length (uJ fs d+1)/\uJ fs d<=fs.length:=by
 unfold sM uJ;cases q:eB fs d with
 |none=>rw[if_neg (by intro z;cases z),SH];show fs.length+1=max fs.length (fs.length+1)/\fs.length<=fs.length;omega
 |some t=>obtain⟨x,a,_⟩:=tO q;have:=(SD.mp a).1;rw[if_pos (show(lD t).isSome=Sz from rfl)];show fs.length=max fs.length (t+1)/\t<=fs.length;omega
theorem t7 (ds:List D):∀i,i<=ds.length->(gw (ds.take i)).length=Cn (x9 ds) i
 |0,_=>by rw[XY];rfl
 |i+1,h=>by have hi:=SM (show i<ds.length by omega);obtain⟨b,a⟩:=pM hi;rw[b,(CD _ _).1,t7 ds i (by omega),pK,a]
theorem Hc (ds:List D):RG (x9 ds) ds.length:=fun i h=>by rw[<-t7 ds i (by omega),(pM (SM h)).2];exact(CD _ _).2
theorem HH (fs:List Pl) (d:D):fs<+:sM fs d:=by
 unfold sM;split
 .exact Vz _
 .exact abG _ _
theorem Hj (ds:List D) (i k:Nat):gw (ds.take i)<+:gw (ds.take (i+k)):=by
 induction k with
 |zero=>exact Vz _
 |succ k a=>
  rw[<-UI];cases q:ds[i+k]? with
  |none=>have b:=List.getElem?_eq_none_iff.mp q;rw[show ds.take (i+k+1)=ds.take (i+k) by rw[Xo (by omega),Xo b]];exact a
  |some d=>rw[(pM q).1];exact a.trans (HH _ _)
theorem JN (h:fs<+:gs) (q:eB fs p=lD t):eB gs p=lD t:=by obtain⟨l,rfl⟩:=h;exact xn q
theorem HG (h:LD.keyD d=Sz):eB (sM fs d) d=lD (uJ fs d):=by
 unfold sM uJ;cases q:eB fs d with
 |none=>rw[if_neg (by intro z;cases z)];exact ur q (xg h)
 |some t=>rw[if_pos (show(lD t).isSome=Sz from rfl),q];rfl
theorem uZ (Z:bh) (a:A):RS.TX Z (lD a)= .ok a Z:=rfl
theorem E6 (a:∀d∈ds,LD.keyD d=Sz) (h:ds[i]? =lD d) (k:Nat):eB (gw (ds.take (i+1+k))) d=lD (x9 ds i):=by obtain⟨e,b⟩:=pM h;refine JN (Hj ds (i+1) k) ?_;rw[e,b];exact HG (a d (Tt h))
theorem Av (h:LD.keyD d=Sz):LD.kd d=Sz:=by
 cases d with
 |tuple xs=>unfold LD.keyD at h;rw[Ts] at h;exact h.1
 |_=>simp[LD.keyD] at h
theorem v9 {ds:List D} (a:∀d∈ds,LD.keyD d=Sz):∀i,i<=ds.length->∀q∈gw (ds.take i),LD.keyD q.p=Sz
 |0,_,q,hq=>by rw[XY] at hq;cases hq
 |i+1,h,q,hq=>by
  have hi:=SM (show i<ds.length by omega);rw[(pM hi).1] at hq;unfold sM at hq;split at hq
  .exact v9 a i (by omega) q hq
  .rcases TZ.mp hq with hq|hq
   .exact v9 a i (by omega) q hq
   .rw[Td.mp hq];exact a _ (Vc _)
theorem QU (a:∀d∈ds,LD.keyD d=Sz) (hi:ds[i]? =lD d) (m:ds[j]? =lD e):x9 ds i=x9 ds j↔d=e:=by
 have t:=(SD.mp hi).1;have r:=(SD.mp m).1;obtain⟨k,v⟩:=Vs (show i+1<=ds.length from t);obtain⟨l,u⟩:=Vs (show j+1<=ds.length from r);have f:=E6 a hi k;have b:=E6 a m l;rw[v] at f;rw[u] at b;constructor
 .intro z;rw[z] at f;obtain⟨q,p,y⟩:=tO f;obtain⟨A,o,w⟩:=tO b;rw[p] at o;cases o;have n:=Av (v9 a _ (SU _) q (Tt p));have h:=Av (a d (Tt hi));have g:=Av (a e (Tt m));rw[<-LD.kd_eqv _ _ n h y,<-LD.kd_eqv _ _ n g w]
 .rintro rfl;rw[f] at b;exact S7 b
theorem Ka (h:LD.keyD d=Sz):lc (.fz d)=lD d:=by
 cases d with
 |tuple xs=>unfold lc;dsimp only;rw[if_pos h]
 |_=>simp[LD.keyD] at h
theorem qS (v:frz 4 (Z++[.dd []]) x=lD (.list ds,Z1++[.dd []])) (j:Z1.length=Z.length) (u:∀d∈ds,LD.keyD d=Sz) (hn:ds.length<=1000):
  d8 [x] Z= .ok (.rf (Z.length+1)) (Z1++[.dd (eA 0 (gw ds)),.lst ((PN ds).map fun c=> .fz (nd c))]):=by
 have p:fQ (ao 0) [lD x,lD (.rf Z.length)] (Z++[.dd []])= .ok ds (Z1++[.dd []]):=by unfold fQ;rw[bj rfl,RS.bind_ok,v];rfl
 have h:Out (ck (dY 0) cK (zu (ao 1) (af (aa 0)) (qh (ao 1))) ds [Sw,lD (.rf Z.length)] (Z1++[.dd []]) []) (fun xs f=>∃a:bA,(∃o,a=[o,lD (.rf Z.length)])/\f=Z1++[.dd (eA 0 (gw (ds.take (0+ds.length))))]/\xs=((SJ (0+ds.length)).map (x9 ds)).map fun c=> .fz (nd c)) fun _=>False:=by
  refine iB (fun k ρ f b=>(∃o,ρ=[o,lD (.rf Z.length)])/\f=Z1++[.dd (eA 0 (gw (ds.take k)))]/\b=((SJ k).map (x9 ds)).map fun c=> .fz (nd c)) ds 0 _ _ _ ⟨⟨Sw,rfl⟩,rfl,rfl⟩ ?_;rintro i d ρ f b hi ⟨⟨o,rfl⟩,rfl,rfl⟩;rw[Ud];have A:=(SD.mp hi).1;refine⟨by rw[Sy,Sy,S0];omega,[-(d),lD (.rf Z.length)],rfl,rfl,?_⟩;have kd:=u d (Tt hi);obtain⟨y,w⟩:=pM hi;have m:=t7 ds i (by omega);have B:=Ap (Hc ds) i (by omega);rw[y];have l:((SJ (i+1)).map (x9 ds)).map (fun c=>SV.fz (nd c))=((SJ i).map (x9 ds)).map (fun c=>SV.fz (nd c))++[.fz (nd (uJ (gw (ds.take i)) d))]:=by rw[Wu,Tc,Tc,abH,abH,w]
  rw[l];generalize gw (ds.take i)=fs at m⊢;have g:(Z1++[Cell.dd (eA 0 fs)])[Z.length]? =lD (.dd (eA 0 fs)):=by rw[<-j];exact aW
  have n:qh (ao 1) [-(d),lD (.rf Z.length)] (Z1++[Cell.dd (eA 0 fs)])= .ok (.fz (nd fs.length)) (Z1++[Cell.dd (eA 0 fs)]):=by unfold qh;rw[bj rfl,RS.bind_ok,vF g];show RS.ok (SV.fz (.int (eA 0 fs).length)) _=_;rw[rG]
  have r:(eA 0 fs).length<1000000:=by rw[rG];omega
  have ev:zu (ao 1) (af (aa 0)) (qh (ao 1)) [-(d),lD (.rf Z.length)] (Z1++[Cell.dd (eA 0 fs)])= .ok (.fz (nd (uJ fs d))) (Z1++[Cell.dd (eA 0 (sM fs d))]):=by
   unfold zu;rw[bj rfl,RS.bind_ok,vF g,uZ,RS.bind_ok,ah (ag rfl),RS.bind_ok,n,RS.bind_ok,Ka kd,uZ,RS.bind_ok,show P0 (.fz (nd fs.length))=lD (nd fs.length) from rfl,uZ,RS.bind_ok,vF g,uZ,RS.bind_ok];rw[if_pos r,kX];unfold uJ sM;cases q:eB fs d with
   |some t=>rw[if_pos (show(lD t).isSome=Sz from rfl)];show RS.ok (SV.fz (nd (0+t))) _=_;rw[Ud];rfl
   |none=>rw[if_neg (by intro z;cases z)];rw[CJ q,<-j,gj];rfl
  exact .eq ev ⟨⟨_,rfl⟩,rfl,rfl⟩
 obtain⟨xs,f,e,a,_,rfl,rfl⟩:=h.all;rw[Ud,Xh] at e;refine iW rfl ?_;unfold nQ;rw[cS (lG rfl rfl)];refine(gX (ig p e)).trans ?_;rw[Tg,SH,j];rfl
def EH (St:Nat->List Nat) (r:Nat):D:= .tuple ((St r).map nd)
def t8 (c:Nat->Nat) (St:Nat->List Nat) (r:Nat):D:= .tuple [nd (c r),.tuple ((St r).map fun s=>nd (c s))]
abbrev zO (St:Nat->List Nat) (N:Nat) (a:D) (q:Nat):List (Str×SV):=[("steps",.fz (.list ((SJ N).map (EH St)))),("sends",.fz a),("rounds",.rf q)]
def AF (c:Nat->Nat) (N:Nat):Cell:= .lst ((SJ N).map fun i=>SV.fz (nd (c i)))
section
variable {N:Nat} {St:Nat->List Nat} {c:Nat->Nat} {Z:bh} {o q t r:Nat} {rs:List SV} {sd:D}
theorem eZ (h:r<N):((SJ N).map f)[r]? =lD (f r):=by rw[SX,abm h];rfl
theorem MD (a:Z[t]? =lD (AF c N)) (h:r<N) (ha:fa ρ Z= .ok (.rf t) Z) (b:fb ρ Z= .ok (.fz (nd r)) Z):g6 fa fb ρ Z= .ok (.fz (nd (c r))) Z:=
 t6 ha b rfl a (Bq (eZ h))
theorem JY (f:Z[o]? =lD (.obj "Sorting" (zO St N sd q))) (i:Z[q]? =lD (.lst (rs++[.rf t]))) (b:Z[t]? =lD (AF c N)) (e:r<N) (h:∀s∈St r,s<N) (l:(St r).length<=1000):
  ∃C,bF [.rf o,.fz (nd r)] Z= .ok (.fz (t8 c St r)) (Z++[C]):=by
 refine⟨.lst (((St r).map fun s=>nd (c s)).map .fz),iW rfl ?_⟩;have e0:g6 (aV "Sorting" "rounds" (ao 0)) (af (EZ tG (~~~1))) [lD (.rf o),-(nd r),Sw] Z= .ok (.rf t) Z:=t6 (d6 (bj rfl) f rfl) (ah (Cc (rv:= .fz (.int (-1))) aL rfl rfl)) rfl i (sR _ _);refine cS (lG e0 rfl) ?_;have g:fQ (g6 (aV "Sorting" "steps" (ao 0)) (af (aa 1))) [lD (.rf o),-(nd r),lD (.rf t)] Z= .ok ((St r).map nd) Z:=by unfold fQ;rw[cG (d6 (bj rfl) f rfl) (ah (ag rfl)) (yc (eZ e)),RS.bind_ok];rfl
 have cm:ck (dY 0) cK (g6 (ao 1) (af (aa 0))) ((St r).map nd) [Sw,lD (.rf t)] Z []= .ok ([]++(St r).map fun s=>SV.fz (nd (c s))) Z:=by refine iz nd (fun s=>SV.fz (nd (c s))) Z (fun ρ=>∃o,ρ=[o,lD (.rf t)]) (St r) _ [] ⟨_,rfl⟩ (by show 0+_<=_;omega) ?_;rintro s a ρ ⟨x,rfl⟩;exact⟨[-(nd s),lD (.rf t)],rfl,rfl,MD b (h s a) (bj rfl) (ah (ag rfl)),_,rfl⟩
 rw[VS] at cm;have j:=ig (n:=1) (fj:=[2]) g cm;refine gX (pz (aq (MD b e (bj rfl) (ah (ag rfl))) (aq (nc (ds:=[.list ((St r).map fun s=>nd (c s))]) (aq (by rw[Tj];exact j) aM) ?_ rfl) aM)) (by show 2<=1000;omega));have:sh (Z++[.lst (((St r).map fun s=>nd (c s)).map .fz)]) (.rf Z.length)=lD (.list ((St r).map fun s=>nd (c s))):=ez aW;unfold aI;rw[this];rfl
theorem oA (h:N<=1000):ip [nd N]=lD ((SJ N).map nd):=by show(if ku (N:Int) then lD (L3.gf 0 (N:Int).toNat) else Sw)=_;rw[if_pos ⟨by omega,by omega⟩,Um];congr 1;refine Uz fun k _=> ?_;rw[aeR]
theorem Iw (p:Z[o]? =lD (.obj "Sorting" (zO St N sd q))) (y:Z[q]? =lD (.lst (rs++[.rf t]))) (w:Z[t]? =lD (AF c N)) (u:∀r,r<N->(St r).length<=1000/\∀s∈St r,s<N) (z:N<=1000) (f:ρ[0]? =lD (lD (.rf o))):
  ∃K,eU 1 [0] (lQ (jT b4 (aj (aV "Sorting" "steps" (ao 0)) aC))) (dY 0) cK (a8 "Sorting" "mark_of" bF 2 (ao 1) (aj (af (aa 0)) aC)) ρ Z= .ok (.rf (Z++K).length) (Z++K++[.lst (((SJ N).map (t8 c St)).map .fz)]):=by
 have v:lQ (jT b4 (aj (aV "Sorting" "steps" (ao 0)) aC)) ρ Z= .ok ((SJ N).map nd) Z:=by unfold lQ;rw[nc (aq (d6 (bj f) p rfl) aM) rfl (by show lD (RV.fz (.int ((SJ N).map (EH St)).length))=_;rw[Sy,S0]),RS.bind_ok,show P0 (.fz (nd N))=lD (nd N) from rfl,uZ,RS.bind_ok,oA z,uZ]
 have n:Out (ck (dY 0) cK (a8 "Sorting" "mark_of" bF 2 (ao 1) (aj (af (aa 0)) aC)) ((SJ N).map nd) [Sw,lD (.rf o)] Z []) (fun xs l=>∃a:bA,(∃x,a=[x,lD (.rf o)])/\(∃K,l=Z++K)/\xs=((SJ (0+((SJ N).map nd).length)).map (t8 c St)).map .fz) fun _=>False:=by
  refine iB (fun k ρ l g=>(∃x,ρ=[x,lD (.rf o)])/\(∃K,l=Z++K)/\g=((SJ k).map (t8 c St)).map .fz) _ 0 _ _ _ ⟨⟨Sw,rfl⟩,⟨[],by rw[Tr]⟩,rfl⟩ ?_;rintro i d ρ l g hi ⟨⟨x,rfl⟩,⟨K,rfl⟩,rfl⟩;rw[Ud];have b:=(SD.mp hi).1;rw[Sy,S0] at b;rw[eZ b] at hi;cases hi;have m:∀{j:Nat} {C:Cell},Z[j]? =lD C->(Z++K)[j]? =lD C:=fun{j C} h=>by rw[S1 (SD.mp h).1];exact h
  obtain⟨C,e⟩:=JY (m p) (m y) (m w) b (u i b).2 (u i b).1;refine⟨by rw[Sy,Sy,S0];omega,[-(nd i),lD (.rf o)],rfl,rfl,?_⟩;refine .eq (DF (bj rfl) (m p) rfl (aq (ah (ag rfl)) aM) rfl e) ⟨⟨_,rfl⟩,⟨K++[C],by rw[Tg]⟩,?_⟩;rw[Wu,Tc,Tc];rfl
 obtain⟨xs,l,e,a,_,⟨K,rfl⟩,rfl⟩:=n.all;rw[Ud,Sy,S0] at e;refine⟨K,ig v ?_⟩;have:e9 1 [0] ρ=[Sw,lD (.rf o)]:=by unfold e9;show[Sw]++[(ρ[0]?).join]=_;rw[f];rfl
 rw[this];exact e
end
theorem G0 (c:Nat->Nat) (St:Nat->List Nat) (r:Nat):LD.keyD (t8 c St r)=Sz:=by
 have e:(St r).map (fun s=>nd (c s))=bV ((St r).map c):=by unfold bV;rw[Tj];rfl
 unfold t8;rw[e,LD.keyD];simp only[LD.kd,LD.kds];rw[Dw];refine(Ts _ _).mpr ⟨rfl,decide_eq_true ?_⟩;show max 0 (max (SG.depthAll (bV ((St r).map c))+1) 0)+1<=8;rw[jZ];omega
theorem HK (h:nd a=nd b):a=b:=by
 have:(a:Int)=b:=by injection h
 omega
theorem Au {xs a:List Nat} (h:xs.map (fun s=>nd (c s))=a.map fun s=>nd (c s)):xs.map c=a.map c:=by
 have e:∀l:List Nat,l.map (fun s=>nd (c s))=(l.map c).map nd:=fun l=>by rw[Tj];rfl
 rw[e,e] at h;exact List.map_inj_right (fun _ _=>HK)|>.mp h
section
variable {N:Nat} {St:Nat->List Nat} {c f:Nat->Nat} {Z:bh} {o q t:Nat} {Y:List SV} {sd:D} {ρ:bA} {fa:ef}
theorem Ck:AF c N= .lst (((SJ N).map fun i=>nd (c i)).map .fz):=by unfold AF;rw[Tj];rfl
theorem MS (n:0<N) (h:RG c N) (g:Z[t]? =lD (AF c N)) (ha:fa ρ Z= .ok (.rf t) Z):jT i6 (aj fa aC) ρ Z= .ok (.fz (.int ((Cn c N:Int) - 1))) Z:=by
 have e:(SJ N).map (fun i=>nd (c i))=((SJ N).map fun i=>((c i:Nat):Int)).map SG.int:=by rw[Tj];rfl
 have a:0<((SJ N).map fun i=>((c i:Nat):Int)).length:=by rw[Sy,S0];exact n
 have hm:Ep ((SJ N).map fun i=>((c i:Nat):Int))=(Cn c N:Int) - 1:=by obtain⟨m,l⟩:=we a;obtain⟨i,hi,r⟩:=Tv.mp m;have:=jQ (c:=c) (TL.mp hi);obtain⟨j,b,p,_⟩:=k9 h (k:=Cn c N - 1) N (SU _) (by omega);have:=l (c j:Nat) (Tv.mpr ⟨j,TL.mpr b,rfl⟩);omega
 refine nc (ds:=[.list ((SJ N).map fun i=>nd (c i))]) (aq ha aM) ?_ ?_
 .unfold aI;rw[ez (by rw[g,Ck])];rfl
 .unfold i6;dsimp only;rw[e,L3.iH];dsimp only;rw[if_pos a,hm]
def Rf (q N:Nat) (Z:bh) (x:SV):Prop:=∃t c,x= .rf t/\q<t/\Z[t]? =lD (AF c N)
theorem Jw:∀{Y:List SV},(∀x∈Y,Rf q N Z x)->∃ds,aI (qJ 5 Z) Y=lD ds/\ds.length=Y.length/\SG.canLayAll0 ds=Sz/\SG.depthAll ds<=1
 |[],_=>⟨[],rfl,rfl,rfl,T5 _⟩
 |x::r,h=>by
  obtain⟨ds,p,n,m,u⟩:=Jw fun y g=>h y (S2 _ g);obtain⟨t,c,rfl,_,j⟩:=h x S5;have e:qJ 5 Z (.rf t)=lD (.list (bV ((SJ N).map c))):=by
   unfold qJ;rw[j,Ck];show(aI (qJ 4 Z) (((SJ N).map fun i=>nd (c i)).map .fz)).map SG.list=_;have:∀l:List D,aI (qJ 4 Z) (l.map .fz)=lD l:=fun l=>by
    induction l with
    |nil=>rfl
    |cons a l b=>rw[S6];unfold aI;rw[show qJ 4 Z (.fz a)=lD a from rfl,b]
   rw[this];unfold bV;rw[Tj];rfl
  refine⟨.list (bV ((SJ N).map c))::ds,?_,by rw[S3,S3,n],?_,?_⟩
  .unfold aI;rw[e,p]
  .unfold SG.canLayAll0;rw[m,show SG.canLay0 (.list (bV ((SJ N).map c)))=Sz by unfold SG.canLay0;exact jY _];rfl
  .show max (SG.depthAll (bV ((SJ N).map c))+1) (SG.depthAll ds)<=1;rw[jZ];omega
theorem Ii (g:ρ[0]? =lD (lD (.rf o))) (p:Z[o]? =lD (.obj "Sorting" (zO St N sd q))) (i:Z[q]? =lD (.lst Y)) (l:∀x∈Y,Rf q N Z x):
  bN (lw dC (aV "Sorting" "rounds" (ao 0)) (af (di ay))) ρ Z= .ok Y.isEmpty (Z++[.lst []]):=by
 have e:∀{j:Nat} {C:Cell},Z[j]? =lD C->(Z++[Cell.lst []])[j]? =lD C:=fun{j C} h=>by rw[S1 (SD.mp h).1];exact h
 refine bu (dL (d6 (bj g) p rfl) (eN (by fail "ev")) ?_);show re dC (.rf q) (.rf Z.length) (Z++[Cell.lst []])=_;cases Y with
 |nil=>exact wH (ez (ds:=[]) (e i)) (ez (ds:=[]) aW) rfl
 |cons x r=>
  obtain⟨ds,v,m,u,w⟩:=Jw fun y n=>let⟨t,c,a,b,d⟩:=l y n;⟨t,c,a,b,e d⟩
  obtain⟨t,c,rfl,_,_⟩:=l x S5;refine Pp (dx:= .list ds) (dy:= .list []) (.inl ?_) ?_ ?_ ?_ rfl
  .unfold sh;dsimp only;rw[e i];rfl
  .unfold qJ;rw[e i];dsimp only;rw[v];rfl
  .unfold qJ;rw[aW];rfl
  .cases ds with
   |nil=>rw[S3] at m;cases m
   |cons d ds=>
    unfold dC;rw[if_pos]
    .rfl
    .rw[Mv (by unfold SG.canLay0;exact u) (by show SG.depthAll (d::ds)+1<=64;omega)];rfl
def sq (E:List D) (St:Nat->List Nat) (N:Nat):Nat->Nat->Nat
 |0=>x9 E
 |k+1=>x9 ((SJ N).map (t8 (sq E St N k) St))
theorem BF:((SJ N).map (t8 c St)).length=N:=by rw[Sy,S0]
theorem vi (a:E.length=N):∀k,RG (sq E St N k) N
 |0=>by rw[<-a];exact Hc E
 |k+1=>by have:=Hc ((SJ N).map (t8 (sq E St N k) St));rw[BF] at this;exact this
theorem Fe (hi:i<N) (a:j<N):x9 ((SJ N).map (t8 c St)) i=x9 ((SJ N).map (t8 c St)) j↔t8 c St i=t8 c St j:=
 QU (fun d b=>by obtain⟨i,_,rfl⟩:=Tv.mp b;exact G0 _ _ _) (eZ hi) (eZ a)
theorem DM (b:E.length=N) (h:Cn (sq E St N (k+1)) N<=Cn (sq E St N k) N) (hi:i<N) (a:j<N) (e:sq E St N k i=sq E St N k j):(St i).map (sq E St N k)=(St j).map (sq E St N k):=by
 have g:=J4 (vi b k) (vi b (k+1)) (fun i j hi a z=>by
  have:=(Fe hi a).mp z;injection this with h
  injection h with h1 _
  exact HK h1) h
 have:=(Fe hi a).mp ((g i hi).trans (e.trans (g j a).symm));injection this with h
 injection h with _ h2
 injection h2 with h3 _
 injection h3 with h4
 exact Au h4
def LI (o q N:Nat) (St:Nat->List Nat) (E:List D) (e b a:Option SV) (n:Nat) (ρ:bA) (Z:bh):Prop:=∃Y t,ρ=[lD (.rf o),e,b,a,lD (.rf t)]/\Z[o]? =lD (.obj "Sorting" (zO St N (.list E) q))/\Z[q]? =lD (.lst Y)/\q<t/\Z[t]? =lD (AF (sq E St N n) N)/\(∀x∈Y,Rf q N Z x)/\Y.length=n/\(∀j,j+1<n->Cn (sq E St N j) N<Cn (sq E St N (j+1)) N)/\(n=0/\Y=[]\/∃k rs' t',n=k+1/\Y=rs'++[.rf t']/\Z[t']? =lD (AF (sq E St N k) N)/\k+1<=Cn (sq E St N k) N)
def SE (o q N:Nat) (St:Nat->List Nat) (E:List D) (Z:bh):Prop:=∃Y t k,Z[o]? =lD (.obj "Sorting" (zO St N (.list E) q))/\Z[q]? =lD (.lst (Y++[.rf t]))/\Z[t]? =lD (AF (sq E St N k) N)/\Cn (sq E St N (k+1)) N<=Cn (sq E St N k) N/\∀j,j<k->Cn (sq E St N j) N<Cn (sq E St N (j+1)) N
theorem DL (hN:∀ρ Z',SE o q N St E Z'->Nn ρ Z') (hE:E.length=N) (Q:0<N) (h9:N<=1000) (hs:∀r,r<N->(St r).length<=1000/\∀s∈St r,s<N) (hi:LI o q N St E x1 x2 x3 0 ρ Z):
  kS (qu (Dr (bN (lw dC (aV "Sorting" "rounds" (ao 0)) (af (di ay)))) (bN (lw GC (jT i6 (aj (ao 4) aC)) (jT i6 (aj (g6 (aV "Sorting" "rounds" (ao 0)) (af (EZ tG (~~~1)))) aC))))) (aO (bU (kJ (aV "Sorting" "rounds" (ao 0)) (ao 4)))
 (cY (nk d8 1 (aj (eU 1 [0] (lQ (jT b4 (aj (aV "Sorting" "steps" (ao 0)) aC))) (dY 0) cK (a8 "Sorting" "mark_of" bF 2 (ao 1) (aj (af (aa 0)) aC))) aC)) (dY 4))) ρ Z) Nn T X:=by
 refine zP (LI o q N St E x1 x2 x3) 2000 (by decide) hi ?_;rintro n ρ Z ⟨Y,t,rfl,ho,hq,qt,ht,I,hrl,hup,P⟩;have O:=vi (St:=St) hE n;have Xj:sq E St N (n+1)=x9 ((SJ N).map (t8 (sq E St N n) St)):=rfl;generalize hfn:sq E St N n=f at ht O Xj;have l:∀{j:Nat} {C:Cell},Z[j]? =lD C->(Z++[Cell.lst []])[j]? =lD C:=fun{j C} h=>by rw[S1 (SD.mp h).1];exact h
 have R:=Ii (ρ:=[lD (.rf o),x1,x2,x3,lD (.rf t)]) rfl ho hq I;have fp:1<=Cn f N:=by have:=jQ (c:=f) Q;omega
 have fN:=Ap O N (SU _)
 have u:n+1<=Cn f N->(∀j,j+1<n+1->Cn (sq E St N j) N<Cn (sq E St N (j+1)) N)->kS (aO (bU (kJ (aV "Sorting" "rounds" (ao 0)) (ao 4)))
   (cY (nk d8 1 (aj (eU 1 [0] (lQ (jT b4 (aj (aV "Sorting" "steps" (ao 0)) aC))) (dY 0) cK (a8 "Sorting" "mark_of" bF 2 (ao 1) (aj (af (aa 0)) aC))) aC)) (dY 4)) [lD (.rf o),x1,x2,x3,lD (.rf t)] (Z++[.lst []])) (LI o q N St E x1 x2 x3 (n+1)) T X:=fun M S=>by
  replace ho:=l ho;replace hq:=l hq;replace ht:=l ht;have I:∀x∈Y,Rf q N (Z++[.lst []]) x:=fun y hy=>let⟨t,c,a,b,d⟩:=I y hy;⟨t,c,a,b,l d⟩
  generalize Z++[Cell.lst []]=Z at ho hq ht I;have U:=(SD.mp hq).1;have oq:q≠o:=fun z=>by rw[z,ho] at hq;cases hq
  have rl:Y.length<1000000:=by omega
  refine uV (jm (wA (d6 (bj rfl) ho rfl) hq (bj rfl) hq rl)) ?_;have ne:∀{j:Nat} {C C':Cell},q≠j->Z[j]? =lD C->(Z.set q C')[j]? =lD C:=fun h e=>by rw[TY h];exact e
  have B:=ne (C':= .lst (Y++[.rf t])) oq ho;have A:(Z.set q (.lst (Y++[.rf t])))[q]? =lD (.lst (Y++[.rf t])):=T6 U;have p:=ne (C':= .lst (Y++[.rf t])) (Th qt) ht;have H:∀x∈Y++[.rf t],Rf q N (Z.set q (.lst (Y++[.rf t]))) x:=fun x w=>by
   rcases TZ.mp w with w|w
   .obtain⟨F,c,a,b,d⟩:=I x w;exact⟨F,c,a,b,ne (Th b) d⟩
   .rw[Td.mp w];exact⟨t,f,rfl,qt,p⟩
  have L:q<(Z.set q (.lst (Y++[.rf t]))).length:=by rw[Ug];exact U
  generalize Z.set q (.lst (Y++[.rf t]))=Z1 at B A p H L;obtain⟨K,cm⟩:=Iw (ρ:=[lD (.rf o),x1,x2,x3,lD (.rf t)]) B A p hs h9 rfl;have ml:((SJ N).map (t8 f St)).length=N:=BF;have nb:=qS (by
   have g:(Z1++K++[Cell.lst (((SJ N).map (t8 f St)).map .fz)]++[Cell.dd []])[(Z1++K).length]? =lD (.lst (((SJ N).map (t8 f St)).map .fz)):=by rw[S1 (by rw[SH (bs:=[_])];show _<_+1;omega)];exact aW
   rw[j8 g,List.set_append_left _ _ (by rw[SH (bs:=[_])];show _<_+1;omega),gj]) (by rw[SH,SH (bs:=[_])];rfl) (fun d hd=>by obtain⟨i,_,rfl⟩:=Tv.mp hd;exact G0 _ _ _) (by rw[ml];exact h9)
  generalize hZ2:Z1++K++[Cell.lst (((SJ N).map (t8 f St)).map .fz)]=Z2 at cm nb;have l2:Z2.length=(Z1++K++[Cell.dead]).length:=by rw[<-hZ2,SH (bs:=[_]),SH (bs:=[_])];rfl
  refine AI (lG (rH (aq cm aM) rfl nb) rfl) ?_;have m:∀{j:Nat} {C:Cell},Z1[j]? =lD C->(Z1++K++[Cell.dead]++[Cell.dd (eA 0 (gw ((SJ N).map (t8 f St)))),.lst ((PN ((SJ N).map (t8 f St))).map fun c=> .fz (nd c))])[j]? =lD C:=fun{j C} h=>by rw[Tg,Tg,S1 (SD.mp h).1];exact h
  have cl:(Z1++K++[Cell.dead]++[Cell.dd (eA 0 (gw ((SJ N).map (t8 f St)))),.lst ((PN ((SJ N).map (t8 f St))).map fun c=> .fz (nd c))])[Z2.length+1]? =lD (AF (x9 ((SJ N).map (t8 f St))) N):=by rw[l2,mL (t:=1)];show lD (Cell.lst _)=_;unfold AF PN;rw[ml,Tj];rfl
  rw[<-Xj] at cl;refine⟨Y++[.rf t],_,rfl,m B,m A,?_,cl,fun x w=> ?_,by rw[SH,hrl];rfl,S,.inr ⟨n,Y,t,rfl,rfl,by rw[hfn];exact m p,by rw[hfn];exact M⟩⟩
  .rw[l2,SH,SH];omega
  .obtain⟨F,c,a,b,d⟩:=H x w;exact⟨F,c,a,b,m d⟩
 rcases P with⟨rfl,rfl⟩|⟨k,v,F,rfl,rfl,G,hnc⟩
 .exact .inr ⟨by decide,_,oZ R,u fp fun j hj=>by omega⟩
 .have ie:(v++[SV.rf F]).isEmpty=SN:=by cases v<;>rfl
  have P:=vi (St:=St) hE k;rw[ie] at R;have m1:=MS (fa:=ao 4) (ρ:=[lD (.rf o),x1,x2,x3,lD (.rf t)]) Q O (l ht) (bj rfl);have m2:=MS (fa:=g6 (aV "Sorting" "rounds" (ao 0)) (af (EZ tG (~~~1)))) (ρ:=[lD (.rf o),x1,x2,x3,lD (.rf t)]) Q P (l G) (t6 (n:= -1) (d6 (bj rfl) (l ho) rfl) (ah (d:= .int (-1)) (Cc (rv:= .fz (.int (-1))) aL rfl rfl)) rfl (l hq) (sR _ _));have J:=lH R (bu (dL m1 m2 (cJ (CF _ _))));by_cases g:Cn (sq E St N k) N<Cn f N
  .rw[decide_eq_true (by omega)] at J
   refine .inr ⟨by omega,_,J,u (by omega) fun j hj=> ?_⟩;by_cases e:j=k
   .subst e;rw[hfn];exact g
   .exact hup j (by omega)
  .rw[decide_eq_false (by omega)] at J;exact .inl ⟨_,J,hN _ _ ⟨v,F,k,l ho,l hq,l G,by rw[hfn];omega,fun j hj=>hup j (by omega)⟩⟩
end
def jE (b:Bd) (es:List Xk) (a:Nat):List Nat:=match(cC b es a)[a]? with
 |some r=>es.map fun e=>fR (cC b es (a+1)) (aQ b r.s e).1
 |none=>[]
theorem Fh (fs:List Rm) (s:Vt) (x y:D):(nI fs s x y).length=max fs.length (fR fs s+1)/\fR fs s<=fs.length:=by
 unfold nI fR;cases q:eB (fs.map kK) (eE s) with
 |none=>rw[if_neg (by intro z;cases z),SH];show fs.length+1=max fs.length (fs.length+1)/\fs.length<=fs.length;omega
 |some t=>obtain⟨z,a,_⟩:=tO q;have:=(SD.mp a).1;rw[Sy] at this;rw[if_pos (show(lD t).isSome=Sz from rfl)];show fs.length=max fs.length (t+1)/\t<=fs.length;omega
theorem zN (a:VB b) (h:SW b s):∀(es:List Xk) (fs G:List Rm),(∀e∈es,EV b e)->gq b s r fs es=G->Lq fs.length (es.map fun e=>fR G (aQ b s e).1)/\vA fs.length (es.map fun e=>fR G (aQ b s e).1)=G.length
 |[],fs,G,_,e=>by cases e;exact⟨True.intro,rfl⟩
 |e::es,fs,G,he,eG=>by have i:=wX a h (he e S5);obtain⟨g,f⟩:=zN a h es (nI fs (aQ b s e).1 (nd r) (gv e)) G (fun x m=>he x (S2 _ m)) eG;have n:fR G (aQ b s e).1=fR fs (aQ b s e).1:=De (by rw[<-eG];exact rT es _) (BZ i _ _);obtain⟨l,j⟩:=Fh fs (aQ b s e).1 (nd r) (gv e);rw[l] at g f;rw[S6,n];exact⟨⟨j,g⟩,f⟩
theorem jK (g:VB b) (i:∀e∈es,EV b e) (j:(cC b es N).length=N) (ha:a<N):a<(cC b es a).length/\(cC b es (a+1)).length<=N/\Lq (cC b es a).length (jE b es a)/\vA (cC b es a).length (jE b es a)=(cC b es (a+1)).length:=by
 have lt:a<(cC b es a).length:=by
  rcases aeX a (cC b es a).length with h|h
  .exact h
  .have:=pS h N;omega
 have le:=pS (V6 j) (a+1);have f:=SM lt;obtain⟨m,l⟩:=zN g (nz g i a _ (Vc lt)) es _ _ i (wJ f).symm;refine⟨lt,by omega,?_⟩;unfold jE;rw[f];exact⟨m,l⟩
theorem FY (f:VB b) (i:∀e∈es,EV b e) (h:es.length<=1000) (j:(cC b es N).length=N) (ha:a<N):(jE b es a).length<=1000/\∀s∈jE b es a,s<N:=by
 obtain⟨_,n,_,l⟩:=jK f i j ha;constructor
 .unfold jE
  split
  .rw[Sy];exact h
  .exact T5 _
 .intro s g;have:=(yJ (m:=(cC b es a).length) (jE b es a)).2 s g;omega
theorem zC (f:VB b) (g:∀e∈es,EV b e) (h:(cC b es N).length=N):iG b es N=(SJ N).map (EH (jE b es)):=by refine Uz fun a ha=> ?_;obtain⟨lt,_⟩:=jK f g h (TL.mp ha);unfold Fm EH jE;rw[SM lt];rw[Tj];rfl
theorem Qo (h:q.1<26):LD.kd (jc q)=Sz:=by
 unfold jc;simp only[LD.kd,LD.kds];rw[nX h];cases q.2
 .rw[if_neg S9,show SG.strOk "up"=Sz by left];rfl
 .rw[if_pos rfl,show SG.strOk "down"=Sz by left];rfl
theorem Oe (g:VB b) (i:∀e∈es,EV b e) (o:(cC b es N).length=N):∀d∈bX b es N,LD.keyD d=Sz:=fun d n=>by
 obtain⟨a,ha,rfl⟩:=Tv.mp n;obtain⟨lt,_⟩:=jK g i o (TL.mp ha);have j:=nz g i a _ (Vc lt);unfold zy;rw[SM lt];rw[LD.keyD];refine(Ts _ _).mpr ⟨oH fun e h=> ?_,decide_eq_true ?_⟩
 .rw[LD.kd];exact oH fun q m=>Qo (BX g j (i e h) q m)
 .show SG.depthAll (es.map fun e=>SG.tuple ((aQ b (cC b es a)[a].s e).2.map jc))+1<=8
  have:=jn (f:=fun e=>SG.tuple ((aQ b (cC b es a)[a].s e).2.map jc)) (l:=es) fun e _=>by show SG.depthAll ((aQ b (cC b es a)[a].s e).2.map jc)+1<=2;have:=jn (l:=(aQ b (cC b es a)[a].s e).2) fun q _=>BQ q;omega
  omega
theorem Ih (m:Nat) (h:Z[i]? =lD (.lst (ds.map .fz))):frz (m+1) Z (.rf i)=lD (.list ds,Z.set i .dead):=by unfold frz;rw[h];dsimp only;rw[rK]
theorem Gi:frz 4 (base++(A:: .lst (F.map .fz)::C:: .lst (S.map .fz):: .lst (E.map .fz)::J)) (.tp [.rf (base.length+1),.rf (base.length+3),.rf (base.length+4)])=lD (.tuple [.list F,.list S,.list E],base++(A:: .dead::C:: .dead:: .dead::J)):=by
 have e:=Ih (Z:=base++(A:: .lst (F.map .fz)::C:: .lst (S.map .fz):: .lst (E.map .fz)::J)) 2 (mL (t:=1));rw[rY] at e;have b:=Ih (Z:=base++(A:: .dead::C:: .lst (S.map .fz):: .lst (E.map .fz)::J)) 2 (mL (t:=3));rw[rY] at b;have a:=Ih (Z:=base++(A:: .dead::C:: .dead:: .lst (E.map .fz)::J)) 2 (mL (t:=4));rw[rY] at a;show(match km (frz 3) _ [.rf (base.length+1),.rf (base.length+3),.rf (base.length+4)] with|some (ds,Z1)=>lD (SG.tuple ds,Z1)|none=>Sw)=_;have f:km (frz 3) (base++(A:: .lst (F.map .fz)::C:: .lst (S.map .fz):: .lst (E.map .fz)::J)) [.rf (base.length+1),.rf (base.length+3),.rf (base.length+4)]=lD ([.list F,.list S,.list E],base++(A:: .dead::C:: .dead:: .dead::J)):=by unfold km;rw[e];dsimp only;unfold km;rw[show aja (A::Cell.lst (F.map .fz)::C::Cell.lst (S.map .fz)::Cell.lst (E.map .fz)::J) 1 Cell.dead=A:: .dead::C:: .lst (S.map .fz):: .lst (E.map .fz)::J from rfl,b];dsimp only;unfold km;rw[show aja (A::Cell.dead::C::Cell.lst (S.map .fz)::Cell.lst (E.map .fz)::J) 3 Cell.dead=A:: .dead::C:: .dead:: .lst (E.map .fz)::J from rfl,a];rfl
 rw[f]
theorem DG {St:Nat->List Nat} (z:∀ρ Z',(∃q,SE o q N St E Z')->Nn ρ Z') (i:Z[o]? =lD (.obj "Sorting" [])) (B:0<N) (A:N<=1000) (w:∀r,r<N->(St r).length<=1000/\∀s∈St r,s<N) (G:∀d∈E,LD.keyD d=Sz) (t:E.length=N):
  kS ((aO (eS "Sorting" "steps" (ao 0) (af (aN bw (aa 3) (~~~1))))
 (aO (eS "Sorting" "sends" (ao 0) (af (aN bw (aa 3) (~~~2))))
 (aO (eS "Sorting" "rounds" (ao 0) (af (di ay)))
 (aO (cY (nk d8 1 (aj (aV "Sorting" "sends" (ao 0)) aC)) (dY 4))
 (qu (Dr (bN (lw dC (aV "Sorting" "rounds" (ao 0)) (af (di ay)))) (bN (lw GC (jT i6 (aj (ao 4) aC)) (jT i6 (aj (g6 (aV "Sorting" "rounds" (ao 0)) (af (EZ tG (~~~1)))) aC))))) (aO (bU (kJ (aV "Sorting" "rounds" (ao 0)) (ao 4)))
 (cY (nk d8 1 (aj (eU 1 [0] (lQ (jT b4 (aj (aV "Sorting" "steps" (ao 0)) aC))) (dY 0) cK (a8 "Sorting" "mark_of" bF 2 (ao 1) (aj (af (aa 0)) aC))) aC)) (dY 4)))))))) [lD (.rf o),-(bd),-(.int m),-(.tuple [F,.list ((SJ N).map (EH St)),.list E]),Sw] Z) Nn T X:=by
 have f:=(SD.mp i).1;refine uV (jX (ah (aK (ag rfl) aL rfl rfl kP)) (bj rfl) i (by decide)) ?_;have e:(Z.set o (.obj "Sorting" (eF "steps" (.fz (.list ((SJ N).map (EH St)))) [])))[o]? =lD (.obj "Sorting" [("steps",.fz (.list ((SJ N).map (EH St))))]):=T6 f;generalize Z.set o (.obj "Sorting" (eF "steps" (.fz (.list ((SJ N).map (EH St)))) []))=Z at e⊢;have f:=(SD.mp e).1;refine uV (jX (ah (aK (ag rfl) aL rfl rfl sO)) (bj rfl) e (SR rfl)) ?_;have b:(Z.set o (.obj "Sorting" (eF "sends" (.fz (.list E)) [("steps",.fz (.list ((SJ N).map (EH St))))])))[o]? =lD (.obj "Sorting" [("steps",.fz (.list ((SJ N).map (EH St)))),("sends",.fz (.list E))]):=T6 f;generalize Z.set o (.obj "Sorting" (eF "sends" (.fz (.list E)) [("steps",.fz (.list ((SJ N).map (EH St))))]))=Z at b⊢;have f:=(SD.mp b).1;have n:(Z++[Cell.lst []])[o]? =lD (.obj "Sorting" [("steps",.fz (.list ((SJ N).map (EH St)))),("sends",.fz (.list E))]):=by rw[S1 f];exact b
 refine uV (jX (eN (ds:=[]) (by fail "ev")) (bj rfl) n (SR rfl)) ?_;show kS (aO _ _ _ ((Z++[Cell.lst []]).set o (.obj "Sorting" (zO St N (.list E) Z.length)))) _ _ _;have a:((Z++[Cell.lst []]).set o (.obj "Sorting" (zO St N (.list E) Z.length)))[o]? =lD (.obj "Sorting" (zO St N (.list E) Z.length)):=T6 (by rw[SH];omega);have l:((Z++[Cell.lst []]).set o (.obj "Sorting" (zO St N (.list E) Z.length)))[Z.length]? =lD (.lst []):=by rw[TY (by omega)];exact aW
 have p:Z.length<((Z++[Cell.lst []]).set o (.obj "Sorting" (zO St N (.list E) Z.length))).length:=by rw[Ug,SH];show _<_+1;omega
 generalize (Z++[Cell.lst []]).set o (.obj "Sorting" (zO St N (.list E) Z.length))=Z1 at a l p⊢;generalize Z.length=q at a l p;have u:=qS (x:= .fz (.list E)) (Z1:=Z1) rfl rfl G (by omega);refine uV (lG (rH (aq (d6 (bj rfl) a rfl) aM) rfl u) rfl) ?_;have g:∀{j:Nat} {C:Cell},Z1[j]? =lD C->(Z1++[Cell.dd (eA 0 (gw E)),.lst ((PN E).map fun c=> .fz (nd c))])[j]? =lD C:=fun{j C} h=>by rw[S1 (SD.mp h).1];exact h
 refine DL (fun ρ Z' h=>z ρ Z' ⟨q,h⟩) t B A w ⟨[],Z1.length+1,rfl,g a,g l,by omega,?_,(fun x v=>nomatch v),rfl,(fun j y=>absurd y (ac8 _)),.inl ⟨rfl,rfl⟩⟩;rw[mL];unfold AF PN sq;rw[t,Tj];rfl
theorem Hu (e:VB b) {n:Nat} (hn:b.n=n) (H:n<=5) (z:0<=m) (y:m<=1000) (p:Z0[o]? =lD (.obj "Sorting" [])):Out (cQ [.rf o,.fz (bD b),.fz (.int m)] Z0) (fun v Z'=>v= .fz .none/\∃N q,(cC b (cL n) N).length=N/\(N:Int)<=m/\SE o q N (jE b (cL n)) (bX b (cL n) N) Z') (fun x=>x=TM m/\∃i,m<((cC b (cL n) i).length:Int)):=by
 have j:(cL n).length<=1000:=by unfold cL;rw[SH,SH,Sy,Sy,S0];show n+n+1<=_;omega
 have a:=wO hn;refine sG rfl ?_;refine wz ?_;have L:=zc (F:=gO) (es:=[]) (fa:=aj (af (aa 1)) (aj (af (aa 2)) aC)) (ρ:=[lD (.rf o),-(bD b),-(.int m),Sw,Sw]) (Z:=Z0) (aq (ah (ag rfl)) (aq (ah (ag rfl)) aM)) rfl;refine Out.bind (.eq L ((tS e hn H z y Z0).imp fun v Z' B=> ?_));obtain⟨N,J,g,I,rfl,rfl⟩:=B;have t:=Gi (base:=Z0++[.dead]) (A:= .obj "Places" (pF m ((Z0++[Cell.dead]).length+1) ((Z0++[Cell.dead]).length+2))) (C:= .dd (eA 0 ((cC b (cL n) N).map kK))) (F:=((cC b (cL n) N).map kK).map Da) (S:=iG b (cL n) N) (E:=bX b (cL n) N) (J:=J);have M:(Z0++[Cell.dead]).length=Z0.length+1:=by rw[SH];rfl
 rw[zC e a g] at t;refine .eq (r':=RS.ok (SV.fz (.tuple [.list (((cC b (cL n) N).map kK).map Da),.list ((SJ N).map (EH (jE b (cL n)))),.list (bX b (cL n) N)])) (Z0++[Cell.dead]++(.obj "Places" (pF m ((Z0++[Cell.dead]).length+1) ((Z0++[Cell.dead]).length+2)):: .dead:: .dd (eA 0 ((cC b (cL n) N).map kK)):: .dead:: .dead::J))) ?_ ⟨?_⟩
 .unfold Ko uz mQ;rw[zC e a g,show Z0.length+2=(Z0++[Cell.dead]).length+1 by omega,show Z0.length+4=(Z0++[Cell.dead]).length+3 by omega,show Z0.length+5=(Z0++[Cell.dead]).length+4 by omega,t]
 have K:0<N:=by have:=wP b (cL n) N;omega
 have f:(Z0++[Cell.dead]++(.obj "Places" (pF m ((Z0++[Cell.dead]).length+1) ((Z0++[Cell.dead]).length+2)):: .dead:: .dd (eA 0 ((cC b (cL n) N).map kK)):: .dead:: .dead::J))[o]? =lD (.obj "Sorting" []):=by rw[Tg,S1 (SD.mp p).1];exact p
 generalize Z0++[Cell.dead]++(Cell.obj "Places" (pF m ((Z0++[Cell.dead]).length+1) ((Z0++[Cell.dead]).length+2)):: .dead:: .dd (eA 0 ((cC b (cL n) N).map kK)):: .dead:: .dead::J)=Z at f;have l:∀r,r<N->(jE b (cL n) r).length<=1000/\∀s∈jE b (cL n) r,s<N:=fun r G=>FY e a j g G;have w:=Oe e a g;have u:(bX b (cL n) N).length=N:=by unfold bX;rw[Sy,S0]
 generalize jE b (cL n)=St at l⊢;generalize hE:bX b (cL n) N=E at w u⊢;generalize ((cC b (cL n) N).map kK).map Da=F;generalize bD b=bd;exact DG (fun ρ Z' h=>⟨rfl,N,let⟨q,hq⟩:=h;⟨q,g,I,by rw[hE];exact hq⟩⟩) f K (by omega) l w u
section
variable {N:Nat} {St:Nat->List Nat} {c:Nat->Nat} {E:List D} {Z:bh} {o q t:Nat}
def kL (c:Nat->Nat) (N:Nat):List Int:=(SJ N).map fun i=>((c i:Nat):Int)
def jA (c:Nat->Nat) (N k:Nat):Nat:=(uw (k:Int) (kL c N)).getD 0
theorem uY:∀{ns:List Int},k∈ns->∃j,uw k ns=lD j
 |n::r,h=>by
  unfold uw;by_cases e:n=k
  .exact⟨0,if_pos e⟩
  .rw[if_neg e];obtain⟨j,a⟩:=uY ((Tq.mp h).resolve_left fun z=>e z.symm);exact⟨j+1,by rw[a];rfl⟩
theorem ug (n:RG c N) (m:k<Cn c N):uw (k:Int) (kL c N)=lD (jA c N k)/\jA c N k<N/\c (jA c N k)=k/\Cn c (jA c N k)=k:=by
 obtain⟨i,h,g,p⟩:=k9 n N (SU _) m;obtain⟨j,b⟩:=uY (ns:=kL c N) (Tv.mpr ⟨i,TL.mpr h,by rw[g]⟩);have e:jA c N k=j:=by unfold jA;rw[b];rfl
 rw[e];obtain⟨a,u⟩:=xm b;have f:j<N:=by have:=(SD.mp a).1;unfold kL at this;rw[Sy,S0] at this;exact this
 unfold kL at a;rw[eZ f] at a;have r:c j=k:=by have:=S7 a;omega
 have l:i=j:=by
  rcases YZ i j with z|z|z
  .refine absurd ?_ (u i z);unfold kL;rw[eZ h,g]
  .exact z
  .have:=jQ (c:=c) z;omega
 exact⟨b,f,r,by rw[<-l];exact p⟩
def J7 (St:Nat->List Nat) (c:Nat->Nat) (N k:Nat):D:= .tuple ((St (jA c N k)).map fun s=>nd (c s))
def JB (E:List D) (c:Nat->Nat) (N k:Nat):D:=(E[jA c N k]?).getD .none
def Oi (St:Nat->List Nat) (E:List D) (c:Nat->Nat) (N:Nat):D:= .tuple [.tuple ((SJ (Cn c N)).map (J7 St c N)),.tuple ((SJ (Cn c N)).map (JB E c N))]
theorem Ee (r:0<N) (y:N<=400) (e:RG c N):dX 1 [3] (n9 ip {aN d5 (fq L10.i6 {aa 3}) (~~~1)}) (gN 0) cV (L10.E4 1 (aa 0)) [a,b,s,-(.list ((kL c N).map .int)),Sw,x5]= .ok (.ow ((SJ (Cn c N)).map fun k=>nd (jA c N k)),[a,b,s,-(.list ((kL c N).map .int)),Sw,x5]):=by
 have f:0<(kL c N).length:=by unfold kL;rw[Sy,S0];exact r
 have B:=Ap e N (SU _);have hm:Ep (kL c N)=(Cn c N:Int) - 1:=by obtain⟨p,n⟩:=we f;obtain⟨i,hi,A⟩:=Tv.mp p;have:=jQ (c:=c) (TL.mp hi);obtain⟨j,h,w,_⟩:=k9 e (k:=Cn c N - 1) N (SU _) (by omega);have:=n (c j:Nat) (Tv.mpr ⟨j,TL.mpr h,rfl⟩);omega
 have g:L10.i6 [.list ((kL c N).map .int)]=-(.int ((Cn c N:Int) - 1)):=by unfold i6;dsimp only;rw[L3.iH];dsimp only;rw[if_pos f,hm]
 have v:d5 (.int ((Cn c N:Int) - 1)) (.int 1)=-(nd (Cn c N)):=by rw[gz,show(Cn c N:Int) - 1+1=(Cn c N:Int) by omega]
 refine ei (xQ (am (aK (cD (am (ag rfl) aG) rfl g) aL rfl rfl v) aG) rfl (oA (by omega))) rfl ?_;refine gH nd (fun k=>nd (jA c N k)) (SJ (Cn c N)) (by rw[S0];omega) rfl fun k m=> ?_;obtain⟨u,z,_⟩:=ug e (TL.mp m);have l:IB ((kL c N).map .int) (nd k)=lD (jA c N k):=by unfold IB;rw[L3.iH];show(match uw (k:Int) (kL c N) with|some j=>if j<1000 then lD j else Sw|none=>Sw)=_;rw[u];exact if_pos (by omega)
 show Hm (aa 0) [-(nd k),-(.list ((kL c N).map .int))] (lD (-(.list ((kL c N).map .int))))=_;unfold Hm;rw[show aa 0 [lD (PV.fz (nd k)),-(.list ((kL c N).map .int))]= .ok (.fz (nd k),[-(nd k),-(.list ((kL c N).map .int))]) from ag rfl];show((Res.TX (IB ((kL c N).map .int) (nd k))).bind fun j=>Res.ok (PV.fz (nd j),[lD (PV.fz (nd k)),-(.list ((kL c N).map .int))]))=_;rw[l];rfl
theorem EX (p:RG c N) (I:N<=400) (z:∀r,r<N->(St r).length<=1000/\∀s∈St r,s<N) (m:Z[o]? =lD (.obj "Sorting" (zO St N (.list E) q))) (C:ρ[2]? =lD (lD (.rf o))) (B:ρ[3]? =lD (-(.list ((kL c N).map .int)))) (A:(bQ ρ)[4]? =lD (-(.list ((SJ (Cn c N)).map fun k=>nd (jA c N k))))):
  ∃K,jT fU (aj (eU 1 [2,3] (fM (fu (aa 4))) (dY 0) cK (jT fU (aj (eU 1 [2] (fQ (g6 (aV "Sorting" "steps" (ao 1)) (af (aa 0)))) (dY 0) cK (af (aN bw (aa 1) (aa 0)))) aC))) aC) ρ Z= .ok (.fz (.tuple ((SJ (Cn c N)).map (J7 St c N)))) (Z++K):=by
 have y:fM (fu (aa 4)) ρ Z= .ok ((SJ (Cn c N)).map fun k=>nd (jA c N k)) Z:=iE (eX (ag A) rfl rfl);have J:=Ap p N (SU _);have g:Out (ck (dY 0) cK (jT fU (aj (eU 1 [2] (fQ (g6 (aV "Sorting" "steps" (ao 1)) (af (aa 0)))) (dY 0) cK (af (aN bw (aa 1) (aa 0)))) aC)) ((SJ (Cn c N)).map fun k=>nd (jA c N k)) [Sw,lD (.rf o),-(.list ((kL c N).map .int))] Z []) (fun xs f=>∃a:bA,(∃x,a=[x,lD (.rf o),-(.list ((kL c N).map .int))])/\(∃K,f=Z++K)/\xs=((SJ (0+((SJ (Cn c N)).map fun k=>nd (jA c N k)).length)).map (J7 St c N)).map .fz) fun _=>False:=by
  refine iB (fun k ρ f b=>(∃x,ρ=[x,lD (.rf o),-(.list ((kL c N).map .int))])/\(∃K,f=Z++K)/\b=((SJ k).map (J7 St c N)).map .fz) _ 0 _ _ _ ⟨⟨Sw,rfl⟩,⟨[],by rw[Tr]⟩,rfl⟩ ?_;rintro i d ρ f b hi ⟨⟨x,rfl⟩,⟨K,rfl⟩,rfl⟩;rw[Ud];have h:=(SD.mp hi).1;rw[Sy,S0] at h;rw[eZ h] at hi;cases hi;obtain⟨_,u,_⟩:=ug p h;obtain⟨H,v⟩:=z _ u;have l:(Z++K)[o]? =lD (.obj "Sorting" (zO St N (.list E) q)):=by rw[S1 (SD.mp m).1];exact m
  refine⟨by rw[Sy,Sy,S0];omega,[-(nd (jA c N i)),lD (.rf o),-(.list ((kL c N).map .int))],rfl,rfl,?_⟩;have w:fQ (g6 (aV "Sorting" "steps" (ao 1)) (af (aa 0))) [-(nd (jA c N i)),lD (.rf o),-(.list ((kL c N).map .int))] (Z++K)= .ok ((St (jA c N i)).map nd) (Z++K):=by unfold fQ;rw[cG (d6 (bj rfl) l rfl) (ah (ag rfl)) (yc (eZ u)),RS.bind_ok];rfl
  have cm:ck (dY 0) cK (af (aN bw (aa 1) (aa 0))) ((St (jA c N i)).map nd) [Sw,-(.list ((kL c N).map .int))] (Z++K) []= .ok ([]++(St (jA c N i)).map fun s=>SV.fz (nd (c s))) (Z++K):=by refine iz nd (fun s=>SV.fz (nd (c s))) (Z++K) (fun ρ=>∃x,ρ=[x,-(.list ((kL c N).map .int))]) (St (jA c N i)) _ [] ⟨_,rfl⟩ (by show 0+_<=_;omega) ?_;rintro s j ρ ⟨x,rfl⟩;refine⟨[-(nd s),-(.list ((kL c N).map .int))],rfl,rfl,ah (aK (ag rfl) (ag rfl) rfl rfl (yc ?_)),_,rfl⟩;unfold kL;rw[Tj];exact eZ (v s j)
  rw[VS] at cm;have G:=ig (n:=1) (fj:=[2]) w cm;refine .eq (nc (ds:=[.list ((St (jA c N i)).map fun s=>nd (c s))]) (aq G aM) ?_ rfl) ⟨⟨_,rfl⟩,⟨K++[_],Tg _ _ _⟩,?_⟩
  .have:sh (Z++K++[.lst ((St (jA c N i)).map fun s=>SV.fz (nd (c s)))]) (.rf (Z++K).length)=lD (.list ((St (jA c N i)).map fun s=>nd (c s))):=ez (by rw[Tj];exact aW);unfold aI;rw[this];rfl
  .rw[Wu,Tc,Tc];rfl
 obtain⟨xs,f,e,a,_,⟨K,rfl⟩,rfl⟩:=g.all;rw[Ud,Sy,S0] at e;have F:e9 1 [2,3] ρ=[Sw,lD (.rf o),-(.list ((kL c N).map .int))]:=by unfold e9;show[Sw]++[(ρ[2]?).join,(ρ[3]?).join]=_;rw[C,B];rfl
 rw[<-F] at e;refine⟨K++[_],(nc (ds:=[.list ((SJ (Cn c N)).map (J7 St c N))]) (aq (ig y e) aM) ?_ rfl).trans (by rw[Tg])⟩;have:sh (Z++K++[.lst (((SJ (Cn c N)).map (J7 St c N)).map .fz)]) (.rf (Z++K).length)=lD (.list ((SJ (Cn c N)).map (J7 St c N))):=ez aW;unfold aI;rw[this];rfl
theorem DK (a:RG c N) (l:N<=400) (j:E.length=N) (e:Z[o]? =lD (.obj "Sorting" (zO St N (.list E) q))) (h:ρ[2]? =lD (lD (.rf o))) (g:(bQ ρ)[4]? =lD (-(.list ((SJ (Cn c N)).map fun k=>nd (jA c N k))))):
  ∃K,jT fU (aj (eU 1 [2] (fM (fu (aa 4))) (dY 0) cK (g6 (aV "Sorting" "sends" (ao 1)) (af (aa 0)))) aC) ρ Z= .ok (.fz (.tuple ((SJ (Cn c N)).map (JB E c N)))) (Z++K):=by
 have b:fM (fu (aa 4)) ρ Z= .ok ((SJ (Cn c N)).map fun k=>nd (jA c N k)) Z:=iE (eX (ag g) rfl rfl);have n:=Ap a N (SU _);have cm:ck (dY 0) cK (g6 (aV "Sorting" "sends" (ao 1)) (af (aa 0))) ((SJ (Cn c N)).map fun k=>nd (jA c N k)) [Sw,lD (.rf o)] Z []= .ok ([]++(SJ (Cn c N)).map fun k=>SV.fz (JB E c N k)) Z:=by refine iz (fun k=>nd (jA c N k)) (fun k=>SV.fz (JB E c N k)) Z (fun ρ=>∃x,ρ=[x,lD (.rf o)]) (SJ (Cn c N)) _ [] ⟨_,rfl⟩ (by show 0+_<=_;rw[S0];omega) ?_;rintro k f ρ ⟨x,rfl⟩;obtain⟨_,m,_⟩:=ug a (TL.mp f);refine⟨[-(nd (jA c N k)),lD (.rf o)],rfl,rfl,cG (d6 (bj rfl) e rfl) (ah (ag rfl)) (yc ?_),_,rfl⟩;unfold JB;rw[SM (by omega)];rfl
 rw[VS] at cm;have i:e9 1 [2] ρ=[Sw,lD (.rf o)]:=by unfold e9;show[Sw]++[(ρ[2]?).join]=_;rw[h];rfl
 rw[<-i] at cm;refine⟨[_],nc (ds:=[.list ((SJ (Cn c N)).map (JB E c N))]) (aq (ig b cm) aM) ?_ rfl⟩;have:sh (Z++[.lst ((SJ (Cn c N)).map fun k=>SV.fz (JB E c N k))]) (.rf Z.length)=lD (.list ((SJ (Cn c N)).map (JB E c N))):=ez (by rw[Tj];exact aW);unfold aI;rw[this];rfl
end
theorem K0:AF c N= .lst (((kL c N).map SG.int).map .fz):=by unfold AF kL;rw[Tj,Tj];rfl
def P9 (E:List D) (St:Nat->List Nat) (N k:Nat):Prop:=Cn (sq E St N (k+1)) N<=Cn (sq E St N k) N/\∀j,j<k->Cn (sq E St N j) N<Cn (sq E St N (j+1)) N
theorem Lr {St:Nat->List Nat} (h:P9 E St N k) (h':P9 E St N k'):k=k':=by
 rcases YZ k k' with q|q|q
 .have:=h'.2 k q;have:=h.1;omega
 .exact q
 .have:=h.2 k' q;have:=h'.1;omega
theorem yp (B:VB b) {n:Nat} (hn:b.n=n) (R:n<=5) (L:0<=m) (m4:m<=400) (A:bh):Out (eD [.fz (bD b),.fz (.int m)] A) (fun v _=>∃N k,(cC b (cL n) N).length=N/\(N:Int)<=m/\P9 (bX b (cL n) N) (jE b (cL n)) N k/\v= .fz (Oi (jE b (cL n)) (bX b (cL n) N) (sq (bX b (cL n) N) (jE b (cL n)) N k) N)) (fun x=>x=TM m/\∃i,m<((cC b (cL n) i).length:Int)):=by
 have w:(cL n).length<=1000:=by unfold cL;rw[SH,SH,Sy,Sy,S0];show n+n+1<=_;omega
 have u:=wO hn;refine sG rfl ?_;have J:=IR (C:= "Sorting") (F:=cQ) (fa:=aj (af (aa 0)) (aj (af (aa 1)) aC)) (ρ:=[-(bD b),-(.int m),Sw,Sw,Sw,Sw]) (Z:=A) (aq (ah (ag rfl)) (aq (ah (ag rfl)) aM)) rfl;refine wz (.eq J (Out.bind ((Hu B hn R L (by omega) aW).imp fun v Z M=> ?_)));obtain⟨rfl,N,q,H,S,rs,t,k,h,P,j,Q⟩:=M;refine .eq rfl ⟨?_⟩;have G:∀r,r<N->(jE b (cL n) r).length<=1000/\∀s∈jE b (cL n) r,s<N:=fun r O=>FY B u w H O;have y:(bX b (cL n) N).length=N:=by unfold bX;rw[Sy,S0]
 have T:0<N:=by have:=wP b (cL n) N;omega
 have p:=vi (St:=jE b (cL n)) y k;have f:∀v,v=SV.fz (Oi (jE b (cL n)) (bX b (cL n) N) (sq (bX b (cL n) N) (jE b (cL n)) N k) N)->∃N k,(cC b (cL n) N).length=N/\(N:Int)<=m/\P9 (bX b (cL n) N) (jE b (cL n)) N k/\v= .fz (Oi (jE b (cL n)) (bX b (cL n) N) (sq (bX b (cL n) N) (jE b (cL n)) N k) N):=fun v e=>⟨N,k,H,S,Q,e⟩;generalize sq (bX b (cL n) N) (jE b (cL n)) N k=c at j p f;generalize jE b (cL n)=St at h G f;generalize bX b (cL n) N=E at h y f;generalize A.length=o at h;generalize bD b=bd;have I:t≠o:=fun z=>by rw[z,h] at j;cases j
 rw[K0] at j;have e1:oW (g6 (aV "Sorting" "rounds" (ao 2)) (af (EZ tG (~~~1)))) [-(bd),-(.int m),lD (.rf o),Sw,Sw,Sw] Z= .ok (.fz (.list ((kL c N).map .int))) (Z.set t .dead):=pI (t6 (d6 (bj rfl) h rfl) (ah (Cc (rv:= .fz (.int (-1))) aL rfl rfl)) rfl P (sR _ _)) (j8 j);refine gc e1 rfl ?_;have g:(Z.set t .dead)[o]? =lD (.obj "Sorting" (zO St N (.list E) q)):=by rw[TY I];exact h
 generalize Z.set t .dead=Z1 at g;have Y:oW (af (dX 1 [3] (n9 ip {aN d5 (fq L10.i6 {aa 3}) (~~~1)}) (gN 0) cV (L10.E4 1 (aa 0)))) [-(bd),-(.int m),lD (.rf o),-(.list ((kL c N).map .int)),Sw,Sw] Z1= .ok (.fz (.list ((SJ (Cn c N)).map fun k=>nd (jA c N k)))) (Z1++[.dead]):=by refine pI (eN (Ee T (by omega) p)) ?_;rw[j8 aW,gj]
 refine gc Y rfl ?_;have a:(Z1++[Cell.dead])[o]? =lD (.obj "Sorting" (zO St N (.list E) q)):=by rw[S1 (SD.mp g).1];exact g
 generalize Z1++[Cell.dead]=Z2 at a;obtain⟨K,X⟩:=EX (ρ:=[-(bd),-(.int m),lD (.rf o),-(.list ((kL c N).map .int)),-(.list ((SJ (Cn c N)).map fun k=>nd (jA c N k))),Sw]) p (by omega) G a rfl rfl rfl;refine gc X rfl ?_;have l:(Z2++K)[o]? =lD (.obj "Sorting" (zO St N (.list E) q)):=by rw[S1 (SD.mp a).1];exact a
 generalize Z2++K=Z3 at l;obtain⟨K2,U⟩:=DK (ρ:=[-(bd),-(.int m),lD (.rf o),-(.list ((kL c N).map .int)),-(.list ((SJ (Cn c N)).map fun k=>nd (jA c N k))),-(.tuple ((SJ (Cn c N)).map (J7 St c N)))]) p (by omega) y l rfl rfl;refine wU (pz (aq (ah (ag rfl)) (aq U aM)) (by show 2<=1000;omega)) (f _ rfl)
theorem Rt (q:Nat×Bool):kR (dU (gN 0) cV (mO "str" (aa 0)) [.str (jU q.1),.str (if q.2=Sz then "down" else "up")] [Sw] [])= .ok [.bool Sz,.bool Sz]:=
 gH SG.str (fun _=>SG.bool Sz) [jU q.1,if q.2=Sz then "down" else "up"] (by show 2<=1000;omega) rfl fun r _=>iY (dx:= .str r) (ag rfl) rfl rfl
theorem P5 (q:Nat×Bool):xI (.str (if q.2=Sz then "down" else "up")) (.list [.str "down",.str "up"])=-(.bool SN):=by
 show(if(m9 (.str (if q.2=Sz then "down" else "up"))&&SG.canLayAll0 [.str "down",.str "up"])=Sz then _ else _)=_;rw[if_pos]
 .cases q.2<;>rfl
 .cases q.2<;>left
theorem FK (a:c ρ= .ok (SN,ρ)) (h:N ρ):Go (kO c f1 dB ρ) N C T:= .eq (QG a) ⟨h⟩
theorem Kl (sn:Sn):fO [.tuple (sn.map jc)]= .ok (.fz (.bool Sz)):=by
 refine ja rfl ?_;refine jx (fF (a9 (iY (ag rfl) rfl rfl) rfl)) (fun z=>nomatch z) (fun _=>dZ ?_);refine uv (fun i ρ=>∃t,ρ=[-(.tuple (sn.map jc)),t]) (eX (ag rfl) rfl rfl) ⟨Sw,rfl⟩ ?_ ?_
 .rintro i d ρ hi ⟨t,rfl⟩;obtain⟨q,_,rfl⟩:=Tv.mp (Tt hi);refine⟨[-(.tuple (sn.map jc)),-(jc q)],rfl,?_⟩;refine jx (jb (fF (a9 (iY (ag rfl) rfl rfl) rfl)) fun _=>jb (a9 (aK (cD (am (ag rfl) aG) rfl rfl) aL rfl rfl (rF rfl)) rfl) fun _=>fF (a9 (cD (am (ei (eX (ag rfl) rfl rfl) rfl (Rt q)) aG) rfl rfl) rfl)) (fun z=>nomatch z) (fun _=>dZ ?_);exact FK (a9 (aK (aK (ag rfl) aL rfl rfl kP) (show _=Res.ok (PV.ow [.str "down",.str "up"],_) by fail "ev") rfl rfl (P5 q)) rfl) ⟨_,rfl⟩
 .rintro ρ ⟨t,rfl⟩;exact .eq (qv aL rfl) ⟨rfl⟩
theorem Qp (S:List (List Sn)) (a:Nat) (h:∀s∈S,s.length=a) (j:S.length<=1000) (m:a<=1000):
  kR (dU (gN 0) cV (xK (mO "tuple" (aa 0)) (xK (aN dC (fq b4 {aa 0}) (aa 1)) (fq sr {dX 1 [] (fu (aa 0)) (gN 0) cV (fA fO 1 {aa 0})}))) (S.map fun s=>SG.tuple (s.map fun sn=> .tuple (sn.map jc))) [Sw,-(nd a)] [])= .ok (S.map fun _=>SG.bool Sz):=by
 refine gH (cp:=[-(nd a)]) (fun s:List Sn=>SG.tuple (s.map fun sn=> .tuple (sn.map jc))) (fun _=>SG.bool Sz) S j rfl fun s g=> ?_;have i:=h s g
 have b:=
  gH (cp:=[]) (fe:=fA fO 1 {aa 0}) (fun sn:Sn=>SG.tuple (sn.map jc)) (fun _=>SG.bool Sz) s (by omega) rfl fun sn _=>dr (am (ag rfl) aG) rfl rfl (Kl sn)
 have l:=(lM (fun _=>Sz) s).trans (by rw[UU.mpr (fun _ _=>rfl)]);have f:b4 [.tuple (s.map fun sn=>SG.tuple (sn.map jc))]=-(nd a):=by show lD (RV.fz (.int (s.map fun sn=>SG.tuple (sn.map jc)).length))=_;rw[Sy,i]
 have e:=Aw a a;rw[decide_eq_true rfl] at e;exact oo (a9 (iY (dx:= .tuple (s.map fun sn=> .tuple (sn.map jc))) (ag rfl) rfl rfl) rfl) fun _=>oo (a9 (aK (cD (am (ag rfl) aG) rfl f) (ag rfl) rfl rfl e) rfl) fun _=>
  cD (am (ei (eX (ag rfl) rfl rfl) rfl b) aG) rfl l
def rd (R:List (List Nat)):D:= .tuple (R.map fun r=> .tuple (r.map nd))
def vU (S:List (List Sn)):D:= .tuple (S.map fun s=> .tuple (s.map fun a=> .tuple (a.map jc)))
theorem DY (t:S.length=R.length) (y:∀r∈R,r.length=lg/\∀s∈r,s<R.length) (w:∀s∈S,s.length=lg) (E:R.length<=1000) (v:lg<=1000):gG [.tuple [rd R,vU S],nd lg]= .ok (.fz (.bool Sz)):=by
 have g:b4 [rd R]=-(nd R.length):=by unfold rd;show lD (RV.fz (.int (R.map fun r=>SG.tuple (r.map nd)).length))=_;rw[Sy]
 have o:b4 [vU S]=-(nd R.length):=by unfold vU;show lD (RV.fz (.int (S.map _).length))=_;rw[Sy,t]
 refine ja rfl ?_;refine jx (jb (fF (a9 (iY (ag rfl) rfl rfl) rfl)) fun _=>a9 (aK (cD (am (ag rfl) aG) rfl rfl) aL rfl rfl (rF rfl)) rfl) (fun z=>nomatch z) (fun _=>dZ ?_);have e:∀{a b:Option PV},aN bw (aa 0) (~~~0) [-(.tuple [rd R,vU S]),-(nd lg),a,b]= .ok (.fz (rd R),[-(.tuple [rd R,vU S]),-(nd lg),a,b]):=aK (ag rfl) aL rfl rfl jO;have f:∀{a b:Option PV},aN bw (aa 0) (~~~1) [-(.tuple [rd R,vU S]),-(nd lg),a,b]= .ok (.fz (vU S),[-(.tuple [rd R,vU S]),-(nd lg),a,b]):=aK (ag rfl) aL rfl rfl kP;have m:uB (nd R.length) (nd R.length)=-(.bool SN):=rF rfl;refine jx (jb (fF (a9 (iY e rfl rfl) rfl)) fun _=>jb (fF (a9 (iY f rfl rfl) rfl)) fun _=>a9 (aK (cD (am e aG) rfl g) (cD (am f aG) rfl o) rfl rfl m) rfl) (fun z=>nomatch z) (fun _=>dZ ?_);refine uv (fun i ρ=>∃a b,ρ=[-(.tuple [rd R,vU S]),-(nd lg),a,b]) (eX e rfl rfl) ⟨Sw,Sw,rfl⟩ ?_ ?_
 .rintro i d ρ hi ⟨a,b,rfl⟩
  obtain⟨r,q,rfl⟩:=Tv.mp (Tt hi);obtain⟨l,h⟩:=y r q;refine⟨[-(.tuple [rd R,vU S]),-(nd lg),-(.tuple (r.map nd)),b],rfl,?_⟩;have n:b4 [.tuple (r.map nd)]=-(nd lg):=by show lD (RV.fz (.int (r.map nd).length))=_;rw[Sy,l]
  refine jx (jb (fF (a9 (iY (ag rfl) rfl rfl) rfl)) fun _=>a9 (aK (cD (am (ag rfl) aG) rfl n) (ag rfl) rfl rfl (rF rfl)) rfl) (fun z=>nomatch z) (fun _=>dZ ?_);refine GQ (fun i ρ=>∃b,ρ=[-(.tuple [rd R,vU S]),-(nd lg),-(.tuple (r.map nd)),b]) (eX (ag rfl) rfl rfl) ⟨b,rfl⟩ ?_ ?_
  .rintro j d ρ u ⟨b,rfl⟩
   obtain⟨s,p,rfl⟩:=Tv.mp (Tt u);refine⟨[-(.tuple [rd R,vU S]),-(nd lg),-(.tuple (r.map nd)),-(nd s)],rfl,?_⟩;have B:Pb (.int 0) (nd s)=-(.bool Sz):=by show lD (RV.fz (.bool (decide ((0:Int)<=s))))=_;rw[decide_eq_true (by omega)]
   have A:My (nd s) (nd R.length)=-(.bool Sz):=by show lD (RV.fz (.bool (decide ((s:Int)<R.length))))=_;rw[decide_eq_true (by have:=h s p;omega)]
   exact FK (jb (fF (a9 (iY (dx:=nd s) (ag rfl) rfl rfl) rfl)) fun _=>jb (a9 (iY (dx:=nd s) (ag rfl) rfl rfl) rfl) fun _=>fF (a9 (sV aL (ag rfl) (cD (am e aG) rfl g) rfl rfl rfl B fun _=>A) rfl)) ⟨_,rfl⟩
  .rintro ρ ⟨b,rfl⟩;exact⟨_,_,rfl⟩
 .rintro ρ ⟨a,b,rfl⟩;have C:=(lM (fun _=>Sz) S).trans (by rw[UU.mpr (fun _ _=>rfl)]);exact .eq (qv (cD (am (ei (eX f rfl rfl) rfl (Qp S lg w (by omega) v)) aG) rfl C) rfl) ⟨rfl⟩
theorem Od (f:VB b) {n:Nat} (hn:b.n=n) (l:n<=5) (j:0<=m) (g:m<=1000) (h:∀N,(cC b (cL n) N).length=N->m<(N:Int)) (Z:bh):∃Z',dc [.fz (bD b),.fz (.int m)] Z= .er (TM m) Z':=by obtain⟨x,o,e,a⟩:=(oV (vX f hn l j g Z) (fun v Z' ⟨N,i,K,p,q,_⟩=>by have:=h N p;omega) fun x a=>a.1).er;subst a;exact⟨o,e⟩
theorem PD (g:VB b) {n N:Nat} (hn:b.n=n) (a:n<=5) (l:0<=m) (j:m<=1000) (f:(cC b (cL n) N).length=N) (h:(N:Int)<=m) (Z:bh):∃i K,dc [.fz (bD b),.fz (.int m)] Z= .ok (.rf (Z.length+i)) (Z++K)/\K[i]? =lD (.lst ((((cC b (cL n) N).map kK).map Da).map .fz)):=by obtain⟨v,o,e,u,i,K,q,r,rfl,rfl,a⟩:=(oV (vX g hn a l j Z) (fun v t p=>p) fun x ⟨_,i,hi⟩=>by have:=pS (V6 f) i;omega).all;rw[Dp q f] at a;exact⟨i,K,e,a⟩
theorem CK (f:VB b) {n N:Nat} (hn:b.n=n) (p:n<=5) (j:0<=m) (g:m<=400) (a:(cC b (cL n) N).length=N) (h:(N:Int)<=m) (Z:bh):∃k Z',P9 (bX b (cL n) N) (jE b (cL n)) N k/\eD [.fz (bD b),.fz (.int m)] Z= .ok (.fz (Oi (jE b (cL n)) (bX b (cL n) N) (sq (bX b (cL n) N) (jE b (cL n)) N k) N)) Z':=by obtain⟨v,o,e,u,k,r,t,q,rfl⟩:=(oV (yp f hn p j g Z) (fun v Z' l=>l) fun x ⟨_,i,hi⟩=>by have:=pS (V6 a) i;omega).all;cases Dp r a;exact⟨k,o,q,e⟩
theorem Md (h:dc [.fz (bD b),.fz (.int 90)] Z= .er (TM 90) Z'):df [.fz (bD b)] Z= .ok (.fz .none) Z':=by unfold df;dsimp only;rw[h];exact if_pos rfl
theorem Lf (h:dc [.fz (bD b),.fz (.int 90)] Z= .ok (.rf i) Z') (a:sh Z' (.rf i)=lD (.list ds)):df [.fz (bD b)] Z= .ok (.fz (nd ds.length)) Z':=by unfold df;dsimp only;rw[h];dsimp only;rw[a]
theorem Nj:∀{r:List Nat} {m j s:Nat},Lq m r->r[j]? =lD s->s<=vA m (r.take j)
 |a::r,m,0,s,h,e=>by cases e;exact h.1
 |a::r,m,j+1,s,h,e=>by rw[List.take_succ_cons,Js];exact Nj h.2 (by simpa using e)
theorem Qy {r:List Nat} (e:r[j]? =lD s):vA m (r.take (j+1))=max (vA m (r.take j)) (s+1):=by unfold vA;rw[U5,e,WU];rfl
def M4 (b:Bd) (es:List Xk) (a:Nat):List Sn:=match(cC b es a)[a]? with
 |some r=>es.map fun e=>(aQ b r.s e).2
 |none=>[]
theorem QP (h:VB b) (i:∀e∈es,EV b e) (l:(cC b es N).length=N) (j:RG c N):Oi (jE b es) (bX b es N) c N= .tuple [rd ((SJ (Cn c N)).map fun k=>(jE b es (jA c N k)).map c),vU ((SJ (Cn c N)).map fun k=>M4 b es (jA c N k))]:=by
 unfold Oi rd vU;rw[Tj,Tj];have n:(SJ (Cn c N)).map (J7 (jE b es) c N)=(SJ (Cn c N)).map ((fun r:List Nat=>SG.tuple (r.map nd))∘fun k=>(jE b es (jA c N k)).map c):=by refine Uz fun k f=> ?_;show _=SG.tuple (((jE b es (jA c N k)).map c).map nd);rw[Tj];rfl
 have m:(SJ (Cn c N)).map (JB (bX b es N) c N)=(SJ (Cn c N)).map ((fun s:List Sn=>SG.tuple (s.map fun a=> .tuple (a.map jc)))∘fun k=>M4 b es (jA c N k)):=by refine Uz fun k f=> ?_;obtain⟨_,g,_⟩:=ug j (TL.mp f);obtain⟨lt,_⟩:=jK h i l g;unfold JB bX;rw[eZ g];show zy b es (jA c N k)=SG.tuple ((M4 b es (jA c N k)).map fun a=> .tuple (a.map jc));unfold zy M4;rw[SM lt];rw[Tj];rfl
 rw[n,m]
theorem P1 (R:List (List Nat)) (S:List (List Sn)) (h:∀s∈S,∀sn∈s,WB sn):m9 (.tuple [rd R,vU S])=Sz:=by
 have b:SG.canLay0 (rd R)=Sz/\SG.depth (rd R)<=3:=by
  refine⟨by unfold SG.canLay0;exact oy fun r _=>by show SG.canLay0 (.tuple (bV r))=Sz;unfold SG.canLay0;exact jY _,?_⟩;show SG.depthAll _+1<=3;have:=jn (f:=fun r:List Nat=>SG.tuple (r.map nd)) (l:=R) fun r _=>by show SG.depthAll (bV r)+1<=1;rw[jZ];omega
  omega
 have a:SG.canLay0 (vU S)=Sz/\SG.depth (vU S)<=5:=by
  refine⟨by unfold SG.canLay0;exact oy fun s e=>by unfold SG.canLay0;exact oy fun sn hn=>by unfold SG.canLay0;exact oy fun q g=>KS (h s e sn hn q g),?_⟩;show SG.depthAll _+1<=5;have:=jn (f:=fun s:List Sn=>SG.tuple (s.map fun sn=> .tuple (sn.map jc))) (l:=S) fun s _=>by
   show SG.depthAll (s.map fun sn=>SG.tuple (sn.map jc))+1<=3;have:=jn (f:=fun sn:Sn=>SG.tuple (sn.map jc)) (l:=s) fun sn _=>by show SG.depthAll (sn.map jc)+1<=2;have:=jn (l:=sn) fun q _=>BQ q;omega
   omega
  omega
 refine Mv ?_ ?_
 .show(SG.canLay0 (rd R)&&(SG.canLay0 (vU S)&&Sz))=Sz;rw[b.1,a.1];rfl
 .show max (SG.depth (rd R)) (max (SG.depth (vU S)) 0)+1<=64;omega
abbrev G7 (ns:List Int) (b:Bd) (N:Nat) (g:D) (f e a:Option SV):bA:=[-(.list (ns.map .int)),-(bD b),-(nd N),-(g),f,e,a]
theorem main (ns:List Int) (hns:ns.length<=63):L10.Qc F_law [.list (ns.map .int)]= .ok (.fz (.bool Sz)):=by
 obtain⟨n,hn,ek⟩:=K3 ns;obtain⟨b,o,B,eb⟩:=ND ns 1 n hn;have H:n<=5:=by omega
 have e1:=HP B H;have l:=wO B;have J:(cL n).length<=1000:=by unfold cL;rw[SH,SH,Sy,Sy,S0];show n+n+1<=_;omega
 have P:Out (F_law [.fz (.list (ns.map .int))] []) (fun x _=>x= .fz (.bool Sz)) (fun _=>False):=by
  refine sG rfl ?_;refine gc (ah (dr (am (ag rfl) (am aL (am (dr (am (ag rfl) aG) rfl rfl ek) aG))) rfl rfl eb)) rfl ?_;by_cases g:∃N,(cC b (cL n) N).length=N/\N<=90
  .obtain⟨N,g,h90⟩:=g
   obtain⟨i1,K1,r1,k1⟩:=PD o B H (m:=90) (by decide) (by decide) g (by omega) [];have mo:=Lf r1 (ez (mL.trans k1));rw[Sy,Sy,g] at mo;refine gc (rH (aq (ah (ag rfl)) aM) rfl mo) rfl ?_;refine wS (bZ (a9 (aK (ag rfl) aL rfl rfl rfl) rfl)) (rQ ?_);generalize []++K1=Z1;obtain⟨k,Z2,E,em⟩:=CK o B H (m:=90) (by decide) (by decide) g (by omega) Z1;refine gc (vT (aq (ah (ag rfl)) (aq (ah aL) aM)) rfl em) rfl ?_;have dl:(bX b (cL n) N).length=N:=by unfold bX;rw[Sy,S0]
   have h0:0<N:=by have:=wP b (cL n) N;omega
   have w:=vi (St:=jE b (cL n)) dl k;have M:∀a,a<N->_:=fun a ha=>jK o l g ha;obtain⟨m,m0,mC,mk⟩:=Eb w M (fun a a' I h2 e=>DM dl E.1 I h2 e) rfl g h0;have K:=QP o l g w;have q:∀Z,∃C,eD [.fz (bD b),.fz (.int 400)] Z= .ok (.fz (Oi (jE b (cL n)) (bX b (cL n) N) (sq (bX b (cL n) N) (jE b (cL n)) N k) N)) C:=fun Z=>by obtain⟨k',C,s',U⟩:=CK o B H (m:=400) (by decide) (by decide) g (by omega) Z;cases Lr E s';exact⟨C,U⟩
   generalize sq (bX b (cL n) N) (jE b (cL n)) N k=c at w mk K q mC;have cN:=Ap w N (SU _);have c0:=jQ (c:=c) h0;generalize hR:((SJ (Cn c N)).map fun k=>(jE b (cL n) (jA c N k)).map c)=R at K;generalize hS:((SJ (Cn c N)).map fun k=>M4 b (cL n) (jA c N k))=S at K;have O:R.length=Cn c N:=by rw[<-hR,Sy,S0]
   have lS:S.length=R.length:=by rw[O,<-hS,Sy,S0]
   have ss:∀s∈S,s.length=(cL n).length/\∀sn∈s,WB sn:=fun s v=>by rw[<-hS] at v;obtain⟨j,p,rfl⟩:=Tv.mp v;obtain⟨_,A,_⟩:=ug w (TL.mp p);obtain⟨lt,_⟩:=M _ A;unfold M4;rw[SM lt];refine⟨Sy ..,fun sn Q=> ?_⟩;obtain⟨e,he,rfl⟩:=Tv.mp Q;exact BX o (nz o l _ _ (Vc lt)) (l e he)
   have rs:∀r∈R,r.length=(cL n).length/\∀s∈r,s<R.length:=fun r hr=>by
    rw[<-hR] at hr;obtain⟨j,p,rfl⟩:=Tv.mp hr;obtain⟨_,A,_⟩:=ug w (TL.mp p);obtain⟨lt,_⟩:=M _ A;constructor
    .rw[Sy];unfold jE;rw[SM lt];exact Sy ..
    .intro s v;obtain⟨t,ht,rfl⟩:=Tv.mp v;rw[O];exact jQ ((FY o l J g A).2 t ht)
   have F:=DY lS rs (fun s v=>(ss s v).1) (by omega) J;have G:=P1 R S fun s v=>(ss s v).2;rw[K] at q⊢;have X:b4 [rd R]=-(nd (Cn c N)):=by unfold rd;show lD (RV.fz (.int (R.map fun r=>SG.tuple (r.map nd)).length))=_;rw[Sy,O]
   generalize hmc:SG.tuple [rd R,vU S]=mc at q F G;have Y:bw mc (.int 0)=-(rd R):=by rw[<-hmc];exact jO
   have T:∀{o4 y f:Option SV},fq b4 {aN bw (aa 3) (~~~0)} (bQ (G7 ns b N mc o4 y f))= .ok (.fz (nd (Cn c N)),bQ (G7 ns b N mc o4 y f)):=cD (am (aK (ag rfl) aL rfl rfl Y) aG) rfl X;have le:b4 [.list ((cL n).map gv)]=-(nd (cL n).length):=by show lD (RV.fz (.int ((cL n).map gv).length))=_;rw[Sy]
   have q1:Pb (.int 1) (nd (Cn c N))=-(.bool Sz):=by show lD (RV.fz (.bool (decide ((1:Int)<=(Cn c N:Nat)))))=_;rw[decide_eq_true (by omega)]
   have q2:Pb (nd (Cn c N)) (nd N)=-(.bool Sz):=by show lD (RV.fz (.bool (decide (((Cn c N:Nat):Int)<=(N:Nat)))))=_;rw[decide_eq_true (by omega)]
   refine wS (bZ (jb (fF (a9 (dr (am (ag rfl) (am (cD (am (dr (am (ag rfl) aG) rfl rfl e1) aG) rfl le) aG)) rfl rfl F) rfl)) fun _=>fF (a9 (sV aL T (ag rfl) rfl rfl rfl q1 fun _=>q2) rfl))) (rQ ?_);refine gc (ah aL) (ρ1:=G7 ns b N mc (-(nd (m 0))) Sw Sw) (by rw[m0];rfl) ?_;refine nA (IZ (fun i ρ _=>∃y f,ρ=G7 ns b N mc (-(nd (m i))) y f) (iE (xQ (am T aG) rfl (oA (by omega)))) ⟨Sw,Sw,rfl⟩ ?_ ?_)
   .rintro i d ρ Z hi ⟨y,f,rfl⟩
    have L:=(SD.mp hi).1;rw[Sy,S0] at L;rw[eZ L] at hi;cases hi;obtain⟨_,A,f3,f4⟩:=ug w L;obtain⟨g1,g2,g3⟩:=mk i _ A f3 f4;have Zl:R[i]? =lD ((jE b (cL n) (jA c N i)).map c):=by rw[<-hR];exact eZ L
    generalize (jE b (cL n) (jA c N i)).map c=r at g2 g3 Zl;have x1:bw (rd R) (nd i)=-(.tuple (r.map nd)):=by unfold rd;exact M8 (by rw[SX,Zl];rfl)
    refine⟨G7 ns b N mc (-(nd (m i))) (-(nd i)) f,Z,rfl,?_⟩;have ge:PO (nd i) (nd (m i))=-(.bool SN):=by show lD (RV.fz (.bool (decide (((m i:Nat):Int)<=(i:Nat)))))=_;rw[decide_eq_false (by omega)]
    refine wS (bZ (a9 (aK (ag rfl) (ag rfl) rfl rfl ge) rfl)) (rQ ?_);refine IZ (fun j ρ _=>∃f,ρ=G7 ns b N mc (-(nd (vA (m i) (r.take j)))) (-(nd i)) f) (iE (eX (aK (aK (ag rfl) aL rfl rfl Y) (ag rfl) rfl rfl x1) rfl rfl)) ⟨f,by rw[XY];rfl⟩ ?_ ?_
    .rintro j d ρ Z p ⟨f,rfl⟩
     rw[SX] at p;cases es:r[j]? with
     |none=>rw[es] at p;cases p
     |some s=>
      rw[es] at p;cases p;have I:=Nj g2 es;rw[Qy es];generalize vA (m i) (r.take j)=u at I;refine⟨G7 ns b N mc (-(nd u)) (-(nd i)) (-(nd s)),Z,rfl,?_⟩;have gt:GC (nd s) (nd u)=-(.bool SN):=by show lD (RV.fz (.bool (decide (((u:Nat):Int)<(s:Nat)))))=_;rw[decide_eq_false (by omega)]
      refine wS (bZ (a9 (aK (ag rfl) (ag rfl) rfl rfl gt) rfl)) (rQ ?_);have mx:vI [nd u,.int ((s:Int)+1)]=-(nd (max u (s+1))):=by show lD (RV.fz (.int (if(s:Int)+1>(u:Nat) then(s:Int)+1 else(u:Nat))))=_;congr 3;split<;>omega
      exact AI (lG (ah (cD (am (ag rfl) (am (aK (ag rfl) aL rfl rfl (gz _ _)) aG)) rfl mx)) rfl) ⟨_,rfl⟩
    .rintro ρ Z ⟨f,rfl⟩;rw[Sy,Xh,g3];exact⟨_,_,rfl⟩
   .rintro ρ Z ⟨y,f,rfl⟩;rw[Sy,S0,mC];obtain⟨C,U⟩:=q Z;have qm:=STP.Mr G;have qn:=Aw (Cn c N) (Cn c N);rw[decide_eq_true rfl] at qn;exact wU (vR (bu (ah (aK (ag rfl) T rfl rfl qn))) (dL (vT (aq (ah (ag rfl)) aM) rfl U) (ah (ag rfl)) (cJ qm))) rfl
  .obtain⟨C,ee⟩:=Od o B H (m:=90) (by decide) (by decide) (fun N h=>by
    have:¬N<=90:=fun z=>g ⟨N,h,z⟩;omega) []
   refine gc (rH (aq (ah (ag rfl)) aM) rfl (Md ee)) rfl ?_;exact N4 (bZ (a9 (aK (ag rfl) aL rfl rfl rfl) rfl)) (LA (ah aL) rfl)
 obtain⟨x,C,I,rfl⟩:=P.all;unfold L10.Qc;rw[show[SG.list (ns.map .int)].map SV.fz=[.fz (.list (ns.map .int))] from rfl,I]
end K42
local macro_rules| `(tactic|fail "sc")=> `(tactic|exact⟨rfl,rfl,rfl,by left,rfl,by left,by left⟩)| `(tactic|fail "me")=> `(tactic|first
 |exact .head _
 |(apply List.Mem.tail;fail "me"))
local macro_rules| `(tactic|fail "cm")=> `(tactic|first
 |change L3.ki
 |change L3.FB
 |change L3.Fg
 |change L3.OD
 |change L3.A6
 |change L3.Ff
 |change L3.wR
 |change L3.Lp
 |change L3.K7
 |change L3.BM)
local macro_rules| `(tactic|fail "sp")=> `(tactic|first
 |fail "cm"
 |change L3.cR
 |change L3.pd
 |change L3.JF
 |change L3.wj
 |change L3.yR
 |change L3.JX
 |change L3.J6
 |change L3.B6
 |change L3.CO
 |change L3.Km
 |change L3.C6
 |change L3.gb
 |change L3.eP
 |change L3.Ku
 |change L3.vQ
 |change L3.pO
 |change L3.JL
 |change L3.rR
 |change L3.wD
 |change L9.BC
 |change L10.Dm
 |change L3.wj)
local macro_rules| `(tactic|fail "eo")=> `(tactic|first
 |change L3.au
 |change L3.bx
 |(exists L3.b5);(·fail "sp");(·fail "eo");(·fail "eo")
 |change L3.pW
 |(exists L3.lh);(·fail "ao")
 |(exists L3.gx);(·fail "sp");(·fail "ao")
 |(exists L3.xZ);(·fail "ao")
 |(exists L3.jV);(·fail "ao")
 |(exists L3.Jo);(·fail "eo")
 |change L3.sB
 |change L3.GY
 |(exists L3.yz);(·fail "sp");(·fail "sp");(·fail "eo");(·fail "eo");(·fail "eo")
 |(exists L3.xc);(·simp);(·fail "eo")
 |(exists L3.xB);(·fail "eo");(·fail "eo")
 |(exists L3.FJ);(·fail "sp");(·fail "eo")
 |(exists L3.Ab);(·assumption))
local macro_rules| `(tactic|fail "ao")=> `(tactic|first
 |(exists L3.aH);(·fail "eo");(·fail "ao")
 |change L3.bp)
local macro_rules| `(tactic|fail "tt")=> `(tactic|first
 |(exists L3.iS);(exists L3.b5);(·fail "cm");(·fail "eo");(·fail "eo")
 |(exists L3.iS);(exists L3.yz);(·fail "cm");(·fail "cm");(·fail "eo");(·fail "eo");(·fail "eo")
 |(exists L3.K6);(·fail "tt");(·fail "tt")
 |(exists L3.Ay);(·fail "tt");(·fail "tt")
 |(exists L3.wT);(·fail "tt")
 |(exists L3.Ds);(·fail "eo")
 |change L3.dH)
local macro_rules| `(tactic|fail "gg")=> `(tactic|first
 |change L3.bM
 |(exists L3.xf);(·fail "gg");(·fail "gg")
 |change L3.Hl
 |(exists L3.Hg);(·fail "gg")
 |change L10.bt
 |(exists L10.tR);(·fail "gg");(·fail "gg")
 |change L10.BK
 |(exists L10.Dc);(·fail "gg"))
local macro_rules| `(tactic|fail "io")=> `(tactic|first
 |(exists L3.jv);(·fail "ao")
 |(exists L3.fL);(·fail "eo")
 |(exists L3.FV);(·fail "ao")
 |(exists L10.kZ);(·fail "io")
 |(exists L10.md);(·fail "es"))
local macro_rules| `(tactic|fail "es")=> `(tactic|first
 |(exists L10.aw);(·fail "eo")
 |change L10.aF
 |(exists L10.yu);(·fail "es");(·fail "es")
 |(exists L10.iK);(·fail "sp");(·fail "es");(·fail "es")
 |(exists L10.bE);(·assumption);(·fail "me");(·fail "es")
 |(exists L10.qE);(·fail "as")
 |(exists L10.u6);(·fail "as")
 |(exists L10.BH);(·fail "as")
 |(exists L10.o9);(·fail "es");(·fail "es")
 |(exists L10.mF);(·fail "as")
 |(exists L10.gY);(·fail "es");(·fail "es")
 |(exists L10.wL);(·assumption);(·fail "es");(·fail "as")
 |(exists L10.zK);(·fail "es")
 |(exists L10.zw);(·fail "es")
 |(exists L10.Fr);(·fail "es");(·fail "es")
 |(exists L10.LF);(·fail "es");(·fail "es")
 |(exists L10.fy);(·fail "sp");(·fail "as")
 |(exists L10.l9);(·fail "es")
 |(exists L10.wC);(·fail "es");(·fail "es")
 |(exists L10.Pz);(·fail "ts");(·fail "es");(·fail "es")
 |(exists L10.KH);(·assumption);(·fail "as")
 |(exists L10.Iy);(·fail "es"))
local macro_rules| `(tactic|fail "as")=> `(tactic|first
 |(exists L10.aB);(·fail "es");(·fail "as")
 |change L10.bf)
local macro_rules| `(tactic|fail "ts")=> `(tactic|first
 |(exists L10.gJ);(exists L10.iK);(·fail "cm");(·fail "es");(·fail "es")
 |(exists L10.Hk);(·fail "tt")
 |(exists L10.Kq);(·fail "ts");(·fail "ts")
 |(exists L10.F6);(·fail "ts");(·fail "ts")
 |(exists L10.J9);(·fail "ts")
 |(exists L10.Mw);(·fail "es"))
local macro_rules| `(tactic|fail "so")=> `(tactic|first
 |(exists L3.cF);(·fail "so");(·fail "so")
 |(exists L3.nY);(·fail "eo");(·fail "gg")
 |(exists L3.M3);(·fail "tt");(·fail "so");(·fail "so")
 |(exists L3.iZ);(·fail "eo")
 |(exists L3.CH);(·fail "eo")
 |change L3.B8
 |(exists L3.wI);(·fail "io");(·fail "gg");(·fail "so")
 |(exists L10.aU);(·fail "so");(·fail "so")
 |(exists L10.cU);(·fail "es");(·fail "gg")
 |(exists L10.wx);(·fail "ts");(·fail "so");(·fail "so")
 |(exists L10.iO);(·fail "es")
 |(exists L10.gm);(·fail "es")
 |(exists L10.FX);(·fail "es");(·fail "es");(·fail "es")
 |(exists L10.iw);(·assumption);(·fail "me");(·fail "es");(·fail "es")
 |change L10.pk
 |(exists L10.Kw);(·fail "io");(·fail "gg");(·fail "so")
 |(exists L10.qA);(·fail "ts");(·fail "so")
 |change L10.FC)
local macro_rules| `(tactic|fail "to")=> `(tactic|first
 |exact L2.bK
 |exact L2.ka (by assumption)
 |exact L2.Ja (by assumption)
 |exact L3.wq (by assumption)
 |exact L3.Kf (by assumption)
 |exact L9.xN
 |exact L3.oG
 |exact L2.Ox
 |exact L2.Ha
 |exact L2.ML
 |exact L3.BJ
 |exact L2.Ow
 |exact L2.Hd
 |exact L2.NU
 |exact L2.BS
 |exact L2.QF
 |exact L2.MX
 |exact L2.Pd
 |exact L2.GF
 |exact L2.G2
 |exact L2.Jy
 |exact L2.db
 |exact L2.bS
 |exact L2.xw
 |exact L3.mw
 |exact L2.gB
 |exact L10.uT
 |exact L2.Ai
 |exact L2.Dv
 |exact adF
 |exact L2.iR
 |exact L2.eY
 |exact L2.Jb
 |exact L2.zZ
 |exact L2.Qn
 |exact L2.za
 |exact L2.uX
 |exact L10.Pa
 |exact L2.ib
 |change Ur
 |change UC
 |change UD
 |change PySem.F.slot_list_insert
 |change PySem.F.type_list_insert
 |change PySem.F.slot_list_extend
 |change PySem.F.type_list_extend
 |change VQ
 |change WK
 |change Zs
 |exact L2.DH rfl
 |exact L3.jS rfl
 |exact L10.tF rfl
 |exact L10.sf rfl
 |exact L10.Ae rfl
 |exact L10.mG rfl
 |rfl)
local macro_rules| `(tactic|fail "pe")=> `(tactic|first
 |(exists L2.pv);(·rfl);(·(first|exact Or.inl rfl|exact Or.inr (Or.inl rfl)|exact Or.inr (Or.inr rfl)));(·decide);(·decide)
 |change L2.bv
 |(exists L2.cA);(·fail "to");(·fail "pe");(·fail "pe");(·exact fun _ _=>rfl)
 |change L2.qB
 |(exists L2.on);(·fail "to");(·fail "pe");(·fail "pe")
 |(exists L2.BW);(·assumption);(·fail "pe");(·fail "pe");(·exact fun _ _=>rfl)
 |(exists L2.gW);(·assumption);(·assumption);(·fail "pa");(·decide);(·rfl);(·decide);(·rfl);(·rfl)
 |(exists L2.kj);(·fail "pa")
 |change L2.nK
 |(exists L2.j6);(·fail "pa")
 |(exists L2.bz);(·fail "to");(·rfl);(·assumption);(·fail "to");(·fail "pa");(·decide);(·decide);(·rfl);(·rfl)
 |(exists L2.c8);(·fail "to");(·rfl);(·assumption);(·fail "to");(·fail "pa");(·decide);(·decide);(·rfl);(·rfl)
 |(exists L2.BL);(·rfl);(·assumption);(·(first|rfl|exact⟨_,rfl⟩));(·decide)
 |change L2.Gx
 |(exists L2.gD);(·fail "to");(·fail "pe");(·fail "pe");(·(first|rfl|with_unfolding_all rfl))
 |(apply L2.b9);(·fail "pe");(·rfl)
 |(apply L2.si);(·fail "to");(·fail "to");(·fail "to");(·fail "to");(·fail "pe");(·fail "pa");(·rfl);(·rfl);(·decide);(·rfl);(·rfl)
 |(exists L2.Gw);(·fail "pt");(·fail "pe");(·fail "pe")
 |(apply L2.FR);(·fail "to");(·fail "to");(·fail "to");(·fail "to");(·fail "pe");(·rfl);(·decide)
 |(exists L2.sX);(·fail "pe")
 |(exists L2.pA);(·fail "pe");(·fail "pe")
 |(exists L2.IS);(·fail "to");(·fail "pe")
 |(apply L2.IM);(·fail "pe");(·fail "pe");(·exact⟨rfl,rfl,rfl,rfl⟩)
 |(exists L2.rX);(·rfl);(·assumption);(·fail "to");(·(first|rfl|exact⟨_,rfl⟩));(·decide);(·decide)
 |(apply L10.Dz);(·assumption);(·fail "to");(·assumption);(·fail "pe");(·fail "pa");(·decide);(·rfl);(·rfl);(·rfl)
 |(apply L10.IQ);(·assumption);(·fail "to");(·assumption);(·fail "pe");(·decide);(·rfl)
 |(apply L10.HR);(·assumption);(·fail "to");(·assumption);(·fail "pa");(·decide);(·rfl);(·decide);(·rfl);(·rfl)
 |(apply L10.B2);(·rfl);(·rfl);(·assumption);(·fail "pa");(·rfl))
local macro_rules| `(tactic|fail "pa")=> `(tactic|first
 |(exists L2.ai);(·fail "pe");(·fail "pa");(·rfl)
 |change L2.az)
local macro_rules| `(tactic|fail "pt")=> `(tactic|first
 |(exists L2.hV);(·fail "to");(·fail "pe");(·fail "pe");(·(first|rfl|with_unfolding_all rfl))
 |(exists L2.Bb);(·fail "pt")
 |(exists L2.GD);(·fail "pc");(·(first|rfl|with_unfolding_all rfl))
 |(exists L2.Jk);(·fail "to");(·fail "to");(·fail "pe");(·fail "pe");(·fail "pe");(·rfl)
 |(exists L2.PW.pt);(·fail "pw")
 |(exists L2.wg);(·fail "pe");(·(intro _;rfl)))
local macro_rules| `(tactic|fail "pw")=> `(tactic|first
 |(exists L2.Lh);(·fail "pt")
 |(exists L2.OX);(·fail "pt");(·fail "pw")
 |(exists L2.Bs);(·fail "pt")
 |(exists L2.Cv);(·fail "pt");(·fail "pw"))
local macro_rules| `(tactic|fail "pc")=> `(tactic|first
 |(exists L2.NB);(·assumption);(·fail "pe");(·fail "pe"))
local macro_rules| `(tactic|fail "pg")=> `(tactic|first
 |(exists L2.bB);(·(first|assumption|left));(·rfl);(·(first|exact Or.inl rfl|exact Or.inr rfl|assumption|rfl));(·(first|exact Or.inl rfl|exact Or.inr rfl|assumption|rfl))
 |(exists L2.lO);(·fail "pg");(·fail "pg");(·rfl)
 |change L2.wE
 |(apply L2.AL);(·rfl);(·fail "pg");(·rfl);(·rfl))
local macro_rules| `(tactic|fail "pi")=> `(tactic|first
 |(exists L2.eW);(·rfl);(·assumption);(·fail "pa");(·rfl)
 |(apply L3.GW);(·rfl);(·assumption);(·fail "pa");(·rfl);(·rfl)
 |(apply L3.dQ);(·fail "pe"))
local macro_rules| `(tactic|fail "te")=> `(tactic|first
 |(exists L2.aX);(·fail "te")
 |change L2.oK
 |(exists L2.ar);(·fail "te");(·fail "te")
 |(exists L2.cX);(·(first|assumption|left));(·rfl);(·(first|exact Or.inl rfl|exact Or.inr rfl|assumption|rfl));(·fail "pe");(·rfl);(·(first|exact Or.inl rfl|exact Or.inr rfl|assumption|rfl))
 |(exists L2.ic);(·fail "pe");(·rfl)
 |(exists L2.c7);(·fail "pe")
 |(exists L2.yn);(·fail "pt");(·fail "te");(·fail "te")
 |(exists L2.xL);(·fail "to");(·rfl);(·fail "pi");(·fail "pg");(·fail "te");(·(intro _;rfl))
 |(apply L2.kr);(·fail "pe");(·fail "pe");(·rfl)
 |(exists L2.LW);(·assumption);(·fail "pe");(·fail "pe");(·fail "pe");(·rfl)
 |change L2.JM
 |(exists L2.sW);(·fail "to");(·fail "pt");(·fail "te"))
local macro_rules| `(tactic|fail "ok")=> `(tactic|(intros;refine L3.z7 (by fail "so") ?_;first|(apply L2.ar);(·fail "te");(·fail "te")|(apply L2.aX);(·fail "te")))| `(tactic|fail "os")=> `(tactic|(intros;refine L3.En (by fail "so") ?_;first|(apply L2.ar);(·fail "te");(·fail "te")|(apply L2.aX);(·fail "te")))| `(tactic|fail "cm")=> `(tactic|change LD.agJ)| `(tactic|fail "to")=> `(tactic|exact LD.ahl (by assumption))
namespace K42
open PySem L2 L3 STP
def top (i:Nat):U6:=PySem.Challenge.pw_chordbed_k42_states_as_they_come.main.body.getD i (.Pass ⟨0,0,0,0⟩)
def fb:U6->List U6
 | .For _ _ b _ _=>b
 | .If _ b _ _=>b
 |_=>[]
def ss:T4->T4
 | .Subscript _ v _=>v
 |e=>e
def lp:T4->Pos
 | .List _ p=>p
 |_=>⟨0,0,0,0⟩
def fI:U6->T4
 | .For _ i _ _ _=>i
 |_=> .Name "" ⟨0,0,0,0⟩
def nP:U6->Pos
 | .Assign [.Name _ p] _ _=>p
 |_=>⟨0,0,0,0⟩
def sv:T4->T4
 | .Subscript v _ _=>v
 |e=>e
def le:T4->List T4
 | .List l _=>l
 |_=>[]
def bl:T4->T4
 | .BinOp a _ _ _=>a
 |e=>e
def dK:T4->List (Option T4)
 | .Dict k _ _=>k
 |_=>[]
def dV:T4->List T4
 | .Dict _ v _=>v
 |_=>[]
section
variable {P:Te} {w:TF} {K:Ld} {mg:Str->Option Sx} {base:Heap} {f:SI} {fd:Uc}
theorem yq (F:VU K "layer_of" "layer_of" (top 8) f fd) (e:mg "max"=Sw):FnOk P w K mg base dS 1 f fd ["standing"] (qM K 1 d9):=pp (N:=["standing"]) (g:=nU) F (by fail "sc") rfl rfl rfl fun m A a s H E nd j b l h=>En (cF (by fail "so")
   (iZ (gx L10.Dm (aH (d4 rfl rfl (fL (b5 cR au bx)) (Hg (xf bM (xf bM Hl))) (iS (b5 ki (b5 cR au bx) pW)) (b5 cR au bx)) bp)))) (ar (by fail "te")
   (aX (c7 (L10.B2 rfl rfl e (ai (cI ["key","act"] [] rfl (dQ (cA bK (pv 0) bv (fun _ _=>rfl))) (fun _ _ _ _=>(AL rfl (lO (bB (i:=0) (show TN (["key","act"]:List Str) by left) rfl (Or.inl rfl)) (lO (bB (i:=1) (show TN (["key","act"]:List Str) by left) rfl (Or.inl rfl)) wE)))) (fun _ _ _ _=>(ti (hV (ka b) (cA bK (pv 1) bv (fun _ _=>rfl)) qB (fX _)))) (fun _ _ _ _=>(cA bK (pv 1) bv (fun _ _=>rfl))) trivial rfl) az)))))
theorem xy (F:VU K "looked_up" "looked_up" (top 11) f fd):FnOk P w K mg base dS 1 f fd ["bed","layer","key"] (qM K 3 jr):=pp (N:=["bed","layer","key","meaning"]) (g:=k8) F (by fail "sc") rfl rfl rfl fun j A a s H E nd h e i b=>En (cF (by fail "so")
   (cF (by fail "so")
   (iZ au))) (ar (by fail "te")
   (ar (by fail "te")
   (aX (c7 (pv 3)))))
theorem sE (F:VU K "chords_over" "chords_over" (top 12) f fd) (e:mg "all"=Sw):FnOk P w K mg base dS 1 f fd ["bed","keys"] (qM K 2 bH):=pp (N:=["bed","keys"]) (g:=jG) F (by fail "sc") rfl rfl rfl fun m A a s H E nd j h l b=>En (iZ (d4 rfl rfl (fL (b5 cR au bx)) bM (Ds (gx pO (aH (d4 rfl rfl (fL au) bM dH (b5 wR au (b5 cR au bx))) bp))) au)) (aX (c7 (cI ["chord"] [("keys",1)] rfl (dQ (cA bK (pv 0) bv (fun _ _=>rfl))) (fun _ _ _ _=>(bB (i:=0) (show TN (["chord","keys"]:List Str) by left) rfl (Or.inr rfl))) (fun _ _ _ _=>(ti (wg (bz (jS rfl) rfl e uX (ai (cI ["key"] [("chord",0)] rfl (dQ (pv 1)) (fun _ _ _ _=>(bB (i:=0) (show TN (["key","chord"]:List Str) by left) rfl (Or.inl rfl))) (fun _ _ _ _=>bL) (fun _ _ _ _=>(gD (wq b) (pv 0) (cA bK (pv 1) bv (fun _ _=>rfl)) (by with_unfolding_all rfl))) ⟨⟨rfl,rfl,Or.inl rfl⟩,trivial⟩ rfl) az))))) (fun _ _ _ _=>(pv 0)) ⟨⟨rfl,rfl,Or.inl rfl⟩,trivial⟩ rfl)))
theorem uN (F:VU K "chord_acts" "chord_acts" (top 13) f fd) (l:mg "list"=Sw) (p:mg "sorted"=Sw) (q:mg "len"=Sw) {b:SI} (m:mg "NONE"=lD (.ref b)) (n:∀O H,DV O K H (.ref b) (.tuple [(.str "none")])):FnOk P w K mg base dS 1 f fd ["bed","keys"] (qM K 2 fY):=pp (N:=["bed","keys","chord"]) (g:=ko) F (by fail "sc") rfl rfl rfl fun r A a s H E nd j h o e=>En (cF (by fail "so")
   (iZ (d4 rfl rfl (fL au) bM dH (b5 cR (b5 cR (b5 cR au bx) bx) au)))) (ar (by fail "te")
   (aX (c7 (cI ["key"] [("bed",0)] rfl (dQ (pv 1)) (fun _ _ _ _=>(bB (i:=0) (show TN (["key","bed"]:List Str) by left) rfl (Or.inl rfl))) (fun _ _ _ _=>bL) (fun _ _ _ _=>(cA bK (cA bK (cA bK (pv 1) bv (fun _ _=>rfl)) bv (fun _ _=>rfl)) (pv 0) (fun _ _=>rfl))) ⟨⟨rfl,rfl,Or.inl rfl⟩,trivial⟩ rfl))))
theorem xp (F:VU K "_law_cell" "_law_cell" (top 24) f fd) (j:mg "len"=Sw):FnOk P w K mg base dS 1 f fd ["_law_script","_law_k"] (qM K 2 ci):=pp (N:=["_law_script","_law_k"]) (g:=qX) F (by fail "sc") rfl rfl rfl fun l A a s H E nd h e i b=>En (cF (by fail "so")
   (iZ bx)) (ar (by fail "te")
   (aX (c7 bv)))
theorem v7 (F:VU K "_law_take" "_law_take" (top 25) f fd) (a:mg "range"=Sw):FnOk P w K mg base dS 1 f fd ["_law_cell_here","_law_salt","_law_many_here"] (qM K 3 aY):=pp (N:=["_law_cell_here","_law_salt","_law_many_here","_law_turn","_law_number"]) (g:=gM) F (by fail "sc") rfl rfl rfl (by delta gM;fail "os")
theorem tK (F:VU K "_law_letter" "_law_letter" (top 26) f fd) (e:i8 P w K mg base 1 "_law_take" ["_law_cell_here","_law_salt","_law_many_here"] 3 aY):FnOk P w K mg base dS 2 f fd ["_law_cell_here","_law_salt"] (qM K 2 dn):=pp (N:=["_law_cell_here","_law_salt"]) (g:=ng) F (by fail "sc") rfl rfl rfl fun l A a s H E nd b i j h=>En (iZ (b5 wj pW (lh (aH au (aH au (aH bx bp)))))) (aX (c7 (cA bK qB (gW e b (ai (pv 0) (ai (pv 1) (ai bv az)))) (fun _ _=>rfl))))
theorem rb (F:VU K "_law_meaning" "_law_meaning" (top 27) f fd) (e:i8 P w K mg base 1 "_law_take" ["_law_cell_here","_law_salt","_law_many_here"] 3 aY) (a:i8 P w K mg base 2 "_law_letter" ["_law_cell_here","_law_salt"] 2 dn) (b:mg "max"=Sw):FnOk P w K mg base dS 3 f fd ["_law_cell_here","_law_layer","_law_many_here"] (qM K 3 eO):=pp (N:=["_law_cell_here","_law_layer","_law_many_here","_law_way","_law_level"]) (g:=eT) F (by fail "sc") rfl rfl rfl (by delta eT;fail "os")
theorem tZ (F:VU K "_law_chords" "_law_chords" (top 28) f fd) (p:i8 P w K mg base 1 "_law_take" ["_law_cell_here","_law_salt","_law_many_here"] 3 aY) (e:mg "range"=Sw) (l:mg "tuple"=Sw) (j:mg "len"=Sw) (h:mg "all"=Sw):FnOk P w K mg base dS 2 f fd ["_law_cell_here","_law_keys_here","_law_first"] (qM K 3 gI):=pp (N:=["_law_cell_here","_law_keys_here","_law_first","_law_found","_law_mask","_law_some","_law_good"]) (g:=gC) F (by fail "sc") rfl rfl rfl fun q A a s H E nd n b o m=>En (cF (by fail "so")
   (cF (wI (jv (aH (b5 C6 bx au) bp)) bM (cF (nY (gx eP (aH (d4 rfl rfl (jv (aH au bp)) bM (iS (b5 ki (b5 B6 (b5 CO au au) bx) bx)) au) bp)) bM)
   (cF (nY (xB (b5 A6 (gx gb (aH au bp)) bx) (gx pO (aH (d4 rfl rfl (fL au) bM dH (b5 ki (b5 cR (b5 cR au au) bx) pW)) bp))) bM)
   (by fail "so"))))
   (by fail "so"))) (ar (by fail "te")
   (ar (xL XS.never rfl (eW rfl e (ai (on Jy bv (pv 1)) az)) (bB (i:=4) nd rfl (Or.inr rfl)) (ar (cX (i:=5) nd rfl (Or.inl rfl) (c8 bS rfl l eY (ai (cI ["_law_key"] [("_law_mask",4)] rfl (eW rfl e (ai (pv 1) az)) (fun _ _ _ _=>(bB (i:=0) (show TN (["_law_key","_law_mask"]:List Str) by left) rfl (Or.inl rfl))) (fun _ _ _ _=>(ti (hV (ka b) (on G2 (on GF (pv 1) (pv 0)) bv) bv (fX _)))) (fun _ _ _ _=>(pv 0)) ⟨⟨rfl,rfl,Or.inl rfl⟩,trivial⟩ rfl) az)))
   (ar (cX (i:=6) nd rfl (Or.inl rfl) (pA (gD Ha (bz db rfl j iR (ai (pv 5) az)) bv (fX _)) (sX (bz (jS rfl) rfl h uX (ai (cI ["_law_key"] [("_law_first",2)] rfl (dQ (pv 5)) (fun _ _ _ _=>(bB (i:=0) (show TN (["_law_key","_law_first"]:List Str) by left) rfl (Or.inl rfl))) (fun _ _ _ _=>bL) (fun _ _ _ _=>(gD (ka b) (cA bK (cA bK (pv 1) (pv 0) (fun _ _=>rfl)) bv (fun _ _=>rfl)) qB (fX _))) ⟨⟨rfl,rfl,Or.inl rfl⟩,trivial⟩ rfl) az)))))
   (aX (by fail "te")))))
   (aX (by fail "te"))))
theorem zi (F:VU K "_law_bed" "_law_bed" (top 29) f fd) (j:i8 P w K mg base 1 "_law_cell" ["_law_script","_law_k"] 2 ci) (q:i8 P w K mg base 1 "_law_take" ["_law_cell_here","_law_salt","_law_many_here"] 3 aY) (h:i8 P w K mg base 3 "_law_meaning" ["_law_cell_here","_law_layer","_law_many_here"] 3 eO) (p:i8 P w K mg base 2 "_law_chords" ["_law_cell_here","_law_keys_here","_law_first"] 3 gI) (e:mg "range"=Sw) (l:mg "tuple"=Sw):FnOk P w K mg base dS 4 f fd ["_law_script","_law_at","_law_keys_here"] (qM K 3 j9):=pp (N:=["_law_script","_law_at","_law_keys_here","_law_cell_here","_law_many_here","_law_layers","_law_layer","_law_cells","_law_chords_here"]) (g:=kg) F (by fail "sc") rfl rfl rfl fun r A a s H E nd b n o m=>En (cF (by fail "so")
   (cF (by fail "so")
   (cF (nY (jV bp) bM)
   (cF (wI (jv (aH au bp)) bM (cF (nY (d4 rfl rfl (jv (aH au bp)) bM dH (lh (aH au (aH (b5 pd (b5 pd (b5 pd au bx) (b5 yR au au)) au) bp)))) bM)
   (CH (Jo (gx eP (aH (d4 rfl rfl (fL au) bM dH (lh (aH au (aH au (aH au bp))))) bp))))))
   (cF (by fail "so")
   (by fail "so")))))) (ar (by fail "te")
   (ar (by fail "te")
   (ar (cX (i:=5) nd rfl (Or.inl rfl) (j6 az))
   (ar (xL XS.never rfl (eW rfl e (ai (pv 4) az)) (bB (i:=6) nd rfl (Or.inr rfl)) (ar (oU (i:=7) ["_law_key"] [("_law_script",0),("_law_at",1),("_law_keys_here",2),("_law_layer",6)] nd rfl rfl rfl (eW rfl e (ai (pv 2) az)) (fun _ _ _ _=>(bB (i:=0) (show TN (["_law_key","_law_script","_law_at","_law_keys_here","_law_layer"]:List Str) by left) rfl (Or.inl rfl))) (fun _ _ _ _=>bL) (fun _ _ _ _=>(gW j b (ai (pv 1) (ai (on oG (on oG (on oG (pv 2) bv) (on BJ (pv 3) (pv 4))) (pv 0)) az)))) ⟨⟨rfl,rfl,Or.inl rfl⟩,⟨⟨rfl,rfl,Or.inl rfl⟩,⟨⟨rfl,rfl,Or.inl rfl⟩,⟨⟨rfl,rfl,Or.inl rfl⟩,trivial⟩⟩⟩⟩ rfl)
   (aX (ic (si Ur UC UD gB (pv 5) (ai (c8 bS rfl l eY (ai (cI ["_law_one"] [("_law_layer",6),("_law_many_here",4)] rfl (dQ (pv 7)) (fun _ _ _ _=>(bB (i:=0) (show TN (["_law_one","_law_layer","_law_many_here"]:List Str) by left) rfl (Or.inl rfl))) (fun _ _ _ _=>bL) (fun _ _ _ _=>(gW h b (ai (pv 0) (ai (pv 1) (ai (pv 2) az))))) ⟨⟨rfl,rfl,Or.inl rfl⟩,⟨⟨rfl,rfl,Or.inl rfl⟩,trivial⟩⟩ rfl) az)) az))))))
   (ar (by fail "te")
   (aX (by fail "te")))))))
theorem wB (F:VU K "_law_keys" "_law_keys" (top 30) f fd) (e:i8 P w K mg base 1 "_law_cell" ["_law_script","_law_k"] 2 ci) (h:i8 P w K mg base 1 "_law_take" ["_law_cell_here","_law_salt","_law_many_here"] 3 aY):FnOk P w K mg base dS 2 f fd ["_law_script"] (qM K 1 jo):=pp (N:=["_law_script"]) (g:=qQ) F (by fail "sc") rfl rfl rfl fun m A a s H E nd b j l i=>En (iZ (b5 cR (jV (aH bx (aH bx (aH bx (aH bx bp))))) (lh (aH (lh (aH au (aH bx bp))) (aH bx (aH bx bp)))))) (aX (c7 (cA bK (j6 (ai bv (ai bv (ai bv (ai bv az))))) (gW h b (ai (gW e b (ai (pv 0) (ai bv az))) (ai bv (ai bv az)))) (fun _ _=>rfl))))
theorem xt (F:VU K "events_of" "events_of" (top 15) f fd) (b:mg "range"=Sw):FnOk P w K mg base dS 1 f fd ["bed"] (qM K 1 eR):=pp (N:=["bed","downs","ups"]) (g:=lx) F (by fail "sc") rfl rfl rfl fun m A a s H E nd j h l e=>En (cF (nY (d4 rfl rfl (jv (aH (b5 cR au bx) bp)) bM dH (xZ (aH pW (aH au bp)))) bM)
   (cF (nY (d4 rfl rfl (jv (aH (b5 cR au bx) bp)) bM dH (xZ (aH pW (aH au bp)))) bM)
   (by fail "so"))) (ar (oU (i:=1) ["key"] [] nd rfl rfl rfl (eW rfl b (ai (cA bK (pv 0) bv (fun _ _=>rfl)) az)) (fun _ _ _ _=>(bB (i:=0) (show TN (["key"]:List Str) by left) rfl (Or.inl rfl))) (fun _ _ _ _=>bL) (fun _ _ _ _=>(kj (ai qB (ai (pv 0) az)))) trivial rfl)
   (ar (oU (i:=2) ["key"] [] nd rfl rfl rfl (eW rfl b (ai (cA bK (pv 0) bv (fun _ _=>rfl)) az)) (fun _ _ _ _=>(bB (i:=0) (show TN (["key"]:List Str) by left) rfl (Or.inl rfl))) (fun _ _ _ _=>bL) (fun _ _ _ _=>(kj (ai qB (ai (pv 0) az)))) trivial rfl)
   (aX (by fail "te"))))
theorem wG (F:VU K "_law_sent" "_law_sent" (top 32) f fd) (e:mg "isinstance"=Sw) (m:mg "tuple"=Sw) (l:mg "len"=Sw) (j:mg "all"=Sw) (b:mg "str"=Sw):FnOk P w K mg base dS 1 f fd ["_law_found"] (qM K 1 fO):=pp (N:=["_law_found","_law_thing"]) (g:=qN) F (by fail "sc") rfl rfl rfl fun q A a s H E nd o h p n=>En (cF (by fail "so")
   (cF (wI (fL au) bM (cF (M3 (Ay (wT (Ds (xc (by simp) au))) (Ay (iS (b5 FB (gx gb (aH au bp)) bx)) (wT (Ds (gx pO (aH (d4 rfl rfl (fL au) bM dH (xc (by simp) au)) bp)))))) (iZ GY) B8)
   (by fail "so")))
   (iZ GY))) (ar (by fail "te")
   (ar (xL XS.never rfl (dQ (pv 0)) (bB (i:=1) nd rfl (Or.inl rfl)) (ar (yn (PW.pt (Cv (Bb (wg (bz mw rfl e ib (ai (pv 1) (ai (rX (v:= .ty "tuple") rfl m eY rfl) az))))) (Cv (hV (Ja h) (bz db rfl l iR (ai (pv 1) az)) bv (fX _)) (Bs (Bb (wg (bz (jS rfl) rfl j uX (ai (cI ["_law_part"] [] rfl (dQ (pv 1)) (fun _ _ _ _=>(bB (i:=0) (show TN (["_law_part"]:List Str) by left) rfl (Or.inl rfl))) (fun _ _ _ _=>bL) (fun _ _ _ _=>(bz mw rfl e ib (ai (pv 0) (ai (rX (v:= .ty "str") rfl b QL rfl) az)))) trivial rfl) az)))))))) (aX (c7 Gx)) oK)
   (aX (by fail "te"))))
   (aX (c7 Gx))))
theorem tX (F:VU K "_law_shaped" "_law_shaped" (top 33) f fd) (m:i8 P w K mg base 1 "_law_sent" ["_law_found"] 1 fO) (n:mg "isinstance"=Sw) (p:mg "tuple"=Sw) (o:mg "len"=Sw) (j:mg "int"=Sw) (l:mg "bool"=Sw) (b:mg "all"=Sw):FnOk P w K mg base dS 2 f fd ["_law_found","_law_long"] (qM K 2 gG):=pp (N:=["_law_found","_law_long","_law_row","_law_state"]) (g:=mY) F (by fail "sc") rfl rfl rfl fun t A a s H E nd h e r q=>En (cF (by fail "so")
   (cF (by fail "so")
   (cF (by fail "so")
   (iZ (gx pO (aH (d4 rfl rfl (fL (b5 cR au bx)) bM dH (xB (xc (by simp) au) (xB (b5 ki (gx gb (aH au bp)) au) (gx pO (aH (d4 rfl rfl (fL au) bM dH (lh (aH au bp))) bp))))) bp)))))) (ar (by fail "te")
   (ar (by fail "te")
   (ar (by fail "te")
   (aX (c7 (bz (jS rfl) rfl b uX (ai (cI ["_law_row"] [("_law_long",1)] rfl (dQ (cA bK (pv 0) bv (fun _ _=>rfl))) (fun _ _ _ _=>(bB (i:=0) (show TN (["_law_row","_law_long"]:List Str) by left) rfl (Or.inl rfl))) (fun _ _ _ _=>bL) (fun _ _ _ _=>(pA (bz mw rfl n ib (ai (pv 0) (ai (rX (v:= .ty "tuple") rfl p eY rfl) az))) (pA (gD (ka e) (bz db rfl o iR (ai (pv 0) az)) (pv 1) (fX _)) (sX (bz (jS rfl) rfl b uX (ai (cI ["_law_x"] [] rfl (dQ (pv 0)) (fun _ _ _ _=>(bB (i:=0) (show TN (["_law_x"]:List Str) by left) rfl (Or.inl rfl))) (fun _ _ _ _=>bL) (fun _ _ _ _=>(gW m h (ai (pv 0) az))) trivial rfl) az)))))) ⟨⟨rfl,rfl,Or.inl rfl⟩,trivial⟩ rfl) az)))))))
end
end K42
namespace K42
open PySem L2 L3 L10 STP
section
variable {P:Te} {w:TF} {K:Ld} {mg:Str->Option Sx} {base:Heap} {f:SI} {fd:Uc}
theorem pP (F:VU K "__init__" "Hand.__init__" (bc (top 10) 0) f fd) (e:gr K "Hand" ["bed","acts","waiting","once","sent"]) (b:mg "dict"=Sw):FnOk P w K mg base dS 3 f fd ["self","bed","standing"] (dw K 3 eC):=kN (N:=["self","bed","standing"]) (g:=kH) F (by fail "sc") rfl rfl rfl fun m A a s H E nd j i l h=>z7 (aU (iw e (.head _) aF (aw au))
   (aU (by fail "so")
   (aU (by fail "so")
   (aU (by fail "so")
   (by fail "so"))))) (ar (kr (pv 0) (pv 1) rfl)
   (ar (by fail "te")
   (ar (by fail "te")
   (ar (by fail "te")
   (aX (by fail "te"))))))
theorem sY (F:VU K "stands" "Hand.stands" (bc (top 10) 1) f fd) (a:gr K "Hand" ["bed","acts","waiting","once","sent"]) (j:mg "tuple"=Sw) (h:mg "sorted"=Sw):FnOk P w K mg base dS 3 f fd ["self"] (dw K 1 bG):=kN (N:=["self"]) (g:=mZ) F (by fail "sc") rfl rfl rfl fun o A b s H E nd n m e l=>z7 (gm (mF (aB (fy eP (aB (fZ rfl rfl (md (zw (bE a (.tail _ (.head _)) aF))) bt fE (mF (aB (aw au) (aB (yu (bE a (.tail _ (.head _)) aF) (aw au)) bf)))) bf)) (aB (bE a (.tail _ (.tail _ (.head _))) aF) (aB (bE a (.tail _ (.tail _ (.tail _ (.head _)))) aF) bf))))) (aX (c7 (kj (ai (c8 bS rfl j eY (ai (cI ["key"] [("self",0)] rfl (dQ (bz (sf rfl) rfl h za (ai (b9 (pv 0) rfl) az))) (fun _ _ _ _=>(bB (i:=0) (show TN (["key","self"]:List Str) by left) rfl (Or.inl rfl))) (fun _ _ _ _=>bL) (fun _ _ _ _=>(kj (ai (pv 0) (ai (BW e (b9 (pv 1) rfl) (pv 0) (fun _ _=>rfl)) az)))) ⟨⟨rfl,rfl,Or.inl rfl⟩,trivial⟩ rfl) az)) (ai (b9 (pv 0) rfl) (ai (b9 (pv 0) rfl) az))))))
theorem n6 (F:VU K "is_waiting" "Hand.is_waiting" (bc (top 10) 2) f fd) (b:gr K "Hand" ["bed","acts","waiting","once","sent"]):FnOk P w K mg base dS 3 f fd ["self","key"] (dw K 2 cg):=kN (N:=["self","key"]) (g:=jp) F (by fail "sc") rfl rfl rfl fun l A a s H E nd i h j e=>z7 (gm (wC (iK BM (bE b (.tail _ (.tail _ (.head _))) aF) (aw sB)) (iK wR (aw au) (gY (bE b (.tail _ (.tail _ (.head _))) aF) (aw bx))))) (aX (c7 (pA (gD BS (b9 (pv 0) rfl) nK (fX _)) (sX (gD (wq e) (pv 1) (cA bK (b9 (pv 0) rfl) bv (fun _ _=>rfl)) (by with_unfolding_all rfl))))))
theorem rA (F:VU K "has_act" "Hand.has_act" (bc (top 10) 13) f fd) (h:gr K "Hand" ["bed","acts","waiting","once","sent"]) (e:mg "list"=Sw):FnOk P w K mg base dS 3 f fd ["self","act"] (dw K 2 bO):=kN (N:=["self","act"]) (g:=l7) F (by fail "sc") rfl rfl rfl fun m A a s H E nd j i l b=>z7 (gm (iK wR (aw au) (zK (bE h (.tail _ (.head _)) aF)))) (aX (c7 (gD (wq b) (pv 1) (c8 (tF rfl) rfl e Jb (ai (FR VQ WK Zs uT (b9 (pv 0) rfl)) az)) (by with_unfolding_all rfl))))
theorem xS (F:VU K "come" "Hand.come" (bc (top 10) 11) f fd) (b:gr K "Hand" ["bed","acts","waiting","once","sent"]) (a:b8 P w K mg base dS 3 "Hand" "has_act" ["self","act"] (dw K 2 bO)):FnOk P w K mg base dS 4 f fd ["self","key","act"] (dw K 3 bC):=kN (N:=["self","key","act"]) (g:=lL) F (by fail "sc") rfl rfl rfl (by delta lL;fail "ok")
theorem Bu (F:VU K "go" "Hand.go" (bc (top 10) 12) f fd) (b:gr K "Hand" ["bed","acts","waiting","once","sent"]) (a:b8 P w K mg base dS 3 "Hand" "has_act" ["self","act"] (dw K 2 bO)):FnOk P w K mg base dS 4 f fd ["self","key"] (dw K 2 jL):=kN (N:=["self","key","act"]) (g:=qC) F (by fail "sc") rfl rfl rfl (by delta qC;fail "ok")
theorem sZ (F:VU K "decide" "Hand.decide" (bc (top 10) 10) f fd) (h:gr K "Hand" ["bed","acts","waiting","once","sent"]) (q:b8 P w K mg base dS 4 "Hand" "come" ["self","key","act"] (dw K 3 bC)) (m:i8 P w K mg base 1 "chord_acts" ["bed","keys"] 2 fY) (e:mg "zip"=Sw) {b:SI} (o:mg "CHORD"=lD (.ref b)) (p:∀O H,L3.DV O K H (.ref b) (.tuple [(.str "chord")])):FnOk P w K mg base dS 5 f fd ["self"] (dw K 1 b6):=kN (N:=["self","keys","what","acts","key","act"]) (g:=nu) F (by fail "sc") rfl rfl rfl fun r A a s H E nd l j n i=>z7 (aU (by fail "so")
   (aU (by fail "so")
   (aU (iw h (.tail _ (.tail _ (.head _))) aF (aw sB))
   (aU (by fail "so")
   (by fail "so"))))) (ar (by fail "te")
   (ar (by fail "te")
   (ar (kr (pv 0) nK rfl)
   (ar (by fail "te")
   (aX (by fail "te"))))))
theorem mW (F:VU K "makes_chord" "Hand.makes_chord" (bc (top 10) 4) f fd) (l:gr K "Hand" ["bed","acts","waiting","once","sent"]) (i:b8 P w K mg base dS 3 "Hand" "stands" ["self"] (dw K 1 bG)) (b:i8 P w K mg base 1 "layer_of" ["standing"] 1 d9) (j:i8 P w K mg base 1 "chords_over" ["bed","keys"] 2 bH) {a:SI} (e:mg "CHORD"=lD (.ref a)) (h:∀O H,L3.DV O K H (.ref a) (.tuple [(.str "chord")])):FnOk P w K mg base dS 4 f fd ["self","key"] (dw K 2 d7):=kN (N:=["self","key"]) (g:=fH) F (by fail "sc") rfl rfl rfl (by delta fH;fail "ok")
theorem k7 (F:VU K "put_to_chord" "Hand.put_to_chord" (bc (top 10) 5) f fd) (j:gr K "Hand" ["bed","acts","waiting","once","sent"]) (m:b8 P w K mg base dS 5 "Hand" "decide" ["self"] (dw K 1 b6)) (n:i8 P w K mg base 1 "chords_over" ["bed","keys"] 2 bH) (e:mg "len"=Sw) {h:SI} (q:mg "CHORD"=lD (.ref h)) (r:∀O H,L3.DV O K H (.ref h) (.tuple [(.str "chord")])):FnOk P w K mg base dS 6 f fd ["self","key"] (dw K 2 dD):=kN (N:=["self","key","keys"]) (g:=g8) F (by fail "sc") rfl rfl rfl fun t A a s H E nd b l p o=>z7 (aU (by fail "so")
   (aU (by fail "so")
   (wx (gJ (iK ki (fZ rfl rfl (md (BH (aB (bE j (.head _) aF) (aB (aw au) bf)))) bt fE (aw (gx gb (aH (b5 cR au bx) bp)))) (aw (jV (aH (gx gb (aH au bp)) bp))))) (iO (wL j aF bf)) pk))) (ar (by fail "te")
   (ar (by fail "te")
   (aX (yn (hV (ka l) (cI ["chord"] [] rfl (dQ (gW n b (ai (b9 (pv 0) rfl) (ai (pv 2) az)))) (fun _ _ _ _=>(bB (i:=0) (show TN (["chord"]:List Str) by left) rfl (Or.inl rfl))) (fun _ _ _ _=>bL) (fun _ _ _ _=>(bz db rfl e iR (ai (cA bK (pv 0) bv (fun _ _=>rfl)) az))) trivial rfl) (j6 (ai (bz db rfl e iR (ai (pv 2) az)) az)) (fX _)) (aX (ic (IQ m Dv b (pv 0)))) oK))))
theorem uK (F:VU K "begin" "Hand.begin" (bc (top 10) 6) f fd) (q:gr K "Hand" ["bed","acts","waiting","once","sent"]) (o:b8 P w K mg base dS 3 "Hand" "stands" ["self"] (dw K 1 bG)) (n:b8 P w K mg base dS 4 "Hand" "come" ["self","key","act"] (dw K 3 bC)) (j:i8 P w K mg base 1 "layer_of" ["standing"] 1 d9) (i:i8 P w K mg base 1 "looked_up" ["bed","layer","key"] 3 jr) (p:i8 P w K mg base 1 "chords_over" ["bed","keys"] 2 bH) {b:SI} (l:mg "CHORD"=lD (.ref b)) (m:∀O H,L3.DV O K H (.ref b) (.tuple [(.str "chord")])) {a:SI} (e:mg "NONE"=lD (.ref a)) (h:∀O H,L3.DV O K H (.ref a) (.tuple [(.str "none")])):FnOk P w K mg base dS 5 f fd ["self","key"] (dw K 2 gl):=kN (N:=["self","key","layer","meaning","word"]) (g:=ky) F (by fail "sc") rfl rfl rfl (by delta ky;fail "ok")
theorem uL (F:VU K "press" "Hand.press" (bc (top 10) 3) f fd) (j:gr K "Hand" ["bed","acts","waiting","once","sent"]) (h:b8 P w K mg base dS 3 "Hand" "is_waiting" ["self","key"] (dw K 2 cg)) (b:b8 P w K mg base dS 4 "Hand" "makes_chord" ["self","key"] (dw K 2 d7)) (e:b8 P w K mg base dS 6 "Hand" "put_to_chord" ["self","key"] (dw K 2 dD)) (i:b8 P w K mg base dS 5 "Hand" "decide" ["self"] (dw K 1 b6)) (a:b8 P w K mg base dS 5 "Hand" "begin" ["self","key"] (dw K 2 gl)):FnOk P w K mg base dS 7 f fd ["self","key"] (dw K 2 hW):=kN (N:=["self","key"]) (g:=kB) F (by fail "sc") rfl rfl rfl (by delta kB;fail "ok")
theorem tW (F:VU K "settle" "Hand.settle" (bc (top 10) 8) f fd) (j:gr K "Hand" ["bed","acts","waiting","once","sent"]) (i:b8 P w K mg base dS 5 "Hand" "decide" ["self"] (dw K 1 b6)) (h:b8 P w K mg base dS 4 "Hand" "come" ["self","key","act"] (dw K 3 bC)) {a:SI} (b:mg "CHORD"=lD (.ref a)) (e:∀O H,L3.DV O K H (.ref a) (.tuple [(.str "chord")])):FnOk P w K mg base dS 6 f fd ["self","key"] (dw K 2 gF):=kN (N:=["self","key","what"]) (g:=jD) F (by fail "sc") rfl rfl rfl (by delta jD;fail "ok")
theorem xx (F:VU K "lift" "Hand.lift" (bc (top 10) 7) f fd) (h:gr K "Hand" ["bed","acts","waiting","once","sent"]) (e:b8 P w K mg base dS 3 "Hand" "is_waiting" ["self","key"] (dw K 2 cg)) (b:b8 P w K mg base dS 6 "Hand" "settle" ["self","key"] (dw K 2 gF)) (a:b8 P w K mg base dS 4 "Hand" "go" ["self","key"] (dw K 2 jL)):FnOk P w K mg base dS 7 f fd ["self","key"] (dw K 2 jt):=kN (N:=["self","key"]) (g:=lu) F (by fail "sc") rfl rfl rfl (by delta lu;fail "ok")
theorem rD (F:VU K "wait_on" "Hand.wait_on" (bc (top 10) 9) f fd) (b:gr K "Hand" ["bed","acts","waiting","once","sent"]) (a:b8 P w K mg base dS 5 "Hand" "decide" ["self"] (dw K 1 b6)):FnOk P w K mg base dS 6 f fd ["self"] (dw K 1 gp):=kN (N:=["self","age"]) (g:=iU) F (by fail "sc") rfl rfl rfl (by delta iU;fail "ok")
theorem JT (F:VU K "step" "step" (top 9) f fd) (j:gr K "Hand" ["bed","acts","waiting","once","sent"]) (a:vN P w K mg base dS 3 "Hand" ["self","bed","standing"] (dw K 3 eC)) (e:b8 P w K mg base dS 6 "Hand" "wait_on" ["self"] (dw K 1 gp)) (h:b8 P w K mg base dS 7 "Hand" "press" ["self","key"] (dw K 2 hW)) (b:b8 P w K mg base dS 7 "Hand" "lift" ["self","key"] (dw K 2 jt)) (i:b8 P w K mg base dS 3 "Hand" "stands" ["self"] (dw K 1 bG)):FnOk P w K mg base dS 8 f fd ["bed","standing","event"] (dw K 3 STP.lW):=kN (N:=["bed","standing","event","hand"]) (g:=Be) F (by fail "sc") rfl rfl rfl (by delta Be;fail "ok")
theorem rc (F:VU K "enter" "Places.enter" (bc (top 18) 1) f fd) (a:gr K "Places" ["most","found","numbers"]) {e j b:SI} {p:Uc} {t:Obj} (o:L9.XC K e j b) (v:K.lookup b=lD t) (y:Vv K (.ref b)=Sz) (m:FnOk P w K mg base dS 1 b p ["self","most"] (L9.ww e "most")) (u:Binds K p ["self","most"] []) (l:Ta K S4 "TooMany"=lD (lD (.ref e))) (n:mg "TooMany"=lD (.ref e)) (q:mg "len"=Sw):FnOk P w K mg base (L4.jd P w) 3 f fd ["self","place","back","event"] (dw K 4 bT):=Di (N:=["self","place","back","event"]) (g:=dJ) F (by fail "sc") rfl rfl rfl fun C A h s H E nd r i B z=>z7 (aU (wx (Mw (HY (aw au) (bE a (.tail _ (.tail _ (.head _))) aF))) (aU (wx (gJ (iK Ff (fy gb (aB (bE a (.tail _ (.head _)) aF) bf)) (bE a (.head _) aF))) (Bk l (bE a (.head _) aF)) pk)
   (aU (Ek (bE a (.tail _ (.tail _ (.head _))) aF) (aw au) (fy gb (aB (bE a (.tail _ (.head _)) aF) bf)))
   (iO (o9 (bE a (.tail _ (.head _)) aF) (aw (xZ (aH au (aH au (aH au bp))))))))) pk)
   (gm (D7 (bE a (.tail _ (.tail _ (.head _))) aF) (aw au)))) (ar (yn (GD (LD.abT i (pv 1) (b9 (pv 0) rfl)) (by with_unfolding_all rfl)) (ar (yn (hV MX (bz db rfl q iR (ai (b9 (pv 0) rfl) az)) (b9 (pv 0) rfl) (fX _)) (aX (L9.DZ o v y m u (r.mono (by decide)) rfl n (ai (b9 (pv 0) rfl) az))) oK)
   (ar (LD.ab3 i (b9 (pv 0) rfl) (pv 1) (bz db rfl q iR (ai (b9 (pv 0) rfl) az)) rfl)
   (aX (ic (si Ur UC UD gB (b9 (pv 0) rfl) (ai (kj (ai (pv 1) (ai (pv 2) (ai (pv 3) az)))) az)))))) oK)
   (aX (c7 (LD.ab7 i (b9 (pv 0) rfl) (pv 1) (fun _ _=>rfl)))))
theorem nM (F:VU K "__init__" "Places.__init__" (bc (top 18) 0) f fd) (a:gr K "Places" ["most","found","numbers"]) (h:b8 P w K mg base (L4.jd P w) 3 "Places" "enter" ["self","place","back","event"] (dw K 4 bT)):FnOk P w K mg base (L4.jd P w) 4 f fd ["self","first","most"] (dw K 3 dm):=Di (N:=["self","first","most"]) (g:=c9) F (by fail "sc") rfl rfl rfl fun m A b s H E nd e j l i=>z7 (aU (iw a (.head _) aF (aw au))
   (aU (iw a (.tail _ (.head _)) aF (aw (jV bp)))
   (aU (iw a (.tail _ (.tail _ (.head _))) aF vq)
   (iO (Gm a aF (aB (aw au) (aB (aw sB) (aB (aw sB) bf)))))))) (ar (kr (pv 0) (pv 2) rfl)
   (ar (kr (pv 0) (j6 az) rfl)
   (ar (kr (pv 0) LD.aaj rfl)
   (aX (ic (Dz h L4.lJ e (pv 0) (ai (pv 1) (ai nK (ai nK az)))))))))
theorem D3 (F:VU K "walked" "walked" (top 17) f fd) (a:gr K "Places" ["most","found","numbers"]) (q:vN P w K mg base (L4.jd P w) 4 "Places" ["self","first","most"] (dw K 3 dm)) (t:b8 P w K mg base (L4.jd P w) 3 "Places" "enter" ["self","place","back","event"] (dw K 4 bT)) (j:Pn P w K mg base 8 "step" ["bed","standing","event"] 3 STP.lW) (r:i8 P w K mg base 1 "events_of" ["bed"] 1 eR) (l:mg "len"=Sw) (m:mg "tuple"=Sw) (h:mg "zip"=Sw) {n:SI} (p:mg "AT_REST"=lD (.ref n)) (o:∀O H,L3.DV O K H (.ref n) (.tuple [(.tuple []),.none,.none])):FnOk P w K mg base (L4.jd P w) 9 f fd ["bed","most"] (dw K 2 gO):=Di (N:=["bed","most","events","places","steps","sends","room","standing","answers"]) (g:=r9) F (by fail "sc") rfl rfl rfl fun B A e s H E nd b y z u=>z7 (aU (cU (l9 (aw (lh (aH au bp)))) bt)
   (aU (cU (GB a (aB (aw (Ab o)) (aB (aw au) bf))) bt)
   (aU (cU (aw (jV bp)) bt)
   (aU (cU (aw (jV bp)) bt)
   (aU (qA (gJ (iK Fg (fy gb (aB aF bf)) (fy gb (aB (bE a (.tail _ (.head _)) aF) bf)))) (aU (cU (fy gb (aB aF bf)) bt)
   (aU (cU (gY (gY (bE a (.tail _ (.head _)) aF) (aw au)) (aw bx)) bt)
   (aU (cU (l9 (fZ rfl rfl (kZ (fL au)) bt fE (u6 (aB (aw au) (aB (aw au) (aB (aw au) bf)))))) bt)
   (aU (iO (o9 aF (fy eP (aB (Ea rfl rfl (kZ (FV (aH au (aH au bp)))) (Dc (tR bt (tR bt BK))) fE (Gm a aF (aB (aw (b5 cR au bx)) (aB (aw au) (aB (aw au) bf))))) bf))))
   (iO (o9 aF (aw (gx eP (aH (d4 rfl rfl (fL au) bM dH (gx eP (aH (b5 cR au bx) bp))) bp))))))))))
   (gm (mF (aB (bE a (.tail _ (.head _)) aF) (aB aF (aB aF bf)))))))))) (ar (cX (i:=2) nd rfl (Or.inl rfl) (gW r b (ai (pv 0) az)))
   (ar (cX (i:=3) nd rfl (Or.inr rfl) (HR q L4.lJ b (ai (BL (v:= .ref _) rfl p rfl) (ai (pv 1) az))))
   (ar (cX (i:=4) nd rfl (Or.inl rfl) (j6 az))
   (ar (cX (i:=5) nd rfl (Or.inl rfl) (j6 az))
   (ar (sW XS.leaving (hV ML (bz db rfl l iR (ai (pv 4) az)) (bz db rfl l iR (ai (b9 (pv 3) rfl) az)) (fX _)) (ar (cX (i:=6) nd rfl (Or.inr rfl) (bz db rfl l iR (ai (pv 4) az)))
   (ar (cX (i:=7) nd rfl (Or.inr rfl) (cA bK (cA bK (b9 (pv 3) rfl) (pv 6) (fun _ _=>rfl)) bv (fun _ _=>rfl)))
   (ar (oU (i:=8) ["event"] [("bed",0),("standing",7)] nd rfl rfl rfl (dQ (pv 2)) (fun _ _ _ _=>(bB (i:=0) (show TN (["event","bed","standing"]:List Str) by left) rfl (Or.inl rfl))) (fun _ _ _ _=>bL) (fun _ _ _ _=>(gW j b (ai (pv 1) (ai (pv 2) (ai (pv 0) az))))) ⟨⟨rfl,rfl,Or.inl rfl⟩,⟨⟨rfl,rfl,Or.inl rfl⟩,trivial⟩⟩ rfl)
   (ar (ic (si Ur UC UD gB (pv 4) (ai (c8 bS rfl m eY (ai (Gz ["event","answer"] [("places",3),("room",6)] ⟨rfl,rfl⟩ rfl rfl L4.LS rfl (GW rfl h (ai (pv 2) (ai (pv 8) az))) (fun _ _ _ _=>(AL rfl (lO (bB (i:=0) (show TN (["event","answer","places","room"]:List Str) by left) rfl (Or.inl rfl)) (lO (bB (i:=1) (show TN (["event","answer","places","room"]:List Str) by left) rfl (Or.inl rfl)) wE)))) (fun _ _ _ _=>bL) (fun _ _ _ _=>(Dz t L4.Ji b (pv 2) (ai (cA bK (pv 1) bv (fun _ _=>rfl)) (ai (pv 3) (ai (pv 0) az))))) ⟨⟨rfl,rfl,Or.inl rfl⟩,⟨⟨rfl,rfl,Or.inl rfl⟩,trivial⟩⟩ rfl) az)) az)))
   (aX (ic (si Ur UC UD gB (pv 5) (ai (c8 bS rfl m eY (ai (cI ["answer"] [] rfl (dQ (pv 8)) (fun _ _ _ _=>(bB (i:=0) (show TN (["answer"]:List Str) by left) rfl (Or.inl rfl))) (fun _ _ _ _=>bL) (fun _ _ _ _=>(c8 bS rfl m eY (ai (cA bK (pv 0) bv (fun _ _=>rfl)) az))) trivial rfl) az)) az)))))))))
   (aX (c7 (kj (ai (b9 (pv 3) rfl) (ai (pv 4) (ai (pv 5) az)))))))))))
theorem HU {i:SI} {b:Array Sx} (F:Zt K "rooms" "rooms" (top 16) f fd i b) (h:pG P w K mg base (L4.jd P w) 9 "walked" ["bed","most"] [] (dw K 2 gO)):FnOk P w K mg base (L4.jd P w) 10 f fd ["bed","most"] (dw K 2 dc):=Iu (N:=["bed","most"]) (g:=xX) F (by fail "sc") rfl rfl rfl fun n A a s H E nd e l m j=>z7 (gm (gY (vK (fun _ _=> .nil) (aB (aw au) (aB (aw au) bf))) (aw bx))) (aX (c7 (cA bK (oP h e L4.lJ (ai (pv 0) (ai (pv 1) az))) bv (fun _ _=>rfl))))
theorem zm (F:VU K "numbered" "numbered" (top 22) f fd) (e:mg "len"=Sw):FnOk P w K mg base dS 3 f fd ["marks"] (dw K 1 d8):=kN (N:=["marks","numbers"]) (g:=nQ) F (by fail "sc") rfl rfl rfl fun m A a s H E nd j b l h=>z7 (aU (cU vq bt)
   (gm (fZ rfl rfl (md aF) bt fE (Ij aF (aw au) (Et aF))))) (ar (cX (i:=1) nd rfl (Or.inr rfl) LD.aaj)
   (aX (c7 (cI ["mark"] [("numbers",1)] rfl (dQ (pv 0)) (fun _ _ _ _=>(bB (i:=0) (show TN (["mark","numbers"]:List Str) by left) rfl (Or.inl rfl))) (fun _ _ _ _=>bL) (fun _ _ _ _=>(LD.ac0 b (pv 1) (pv 0) (bz LD.aa2 rfl e iR (ai (pv 1) az)) ⟨rfl,rfl,rfl,rfl⟩)) ⟨⟨rfl,rfl,Or.inl rfl⟩,trivial⟩ rfl))))
theorem nG (F:VU K "mark_of" "Sorting.mark_of" (bc (top 21) 1) f fd) (e:gr K "Sorting" ["steps","sends","rounds"]) (b:mg "tuple"=Sw):FnOk P w K mg base dS 3 f fd ["self","room"] (dw K 2 bF):=kN (N:=["self","room","alike"]) (g:=jw) F (by fail "sc") rfl rfl rfl fun n A a s H E nd l j m h=>z7 (aU (by fail "so")
   (gm (mF (aB (gY aF (aw au)) (aB (fy eP (aB (fZ rfl rfl (md (gY (bE e (.head _) aF) (aw au))) bt fE (gY aF (aw au))) bf)) bf))))) (ar (by fail "te")
   (aX (c7 (kj (ai (cA bK (pv 2) (pv 1) (fun _ _=>rfl)) (ai (c8 bS rfl b eY (ai (cI ["there"] [("alike",2)] rfl (dQ (cA bK (b9 (pv 0) rfl) (pv 1) (fun _ _=>rfl))) (fun _ _ _ _=>(bB (i:=0) (show TN (["there","alike"]:List Str) by left) rfl (Or.inl rfl))) (fun _ _ _ _=>bL) (fun _ _ _ _=>(cA bK (pv 1) (pv 0) (fun _ _=>rfl))) ⟨⟨rfl,rfl,Or.inl rfl⟩,trivial⟩ rfl) az)) az))))))
theorem mM (F:VU K "__init__" "Sorting.__init__" (bc (top 21) 0) f fd) (a:gr K "Sorting" ["steps","sends","rounds"]) (m:pG P w K mg base (L4.jd P w) 9 "walked" ["bed","most"] [] (dw K 2 gO)) (n:b8 P w K mg base dS 3 "Sorting" "mark_of" ["self","room"] (dw K 2 bF)) (h:Pn P w K mg base 3 "numbered" ["marks"] 1 d8) (j:mg "max"=Sw) (p:mg "range"=Sw) (o:mg "len"=Sw):FnOk P w K mg base (L4.jd P w) 10 f fd ["self","bed","most"] (dw K 3 cQ):=Di (N:=["self","bed","most","walk","finer"]) (g:=iX) F (by fail "sc") rfl rfl rfl fun t A e s H E nd b l r q=>z7 (aU (cU (l9 (vK (fun _ _=> .nil) (aB (aw au) (aB (aw au) bf)))) bt)
   (aU (iw a (.head _) aF (aw (b5 cR au bx)))
   (aU (iw a (.tail _ (.head _)) aF (aw (b5 cR au bx)))
   (aU (iw a (.tail _ (.tail _ (.head _))) aF (aw (jV bp)))
   (aU (cU (qE (aB (bE a (.tail _ (.head _)) aF) bf)) bt)
   (qA (F6 (gJ (iK ki (bE a (.tail _ (.tail _ (.head _))) aF) (aw (jV bp)))) (gJ (iK A6 (fy rR (aB aF bf)) (fy rR (aB (gY (bE a (.tail _ (.tail _ (.head _))) aF) (aw (FJ wD bx))) bf))))) (aU (iO (o9 (bE a (.tail _ (.tail _ (.head _))) aF) aF))
   (cU (qE (aB (fZ rfl rfl (HW (fy gb (aB (bE a (.head _) aF) bf))) bt fE (wL a aF (aB (aw au) bf))) bf)) bt)))))))) (ar (cX (i:=3) nd rfl (Or.inl rfl) (oP m b L4.lJ (ai (pv 1) (ai (pv 2) az))))
   (ar (kr (pv 0) (cA bK (pv 3) bv (fun _ _=>rfl)) rfl)
   (ar (kr (pv 0) (cA bK (pv 3) bv (fun _ _=>rfl)) rfl)
   (ar (kr (pv 0) (j6 az) rfl)
   (ar (cX (i:=4) nd rfl (Or.inl rfl) (gW h b (ai (b9 (pv 0) rfl) az)))
   (aX (sW XS.leaving (PW.pt (Cv (hV (ka l) (b9 (pv 0) rfl) (j6 az) (fX _)) (Bs (hV Ha (bz (mG rfl) rfl j zZ (ai (pv 4) az)) (bz (mG rfl) rfl j zZ (ai (cA bK (b9 (pv 0) rfl) (IS Ai bv) (fun _ _=>rfl)) az)) (fX _))))) (ar (ic (si Ur UC UD gB (b9 (pv 0) rfl) (ai (pv 4) az)))
   (aX (cX (i:=4) nd rfl (Or.inl rfl) (gW h b (ai (cI ["room"] [("self",0)] rfl (eW rfl p (ai (bz db rfl o iR (ai (b9 (pv 0) rfl) az)) az)) (fun _ _ _ _=>(bB (i:=0) (show TN (["room","self"]:List Str) by left) rfl (Or.inl rfl))) (fun _ _ _ _=>bL) (fun _ _ _ _=>(Dz n Dv b (pv 1) (ai (pv 0) az))) ⟨⟨rfl,rfl,Or.inl rfl⟩,trivial⟩ rfl) az))))))))))))
theorem tj {o:SI} {e:Array Sx} (F:Zt K "machine" "machine" (top 20) f fd o e) (a:gr K "Sorting" ["steps","sends","rounds"]) (l:vN P w K mg base (L4.jd P w) 10 "Sorting" ["self","bed","most"] (dw K 3 cQ)) (n:mg "range"=Sw) (m:mg "max"=Sw) (h:mg "tuple"=Sw):FnOk P w K mg base (L4.jd P w) 12 f fd ["bed","most"] (dw K 2 eD):=Iu (N:=["bed","most","sorting","state_of","firsts","steps"]) (g:=vV) F (by fail "sc") rfl rfl rfl fun t A b s H E nd j q r p=>z7 (aU (cU (GB a (aB (aw au) (aB (aw au) bf))) bt)
   (aU (cU (l9 (gY (bE a (.tail _ (.tail _ (.head _))) aF) (aw (FJ wD bx)))) bt)
   (aU (cU (l9 (aw (d4 rfl rfl (jv (aH (b5 pd (gx L10.rR (aH au bp)) bx) bp)) bM dH (L10.Ol au)))) bt)
   (aU (cU (fy eP (aB (fZ rfl rfl (kZ (fL au)) bt fE (fy eP (aB (fZ rfl rfl (md (gY (bE a (.head _) aF) (aw au))) bt fE (aw (b5 cR au au))) bf))) bf)) bt)
   (gm (mF (aB (aw au) (aB (fy eP (aB (fZ rfl rfl (kZ (fL au)) bt fE (gY (bE a (.tail _ (.head _)) aF) (aw au))) bf)) bf)))))))) (ar (cX (i:=2) nd rfl (Or.inr rfl) (HR l L4.lJ j (ai (pv 0) (ai (pv 1) az))))
   (ar (cX (i:=3) nd rfl (Or.inr rfl) (cA bK (b9 (pv 2) rfl) (IS Ai bv) (fun _ _=>rfl)))
   (ar (oU (i:=4) ["state"] [("state_of",3)] nd rfl rfl rfl (eW rfl n (ai (on oG (bz (L10.mG rfl) rfl m zZ (ai (pv 3) az)) bv) az)) (fun _ _ _ _=>(bB (i:=0) (show TN (["state","state_of"]:List Str) by left) rfl (Or.inl rfl))) (fun _ _ _ _=>bL) (fun _ _ _ _=>(si Ur ZC PySem.F.type_list_index L10.ER (pv 1) (ai (pv 0) az))) ⟨⟨rfl,rfl,Or.inl rfl⟩,trivial⟩ rfl)
   (ar (cX (i:=5) nd rfl (Or.inl rfl) (c8 bS rfl h eY (ai (cI ["first"] [("sorting",2),("state_of",3)] rfl (dQ (pv 4)) (fun _ _ _ _=>(bB (i:=0) (show TN (["first","sorting","state_of"]:List Str) by left) rfl (Or.inl rfl))) (fun _ _ _ _=>bL) (fun _ _ _ _=>(c8 bS rfl h eY (ai (cI ["room"] [("state_of",2)] rfl (dQ (cA bK (b9 (pv 1) rfl) (pv 0) (fun _ _=>rfl))) (fun _ _ _ _=>(bB (i:=0) (show TN (["room","state_of"]:List Str) by left) rfl (Or.inl rfl))) (fun _ _ _ _=>bL) (fun _ _ _ _=>(cA bK (pv 1) (pv 0) (fun _ _=>rfl))) ⟨⟨rfl,rfl,Or.inl rfl⟩,trivial⟩ rfl) az))) ⟨⟨rfl,rfl,Or.inl rfl⟩,⟨⟨rfl,rfl,Or.inl rfl⟩,trivial⟩⟩ rfl) az)))
   (aX (c7 (kj (ai (pv 5) (ai (c8 bS rfl h eY (ai (cI ["first"] [("sorting",2)] rfl (dQ (pv 4)) (fun _ _ _ _=>(bB (i:=0) (show TN (["first","sorting"]:List Str) by left) rfl (Or.inl rfl))) (fun _ _ _ _=>bL) (fun _ _ _ _=>(cA bK (b9 (pv 1) rfl) (pv 0) (fun _ _=>rfl))) ⟨⟨rfl,rfl,Or.inl rfl⟩,trivial⟩ rfl) az)) az)))))))))
theorem N7 (F:VU K "law" "law" (top 34) f fd) (h:pG P w K mg base (L4.jd P w) 12 "machine" ["bed","most"] [] (dw K 2 eD)) (j:pG P w K mg base (L4.jd P w) 12 "machine" ["bed","most"] [.int 400] (dw K 2 eD)) (o:Pn P w K mg base 12 "_law_many" ["_law_bed_here"] 1 df) (p:i8 P w K mg base 2 "_law_keys" ["_law_script"] 1 jo) (n:i8 P w K mg base 4 "_law_bed" ["_law_script","_law_at","_law_keys_here"] 3 j9) (u:i8 P w K mg base 1 "events_of" ["bed"] 1 eR) (r:i8 P w K mg base 2 "_law_shaped" ["_law_found","_law_long"] 2 gG) (l:mg "len"=Sw) (v:mg "range"=Sw) (t:mg "max"=Sw):FnOk P w K mg base dS 13 f fd ["_law_script"] (dw K 1 F_law):=kN (N:=["_law_script","_law_bed_here","_law_many_here","_law_found","_law_come","_law_row","_law_state"]) (g:=Nk) F (by fail "sc") rfl rfl rfl fun y A a s H E nd e b q m=>z7 (aU (by fail "so")
   (aU (by fail "so")
   (aU (by fail "so")
   (aU (cU (sj (fun _ _=> .nil) (aB (aw au) (aB (aw bx) bf))) bt)
   (aU (by fail "so")
   (aU (cU (aw bx) bt)
   (aU (by fail "so")
   (gm (wC (aw (b5 ki au (gx gb (aH (b5 cR au bx) bp)))) (iK ki (sj (fun _ _=>(.cons (.int _) .nil)) (aB (aw au) bf)) (aw au))))))))))) (ar (by fail "te")
   (ar (by fail "te")
   (ar (by fail "te")
   (ar (cX (i:=3) nd rfl (Or.inl rfl) (oP h e HN (ai (pv 1) (ai bv az))))
   (ar (by fail "te")
   (ar (cX (i:=4) nd rfl (Or.inl rfl) bv)
   (ar (by fail "te")
   (aX (c7 (pA (gD (ka b) (pv 4) (bz db rfl l iR (ai (cA bK (pv 3) bv (fun _ _=>rfl)) az)) (fX _)) (sX (gD (ka b) (oP j e HN (ai (pv 1) az)) (pv 3) (fX _)))))))))))))
end
end K42
namespace L2
open PySem PySem.Spec PyProof.Rows
section
variable {Z:St} {H:Hp} {Q:VK} {D:Ends}
theorem Li {K:Ld} {e b:TE} {f:Str} (h:b Z H fun y H1=>e Z H1 fun x H2=>∃a C dx fs,x= .ref a/\H2 a=lD (.ins C dx fs)/\Cls K C/\WL K C f/\fs.length<1000/\D.nx Z (bJ H2 a (.ins C dx (jz f y fs)))):Pk K e b f D Z H:=h
theorem NA {c:TT} {t u:TE} (h:c Z H fun b H1=>if b=Sz then t Z H1 Q else u Z H1 Q):Rh c t u Z H Q:=h
theorem Px {K:Ld} {b:TE} {f:Str} (h:b Z H fun x H1=>∃a C dx fs v,x= .ref a/\H1 a=lD (.ins C dx fs)/\Cls K C/\WL K C f/\fs.lookup f=lD v/\Q v H1):Oa K b f Z H Q:=h
theorem Mm {C:SI} {m:Str} {sp:Sp} {E:XK} {b:TE} {t:TA} (h:b Z H fun x H1=>∃a dx fs,x= .ref a/\H1 a=lD (.ins C dx fs)/\fs.lookup m=Sw/\t Z H1 fun vs H2=>sp (x::(vs++[])) H2 Q E):vY C m sp [] E b t Z H Q:=h
theorem J8 {C:SI} {sp:Sp} {E:XK} {t:TA} (h:t Z H fun vs H1=>∀x dx,H1 x=Sw->H1 dx=Sw->dx≠x->sp (.ref x::(vs++[])) (bJ (bJ H1 dx (.own x)) x (.ins C dx [])) (fun v H2=>v= .Vh/\Q (.ref x) H2) E):zv C sp [] E t Z H Q:=h
end
end L2
local macro_rules| `(tactic|fail "gh")=> `(tactic|repeat (first
 |specialize L2.Po ?_
 |specialize L2.Os ?_
 |specialize L2.Li ?_
 |specialize L2.NA ?_
 |specialize L2.Px ?_
 |specialize L2.Mm ?_
 |specialize L2.J8 ?_
 |specialize L2.Mi ?_
 |((with_reducible show L2.zM _ _ _ _);refine⟨_,rfl,?_⟩)
 |specialize L2.RF ?_
 |specialize L2.ajb ?_
 |specialize L2.ajG ?_
 |specialize L2.ajU ?_
 |specialize L2.alG ?_
 |((specialize L2.al4 ?_ ?_);first|exact⟨by decide,by decide⟩|exact⟨by decide,by decide,by decide⟩|exact(show(0:Int)<_ by decide)|exact⟨by decide,by left⟩)
 |((specialize L2.ajO ?_ ?_);exact rfl)
 |((specialize L2.ajk ?_ ?_);exact rfl)
 |specialize L2.aiZ ?_
 |specialize L2.Ke ?_
 |specialize L2.aiz ?_
 |specialize L2.afW ?_
 |specialize L2.aft ?_
 |specialize L2.agb ?_
 |specialize L2.agu ?_
 |specialize L2.anv ?_
 |specialize L2.ajC ?_
 |specialize L2.ahT ?_
 |specialize L2.ajE ?_
 |specialize L2.ahj ?_
 |specialize L2.agr ?_
 |specialize L2.aid ?_
 |specialize L2.agk ?_
 |specialize L2.ain ?_
 |specialize L2.af5 ?_
 |specialize L2.akj ?_
 |specialize L2.agg ?_
 |specialize L2.ahA ?_
 |specialize L2.air ?_
 |specialize L2.akc ?_
 |specialize L2.ajg ?_
 |specialize L2.aeA ?_
 |specialize L2.agG ?_
 |specialize L2.aiX ?_
 |specialize L2.afG ?_
 |specialize L2.afF ?_
 |specialize L2.agD ?_
 |specialize L2.ags ?_
 |specialize L2.ag7 ?_
 |specialize L2.af9 ?_
 |specialize L2.agF ?_
 |specialize L2.afj ?_
 |specialize L2.agj ?_
 |specialize L2.afa ?_
 |specialize L2.af4 ?_
 |specialize L2.aga ?_))
namespace K42
open PySem L2
section
open L3 L4
variable {P:Te} {w:TF} {K:Ld} {mg:Str->Option Sx} {base:Heap} {f:SI} {fd:Uc}
theorem mS:Vk ["self","most"] ["self","most"] (aA (bc (top 3) 0)):=⟨rfl,rfl,rfl,by left,rfl,by left,by left⟩
theorem Ei {C B fI:SI} (F:VU K "__init__" "TooMany.__init__" (bc (top 3) 0) f fd) (o:L9.XC K C B fI) (l:mg "BedError"=lD (.ref B)) (g:YW K B (.type "type")=Sz) (m:YX K (.ref B) (.type "type") "__init__"=lD (.val (.builtin "ValueError.__init__")))
  (b:VW K (.ref B) "__getattribute__"=lD (lD (.builtin "type.__getattribute__"))) (j:TR K (.ref C) "most"=lD Sw):FnOk P w K mg base dS 1 f fd ["self","most"] (L9.ww C "most"):=by
 refine F.ok mS (fun vs H Q E h=> ?_) (fun u A a s H vs Q E t h=> ?_)
 .obtain⟨_,_,rfl,_⟩:=h;rfl
 obtain⟨e,v,rfl,r,n,q⟩:=h;refine⟨_,(ar (ic (L9.Im rfl l g m b o (ai (pv 0) (ai (L9.LQ (L9.Nv (by decide) (L9.NL (pv 1) L9.Nu)) (by decide)) az)))) (aX (L9.Lo o j (pv 0) (pv 1) rfl))),?_⟩;fail "gh";refine⟨V.ref e,rfl,v,rfl,r,fun y=>⟨e,y,rfl,n,?_⟩⟩;exact⟨v,rfl,V.ref e,rfl,e,rfl,n,fun p j i=>q p j i⟩
end
end K42
namespace K42
open PySem L2
section
variable {P:Te} {w:TF} {K:Ld} {mg:Str->Option Sx} {base:Heap} {f:SI} {fd:Uc}
theorem iu:Vk ["_law_bed_here","_law_many_here"] ["_law_bed_here"] (aA (top 31)):=⟨rfl,rfl,rfl,by left,rfl,by left,by left⟩
theorem wy {C:SI} {m:List Sx} (F:VU K "_law_many" "_law_many" (top 31) f fd) (YJ:L3.pG P w K mg base (L4.jd P w) 10 "rooms" ["bed","most"] [] (L10.dw K 2 dc))
  (XO:mg "TooMany"=lD (.ref C)) (O:L4.yk K C m) (bR:m.contains (.type "BaseException")=Sz) (nR:Ta K S4 "TooMany"=lD (lD (.ref C))) (Uy:mg "len"=Sw):
  FnOk P w K mg base dS 12 f fd ["_law_bed_here"] (L10.dw K 1 df):=by
 refine F.ok iu (fun vs H Q E h=>h.1) (fun Uq A I s H vs Q E S h=> ?_);have hu:=S.units;obtain⟨hl,B,α,Z,xs,Y,J,g⟩:=h;have ev:∀{E2:XK},L10.cW K E2 (GV (fun xs H Q=>∃x n,xs=[x]/\Ky K x H n/\Q (.int n) H) (gP (l6 (L10.dw K 2 dc) [] E2 (gP (zM 0) (gP (tC (.int 90)) lY))) lY)) (L10.jT L3.b4 (L10.aj (L10.Ma dc 2 (L10.aj (L10.ao 0) (L10.aj (L10.af (L3.pC (.int 90))) L10.aC))) L10.aC)):=L10.fy L3.gb (L10.aB (L10.Jh (L10.aB L10.aF (L10.aB (L10.aw (L3.Ab fun _ _=> .int _)) L10.bf))) L10.bf);obtain⟨b,rfl⟩:∃b,xs=[.fz b]:=by
  unfold df at g;split at g
  .exact⟨_,rfl⟩
  .exact g.elim
 obtain⟨r,rfl,N⟩:∃r,vs=[r]/\L3.DV (L10.ow B α Z) K H r b:=by
  cases J with
  |cons N r0=>cases r0;exact⟨_,rfl,N⟩
 have sl:L10.VO (L10.ow B α Z) K H α [lD r,lD .Vh] [-(b),-(.none)]:=⟨rfl,fun i x h=>by
  match i,h with
  |0,h=>cases h;exact⟨r,rfl,N⟩
  |1,h=>cases h;exact⟨.Vh,rfl,.Vh⟩
  |i+2,h=>cases h⟩
 suffices key:∃E2:XK,(∀c dx j,E2 c dx j->c=Sx.ref C)/\L10.WS K E2 B H α Z (L10.PQ B K Q) (L10.jT L3.b4 (L10.aj (L10.Ma dc 2 (L10.aj (L10.ao 0) (L10.aj (L10.af (L3.pC (.int 90))) L10.aC))) L10.aC) [-(b),-(.none)] Z)/\∀c dx j,E2 c dx j->Q .Vh j by
  obtain⟨E2,k1,k2,k3⟩:=key;refine⟨_,(ar (cX (i:=1) iu.nd rfl (Or.inl rfl) nK)
   (ar (L4.LM (E2:=E2) rfl rfl rfl rfl XO O bR
    (fun l=>aX (cX (i:=1) iu.nd rfl (Or.inl rfl) (bz (show Vx _ (.builtin "len") (fun xs H Q=>∃x n,xs=[x]/\Ky K x H n/\Q (.int n) H) from db) rfl Uy iR (ai (L3.oP YJ S (L4.AE rfl) (ai (pv 0) (ai bv az))) az))))
    (fun l e=>aX (cX (i:=1) iu.nd rfl (Or.inl rfl) nK))
    (fun c dx j h=>⟨C,m,k1 c dx j h,O,by rw[Yz,beq_self_eq_true,V2]⟩))
   (aX (c7 (pv 1))))),?_⟩
  fail "gh";unfold L4.M9;refine⟨?_,fun c dx j u q hs=> ?_⟩
  .exact ev B _ H α Z _ _ Y sl (k2.imp fun x U Z1 j z t X v J=>⟨v,rfl,X v J⟩)
  .obtain⟨R,t,rfl⟩:∃R t,q=[R,t]:=by
    match q,hs with
    |[a,c],_=>exact⟨a,c,rfl⟩
   exact⟨.Vh,rfl,k3 c dx j u⟩
 unfold df at g;dsimp only at g;have ce:L10.jT L3.b4 (L10.aj (L10.Ma dc 2 (L10.aj (L10.ao 0) (L10.aj (L10.af (L3.pC (.int 90))) L10.aC))) L10.aC) [-(b),-(.none)] Z=(dc [.fz b,.fz (.int 90)] Z).bind fun x y=>L10.uD L3.b4 [x] y:=by show(((dc [.fz b,.fz (.int 90)] Z).bind fun x y=>(L10.RS.ok [] y).bind fun xs Z3=>L10.RS.ok (x::xs) Z3).bind fun xs y=>L10.uD L3.b4 xs y)=_;cases dc [.fz b,.fz (.int 90)] Z<;>rfl
 rw[ce];cases h1:dc [.fz b,.fz (.int 90)] Z with
 |bad=>rw[h1] at g;exact g.elim
 |er x p=>
  rw[h1] at g;dsimp only at g;by_cases L:x.cls=("TooMany":Str)
  .rw[if_pos L] at g;refine⟨fun c dx j=>∃o,L10.UW α Z H o p j/\L10.Tz B K j o p/\c= .ref C,fun c dx j ⟨_,_,_,h⟩=>h,?_,fun c dx j ⟨o,z,t,_⟩=>g o j z t .Vh .Vh⟩;rintro c dx o H' M G ⟨⟨a',z,T⟩,_⟩;rw[L] at T;have e3:=nR.symm.trans T;cases e3;exact⟨o,M,G,z⟩
  .rw[if_neg L] at g;exact g.elim
 |ok x p=>
  rw[h1] at g;dsimp only at g;cases u:L10.sh p x with
  |none=>rw[u] at g;exact g.elim
  |some d=>
   rw[u] at g;cases d with
   |list ds=>
    refine⟨fun _ _ _=>False,fun _ _ _ h=>h.elim,?_,fun _ _ _ h=>h.elim⟩;have e4:L10.uD L3.b4 [x] p= .ok (.fz (L3.nd ds.length)) p:=by unfold L10.uD L10.aI L10.aI;rw[u];rfl
    show L10.WS K _ B H α Z _ (L10.uD L3.b4 [x] p);rw[e4];exact g
   |_=>exact g.elim
end
end K42
theorem R9 {α:Type}:∀{l:List α},l.length=1->∃a,l=[a]
 |[a],_=>⟨a,rfl⟩
theorem R0 {α:Type}:∀{l:List α},l.length=2->∃a b,l=[a,b]
 |[a,b],_=>⟨a,b,rfl⟩
theorem RN {α:Type}:∀{l:List α},l.length=3->∃a b c,l=[a,b,c]
 |[a,b,c],_=>⟨a,b,c,rfl⟩
theorem Si {α:Type}:∀{l:List α},l.length=4->∃a b c d,l=[a,b,c,d]
 |[a,b,c,d],_=>⟨a,b,c,d,rfl⟩
local macro_rules| `(tactic|fail "ba")=> `(tactic|(intro _ _ _ _ _ _ us hl;first|(obtain⟨_,h⟩:=R9 hl;subst h;rfl)|(obtain⟨_,_,h⟩:=R0 hl;subst h;rfl)|(obtain⟨_,_,_,h⟩:=RN hl;subst h;rfl)|(obtain⟨_,_,_,_,h⟩:=Si hl;subst h;rfl)|(match us,hl with|[_,_,_,_,_],_=>rfl)|(match us,hl with|[],_=>rfl)))| `(tactic|fail "bd")=> `(tactic|(intro _ _ _ _ _ _ us hl;first|((have h1:us.length=1:=by simpa using hl);obtain⟨_,h⟩:=R9 h1;subst h;exact⟨_,rfl,rfl⟩)|((have h1:us.length=2:=by simpa using hl);obtain⟨_,_,h⟩:=R0 h1;subst h;exact⟨_,rfl,rfl⟩)|((have h1:us.length=3:=by simpa using hl);obtain⟨_,_,_,h⟩:=RN h1;subst h;exact⟨_,rfl,rfl⟩)|((have h1:us.length=4:=by simpa using hl);(match us,h1 with|[_,_,_,_],_=>exact⟨_,rfl,rfl⟩))))| `(tactic|fail "fl")=> `(tactic|first|exact List.forall_mem_nil _|(refine List.forall_mem_cons.mpr ⟨?_,?_⟩;(·(show TR _ _ _=_;k_is));fail "fl"))| `(tactic|fail "ki")=> `(tactic|first|(refine' L3.NI.mk ?a' ⟨_,L2.Hi ?b' ?c' ?d'⟩;(case a'=>k_is);(case b'=>k_is);(case c'=>k_is);(case d'=>k_is))|(refine' L3.MI.mk ?a' ?e' ⟨_,L2.Hi ?b' ?c' ?d'⟩;(case a'=>k_is);(case e'=>k_is);(case b'=>k_is);(case c'=>k_is);(case d'=>k_is))|(refine' L3.CI.mk ?a' ?b' ?c' ?d' ?e' ?f' ?g' ?i';(case a'=>k_is);(case b'=>k_is);(case c'=>k_is);(case d'=>k_is);(case e'=>k_is);(case f'=>k_is);(case g'=>k_is);(case i'=>fail "fl"))|(refine' L3.DI.mk ?a' ⟨_,L3.LP ?b' ?c' ?d' ?e'⟩;(case a'=>k_is);(case b'=>k_is);(case c'=>k_is);(case d'=>k_is);(case e'=>k_is))|k_is|k_exc|rfl|left|(rw[<-Array.all_toList];rfl))
namespace K42
open PySem L2 L3
def F_lawH:FN:=L10.Qc F_law
theorem all_mk {l:abD} {w:TF} {K:Ld} {h:Heap} {mg:Str->Option Sx} {fa:SI}
  {acf:Tok}
  {Xx:SI} {acX:Nat} {acQ:Array (Option Sx)}
  {abo:Tok}
  {U1:SI} {abS:Nat} {aci:Array (Option Sx)}
  {Xy:SI} {ZU:Nat} {ZT:Array (Option Sx)}
  {WX:SI} {abb:Nat} {aaZ:Array (Option Sx)}
  {ac3:SI} {aa8:Tok}
  {abv:SI} {Yq:Tok}
  {f0 f1 f2 f3 f4 f5 f6 f7 f8 f9 f10 f11 f12 f13 f14 f15 f16 f17 f18 f19 f20 b f22 f23 f24 f25 f26 f27 f28 f29 f30 f31 f32 f33 f34 f35 y f37 f38 u f40 f41 t:SI}
  {o m:SI}
  {nmR qR:Str} {S:SI} {bsR:List Sx} {M4:List Str} {aiS:List Sx} {abR:Bool} {aiq:Option Bool} {ddR:Option SI} {k0R k1R k2R k3R k5R:Option Sx}
  {ocN:Sx} {odN:Option SI} {E:Array Wc} {nN:Nat} {slN:Array (Option Sx)} (X:K.In h) (G:h.Ns S4 mg) (hfa:mg "law"=lD (.ref fa))
  (h0:NI K f0 "layer_of" (top 8))
  (h1:NI K f1 "looked_up" (top 11))
  (h2:NI K f2 "chords_over" (top 12))
  (h3:NI K f3 "chord_acts" (top 13))
  (h4:NI K f4 "_law_cell" (top 24))
  (h5:NI K f5 "_law_take" (top 25))
  (h6:NI K f6 "_law_letter" (top 26))
  (h7:NI K f7 "_law_meaning" (top 27))
  (h8:NI K f8 "_law_chords" (top 28))
  (h9:NI K f9 "_law_bed" (top 29))
  (h10:NI K f10 "_law_keys" (top 30))
  (h11:NI K f11 "events_of" (top 15))
  (h12:NI K f12 "_law_sent" (top 32))
  (h13:NI K f13 "_law_shaped" (top 33))
  (h14:NI K f14 "step" (top 9))
  (h15:NI K f15 "walked" (top 17))
  (h16:DI K f16 ac3 "rooms" (top 16) #[.int 400 aa8])
  (h17:NI K f17 "numbered" (top 22))
  (C:DI K f18 abv "machine" (top 20) #[.int 400 Yq])
  (h19:NI K f19 "_law_many" (top 31))
  (h20:NI K f20 "law" (top 34))
  (a:CI K b "Hand" ["bed","acts","waiting","once","sent"])
  (h22:MI K b f22 "__init__" "Hand.__init__" (bc (top 10) 0))
  (h23:MI K b f23 "stands" "Hand.stands" (bc (top 10) 1))
  (h24:MI K b f24 "is_waiting" "Hand.is_waiting" (bc (top 10) 2))
  (h25:MI K b f25 "has_act" "Hand.has_act" (bc (top 10) 13))
  (h26:MI K b f26 "come" "Hand.come" (bc (top 10) 11))
  (h27:MI K b f27 "go" "Hand.go" (bc (top 10) 12))
  (h28:MI K b f28 "decide" "Hand.decide" (bc (top 10) 10))
  (h29:MI K b f29 "makes_chord" "Hand.makes_chord" (bc (top 10) 4))
  (h30:MI K b f30 "put_to_chord" "Hand.put_to_chord" (bc (top 10) 5))
  (h31:MI K b f31 "begin" "Hand.begin" (bc (top 10) 6))
  (h32:MI K b f32 "press" "Hand.press" (bc (top 10) 3))
  (h33:MI K b f33 "settle" "Hand.settle" (bc (top 10) 8))
  (h34:MI K b f34 "lift" "Hand.lift" (bc (top 10) 7))
  (h35:MI K b f35 "wait_on" "Hand.wait_on" (bc (top 10) 9))
  (r:CI K y "Places" ["most","found","numbers"])
  (h37:MI K y f37 "enter" "Places.enter" (bc (top 18) 1))
  (h38:MI K y f38 "__init__" "Places.__init__" (bc (top 18) 0))
  (q:CI K u "Sorting" ["steps","sends","rounds"])
  (h40:MI K u f40 "mark_of" "Sorting.mark_of" (bc (top 21) 1))
  (h41:MI K u f41 "__init__" "Sorting.__init__" (bc (top 21) 0))
  (Ya:Ta K S4 "TooMany"=lD (lD (.ref o)))
  (aau:Ta K S4 "BedError"=lD (lD (.ref m)))
  (xR:K.lookup o=lD (excClassObj nmR qR o S bsR (.ref m::[.type "ValueError",.type "Exception",.type "BaseException",.type "object"]) Sz M4 aiS abR aiq ddR k0R k1R k2R k3R k5R "ValueError.__new__"))
  (eI:XW K m [.type "ValueError",.type "Exception",.type "BaseException",.type "object"] "ValueError.__new__"=Sz)
  (lN:K.lookup S=lD ⟨ocN,odN,.dict E nN,slN⟩)
  (p:(E.all fun e=>match e.key with| .str _ _=>Sz|_=>SN)=Sz)
  (inN:Ta K S "__init__"=lD (lD (.ref t)))
  (saR:TR K (.ref o) "__setattr__"=lD (lD (.builtin "object.__setattr__")))
  (kK:TR K (.ref o) "most"=lD Sw)
  (rdB:YW K m (.type "type")=Sz)
  (fcB:YX K (.ref m) (.type "type") "__init__"=lD (.val (.builtin "ValueError.__init__")))
  (spB:VW K (.ref m) "__getattribute__"=lD (lD (.builtin "type.__getattribute__")))
  (B:MI K o t "__init__" "TooMany.__init__" (bc (top 3) 0))
  (ac1:Ta K S4 "NONE"=lD (lD (.ref Xx)))
  (acd:Ta K S4 "CHORD"=lD (lD (.ref U1)))
  (aa9:Ta K S4 "AT_REST"=lD (lD (.ref WX)))
  (aaT:K.lookup WX=lD ⟨.type "tuple",Sw,.seq #[.ref Xy,.none,.none] abb,aaZ⟩)
  (ZL:K.lookup Xy=lD ⟨.type "tuple",Sw,.seq #[] ZU,ZT⟩)
  (acn:K.lookup U1=lD ⟨.type "tuple",Sw,.seq #[.str "chord" abo] abS,aci⟩)
  (acM:K.lookup Xx=lD ⟨.type "tuple",Sw,.seq #[.str "none" acf] acX,acQ⟩)
  (y0:Ta K S4 "max"=lD Sw)
  (y1:Ta K S4 "all"=lD Sw)
  (y2:Ta K S4 "list"=lD Sw)
  (y3:Ta K S4 "sorted"=lD Sw)
  (y4:Ta K S4 "len"=lD Sw)
  (y5:Ta K S4 "range"=lD Sw)
  (y6:Ta K S4 "tuple"=lD Sw)
  (y7:Ta K S4 "isinstance"=lD Sw)
  (y8:Ta K S4 "str"=lD Sw)
  (y9:Ta K S4 "int"=lD Sw)
  (Z:Ta K S4 "bool"=lD Sw)
  (Y:Ta K S4 "dict"=lD Sw)
  (U:Ta K S4 "zip"=lD Sw):
  ∃fd:Uc,(∀(s:SK) (v:Sx),X4 s fd ⟨[v],[]⟩ [("_law_script",v)])/\∀base:Heap,K.In base->base.Ns S4 mg->FnOk l.prog w K mg base dS 13 fa fd ["_law_script"] (L3.qM K 1 F_lawH):=by
 have A:=T3 X G y0;have N:=T3 X G y1;have Zf:=T3 X G y2;have Xw:=T3 X G y3;have g:=T3 X G y4;have n:=T3 X G y5;have j:=T3 X G y6;have Ve:=T3 X G y7;have ab4:=T3 X G y8;have adl:=T3 X G y9;have aca:=T3 X G Z;have ab2:=T3 X G Y;have I:=T3 X G U;have ZK:=KL (xs:=[.str "none"]) (ds:=[(.str "none")]) acM (by show 1<=SY;decide) (.cons ⟨_,rfl⟩ .nil) fun O H=>(.cons (.str _) .nil);have L:=KL (xs:=[.str "chord"]) (ds:=[(.str "chord")]) acn (by show 1<=SY;decide) (.cons ⟨_,rfl⟩ .nil) fun O H=>(.cons (.str _) .nil);have aal:=KL (xs:=[]) (ds:=[]) ZL (by show 0<=SY;decide) .nil fun O H=> .nil;have YK:=KL (xs:=[.ref Xy,.Vh,.Vh]) (ds:=[(.tuple []),.none,.none]) aaT (by show 3<=SY;decide) (.cons rfl (.cons rfl (.cons rfl .nil))) fun O H=>(.cons (aal O H) (.cons .Vh (.cons .Vh .nil)));have ZV:=UN X G ac1;have J:=UN X G acd;have YI:=UN X G aa9;refine h20.law X G hfa (by fail "ba") fun base fd adR=> ?_;have W:Tp l.prog w K mg base h:=⟨X,G⟩;have Xd:=h0.c W fun _ z=>yq z A;have YQ:=h1.c W fun _ z=>xy z;have U3:=h2.c W fun _ z=>sE z N;have Yt:=h3.c W fun _ z=>uN z Zf Xw g ZV ZK;have VR:=h4.c W fun _ z=>xp z g;have M:=h5.c W fun _ z=>v7 z n;have X3:=h6.c W fun _ z=>tK z M;have Ww:=h7.c W fun _ z=>rb z M X3 A;have X2:=h8.c W fun _ z=>tZ z M n j g N;have Zb:=h9.c W fun _ z=>zi z VR M Ww X2 n j;have YN:=h10.c W fun _ z=>wB z VR M;have Wh:=h11.c W fun _ z=>xt z n;have XB:=h12.c W fun _ z=>wG z Ve j g N ab4;have X0:=h13.c W fun _ z=>tX z XB Ve j g adl aca N;have f:=a.cf;have T9:=r.cf;have R:=q.cf;have p:Y7 K S=Sz:=by unfold Y7;rw[lN];exact p
 have XR:L4.yk K o (.ref m::[.type "ValueError",.type "Exception",.type "BaseException",.type "object"]):=⟨_,_,_,_,_,_,_,_,_,_,_,_,_,_,_,_,xR⟩;have Zc:L9.XC K o m t:=⟨⟨_,_,_,_,_,_,_,_,_,_,_,_,_,_,xR,p,inN⟩,eI,saR⟩;have XO:=UN X G Ya;have aaM:=UN X G aau;obtain⟨fdI,T⟩:=B.F;obtain⟨_,_,_,_,_,_,_,_,_,rfl,Yc,_⟩:=T.ex;have X9:=B.i;have Yf:=Ei (P:=l.prog) (w:=w) (mg:=mg) (base:=base) T Zc aaM rdB fcB spB kK;have Yd:=T.binds (ps:=["self","most"]) (by fail "ba");have abi:=h22.k a W fun _ z=>pP z f ab2;have U8:=h23.mt a W fun _ z=>sY z f j Xw;have Vf:=h24.mt a W fun _ z=>n6 z f;have VI:=h25.mt a W fun _ z=>rA z f Zf;have Vw:=h26.mt a W fun _ z=>xS z f VI;have Zh:=h27.mt a W fun _ z=>Bu z f VI;have Q:=h28.mt a W fun _ z=>sZ z f Vw Yt I J L;have Wr:=h29.mt a W fun _ z=>mW z f U8 Xd U3 J L;have Wg:=h30.mt a W fun _ z=>k7 z f Q U3 g J L;have XZ:=h31.mt a W fun _ z=>uK z f U8 Vw Xd YQ U3 J L ZV ZK;have X1:=h32.mt a W fun _ z=>uL z f Vf Wr Wg Q XZ;have XD:=h33.mt a W fun _ z=>tW z f Q Vw J L;have Ys:=h34.mt a W fun _ z=>xx z f Vf XD Zh;have Xi:=h35.mt a W fun _ z=>rD z f Q;have aaU:=h14.c W fun _ z=>JT z f abi Xi X1 Ys U8;have UZ:=h37.mt r W fun _ z=>rc z T9 Zc Yc X9 Yf Yd Ya XO g;have YH:=h38.k r W fun _ z=>nM z T9 UZ;have Wa:=h15.d W fun _ z=>D3 z T9 YH UZ aaU Wh g j I YI YK;have YJ:L3.pG l.prog w K mg base (L4.jd l.prog w) 10 "rooms" ["bed","most"] [] (L10.dw K 2 dc):=h16.c (ds:=[]) (dvs:=[]) W .nil fun _ z=>HU z Wa;have Xb:=h17.c W fun _ z=>zm z g;have VP:=h40.mt q W fun _ z=>nG z R j;have Xf:=h41.k q W fun _ z=>mM z R Wa VP Xb A n g;have XF:L3.pG l.prog w K mg base (L4.jd l.prog w) 12 "machine" ["bed","most"] [.int 400] (L10.dw K 2 eD):=C.c (ds:=[.int 400 Yq]) (dvs:=[.int 400]) W (.cons ⟨_,rfl⟩ .nil) fun _ z=>tj z R Xf n A j;have Xz:L3.pG l.prog w K mg base (L4.jd l.prog w) 12 "machine" ["bed","most"] [] (L10.dw K 2 eD):=C.c (ds:=[]) (dvs:=[]) W .nil fun _ z=>tj z R Xf n A j;have YO:=h19.c W fun _ z=>wy z YJ XO XR rfl Ya g;exact(N7 adR Xz XF YO YN Zb Wh X0 g n A).imp (fun _ _ _ _ h=>L10.Nr h)
end K42
inductive PySem.W.Fast|tw5576936432973504595|tw13939664028151910897|tw7697127479832397805|tw3906027273663526318|tw9019078068240041110|tw12964140691668669428|tw4079282068228170126|tw9530298113543072928|tw6866751205540315333|tw13899244739145238910|tw14376155842827308918|tw1098376940925926393|tw6023471944476557963|tw11525403884930799052|tw13213949322623271127|tw17510529685923777168|tw1125040573722181331|tw13930989103413578290|tw2023671715981686370|tw1983642672747589122|tw792307983537398350|tw516179833418595033|tw10194415894428971050|tw5718401706766106745|tw861417406594553241|tw881224770150629683|tw7483362872712862432|tw6409322544718321011|tw4979922889618404838|tw4793531971542798840|tw13845473557137266184|tw6795259080509627195|tw15337769810677601358|tw7107476024354314807|tw11365377639499634715|tw16321605497469184715|tw1550167072842778754|tw9744892702047932895|tw10783492363063888945|tw14786034738371760910|tw7950413423744600874|tw2111610290318915141|tw9287873505926056852|tw1559391841871796847|tw6530320049027037246|tw16053194540406972217|tw1019075434769886805|tw8554321105935838465|tw1987952559593992007|tw8318907742408868774
open PySem PySem.W PyProof.Rows
set_option maxRecDepth 100000 in
set_option maxHeartbeats 0 in
theorem PySem.Challenge.cw_chordbed_k42_states_as_they_come_holds : PySem.Challenge.rw_chordbed_k42_states_as_they_come.Holds := by
 w_on;o_law;k_head;(case hw=>w_witness2)
 k_fill
 refine L3.QM (l:=PySem.Challenge.rw_chordbed_k42_states_as_they_come) (n:=63) (k:=13) (x:= "_law_script") (F:=K42.F_lawH) rfl (by decide) rfl ⟨rfl,by decide,by decide⟩ (fun w h Y=>PySem.W.kIn_of Y) ?F K42.main
 case F=>
  intro w e f h b G a
  apply K42.all_mk b G a
  all_goals fail "ki"
