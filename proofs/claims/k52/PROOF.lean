import PyProof.Rows.All
import Wide.All
import OpenK.AllK
import Wide.FinOn
import Lean
import PyProof.EqAt
import PyProof.EqKinds
import PyProof.TupleCall
import KE.KIntText
import KE.KRevSl
import PyProof.Rows.SeqMore
import PyProof.WalkInts
import PyProof.Rows.MinMaxN
import PyProof.ExcInit
import OpenK.KMake
import PyProof.InstStoreFacts
import PyProof.FString2
import PyProof.Rows.FStr
import PyProof.Rows.SetFrom
import PyProof.SeqRoads2
import PyProof.RangeFor
import PyProof.WalksMore
import PyProof.StrBlock2
import PyProof.Rows.SortShell
import PyProof.TupleOfSeq
import KE.KDictList
import KE.KDictOf
import PyProof.IsiH_tuple
import PyProof.Rows.RuleN_abs
import PyProof.Rows.Range3
import KE.KRevIter
import PyProof.StrLawsRepr
import PyProof.ReprStr
import PyProof.IsiH_list
import PyProof.Rows.TupDisplay
import PySem.Challenge.RW_chordbed_k52_whole_none_is_shorter
set_option genSizeOf false
set_option genInjectivity false
set_option Elab.async false
set_option linter.all false
set_option maxRecDepth 100000
local macro_rules|`(tactic|left)=>`(tactic|decide+kernel)|`(tactic|change $e)=>`(tactic|with_reducible exact $e)|`(tactic|specialize $e)=>`(tactic|with_reducible refine $e)
local macro_rules|`(tactic|exists $e)=>`(tactic|with_reducible apply $e)|`(def $i:declId $s:optDeclSig $v:declVal)=>`(noncomputable def $i:declId $s:optDeclSig $v:declVal)|`(abbrev $i:declId $s:optDeclSig $v:declVal)=>`(noncomputable abbrev $i:declId $s:optDeclSig $v:declVal)
local macro_rules|`(tactic|omega)=>`(tactic|lia)
open Option renaming some->lD,none->QS,getD_some->VI,isSome_map->Xe,isSome_iff_exists->Yh,map_eq_some_iff->YF,isSome_some->ZN,toList_none->ZQ,getD_none->aar
open PySem renaming wpAny_bind->Ld,Value->QT,Addr->QX,PyData->QZ,Shared->Q0,wpAny_pure->Q1,sizeLine->Q8,mainGlobals->Rk,Program->Rt,starEach->Ru,Around->RG,NameKind->RI,World->RM,wpAny_field->RU,wpAny_newObj_type->Sb,Expr->Sf,FuncData->Sj,bootBuiltins->Sr,wpAny_holding->SG,wpAny_seqItems->SH,wpAny_callSpecial?_slot->SR,swapsWith->SU,binaryOp->SY,wpAny_call_entry->S3,mem_of_lookup->S5,wpAny_truthy_bool->S9,compareOp->Tf,cellsFrom->Tg,sysModules->Ti,wpAny_Call_Name_kw->Tn,Stmt->Ts,sizeLine_eq->Tv,wpAny_loadPart_at->Tx,wpAny_standAt->TC,wpAny_setField->TK,wpAny_setField_rec->TV,wpAny_passesOwn->T3,plainId_quiet->T6,wpAny_letGo->Uj,wpAny_typeOf->Ul,wpAny_pyIter_list->Uu,codeAny_builtin->UA,wpAny_ite_split->UB,DictEntry->UH,Scope->UQ,ExcBaseFacts->UT,builtinLookup_eq_fast->U4,codeAny_call_builtin->Ve,wpAny_execs_nil->Vk,wpAny_isSubtype_exc->Vs,PassesOwn->VF,IsPart->VX,GenState->Wl,wpAny_isInstance->Wn,ItemsOf->Wo,BindsTo->Wz,wpAny_call->WA,codeAny_mono->WB,call_meets->WE,wpAny_rule->WG,wpAny_specialOf->WW,typeLookup_type->WX,wpAny_updateSeq->WY,wpAny_pyIter_tuple->W5,Result->Xj,wpAny_updateSeq_pair->Xk,wpAny_tryCatch->Xl,wpAny_onRaise->XI,typeIs_int->XQ,tupleKind_room_in1->XS,Keyword->X8,wpAny_sequenceKey->X9,ZipApart->Ya,wpAny_Call_ofName->Yb,eqIsQuiet_byValue->Yc,plainObj_wpAny_Assign_Attribute->Yg,noFill_tuple_add->Yo,wpAny_of_eq->YE,Within->YL,pushCells_keeps->YM,OsState->Y3,Code->Zc,ReadsAll->Ze,IsZip->Zg,wpAny_binaryOp_repeat_ref->ZO,seq_tuple_add->Z7,evalPart_none->Z8,wpAny_comprehension_free->Z9,Drawn->aap,concat_meets->aaE,wpAny_Assign_Subscript->aaG,wpAny_isTrue_Compare1->aa8,Model->abm,wpAny_loadName_local->abn,Reads->abp,wpAny_loadName_cell->abQ,wpAny_raiseNew_none->abT,wpAny_Name->ab9,wpAny_Constant_int->aca,wpAny_load->acd,wpAny_getItem_heap->ace,wpAny_setItem_heap->acf,wpAny_assign_Name->acV,Walks->acW,slot_list_getitem->acX,OwnTail->acY,wpAny_pyHash_int->ads,wpAny_pyHash_str->adt,wpAny_execs_cons->adu,wpAny_lookBehind->adw,pastItsLine_dict->adx,call->adB,wpAny_pyIter_zip->adC,beq_builtin_none->adE,wpAny_loadPart->afE,refuseLoop_ref->afL,isSubtype_type->afM,callType_codes->afN,intBits_le_64->ahz,call_list_seq->ahA,wpAny_attempt->ahB,strLen_append->ahC,wpAny_newList->ahD
open PySem.W renaming Frag->QR,nsIn->Rp,findIn->R0,mg_none_of->Sm,emptyDict->SM,fnOf->SN,keepIn->SX,instObj->Td,mg_of->To,isFn->T4,specialIn->Up,cellsFrom_some->Uq,plainGet->UC,codeIn->U5,hasDictIn->Vg,methodCall_KW->VS,lookIn->VW,tailIn->V1,plainGet_of->Wm,excIn->Wu,callWith_K->WC,methodObj->W2,plainOver->W3,takerIn->Xw,makesIn->Xx,readsIn->Xz,findCls->XA,nsOkIn->XT,pyHash_slot->Y4,tail_of_in->Zh,handedIn->ZZ,OpenLaw->aas,typeIn->aaD,clsIn->aba
open List renaming getElem?_eq_some_iff->QU,length_map->QV,length_append->Q3,getElem?_eq_getElem->Q5,replicate->Q6,getElem?_map->Q7,size_toArray->Q9,getElem?_append_left->Ra,mem_singleton->Rb,mem_cons_of_mem->Rf,length_cons->Rg,mem_cons_self->Rh,map_cons->Ri,range->Rj,lookup_cons->Rn,mem_of_getElem?->Ro,mem_cons->Rv,mem_map->RA,append_nil->RB,map_append->RD,getElem?_append_right->RE,append_assoc->RJ,length_replicate->RK,mem_append->RL,find?_cons->RP,map_map->RT,mem_append_right->RY,length_range->R9,getElem?_set_ne->Sd,length_set->Sg,replicate_succ->Si,getElem?_set->Sq,getElem?_set_self->Ss,Nodup->Sw,mem_iff_getElem?->Sx,nodup_cons->Sz,length_nil->SD,length_take->SI,not_mem_nil->SJ,pairwise_singleton->SK,mem_range->SS,mem_append_left->S1,reverse_cons->S4,mem_filter->Tj,flatten_cons->Tr,length_reverse->Tw,getElem?_replicate->Tz,lookup->TH,length_singleton->TQ,lookup_cons_self->TR,nodup_append->TY,map_nil->T7,all_eq_true->T8,filter_cons->T9,drop_eq_getElem_cons->Ua,filterMap_cons->Uh,drop_eq_nil_of_le->Uy,length_filter_le->UL,length_drop->UN,any_eq_true->UO,take_length->UP,any_cons->US,of_mem_zip->U1,forIn_cons->U2,map_congr_left->U6,mem_filterMap->Vf,pairwise_cons->Vh,pairwise_iff_getElem->Vt,length->Vu,take_add_one->Vx,pairwise_map->Vy,foldl->VU,foldl_cons->VY,nil_append->V0,forIn_nil->Wt,nodup_nil->Wv,contains_cons->Xf,map_inj_right->Xh,getElem_mem->XH,cons_ne_nil->XJ,mem_of_find?_eq_some->Yp,filterMap_cons_none->YI,filterMap_cons_some->YJ,getElem?_cons_succ->YN,getElem?_cons_zero->YO,pairwise_lt_range->Y6,getElem?_eq_none->Zj,mem_iff_getElem->ZP,pairwise_append->ZS,filterMap_map->aaq,set_cons_zero->aat,set_cons_succ->aau,find?_eq_none->aav,getElem_range->aaw,any_eq_false->aaC,zipIdx_cons->aa9,cons_append->abb,map_reverse->abc,zipIdx_nil->abq,length_zip->abt,drop_zero->abS,all_map->acZ
open Bool renaming true->QW,false->Q2,false_ne_true->Rc,and_eq_true->Rx,and_self->Tb,false_eq_true->TJ,false_and->Ux,true_or->Uz,or_eq_true->U3,false_or->VJ,true_and->W6,and_true->W7,or_true->Xs,eq_iff_iff->X6,or_false->YD,not_true->YH,or_eq_false_iff->ZR,eq_false_iff->aaI
open Nat renaming le_of_ble_eq_true->QY,le_refl->Q4,lt_of_lt_of_le->Rq,ne_of_lt->Rr,le_trans->RO,zero_le->RZ,ne_of_gt->So,lt_irrefl->Sy,lt_trans->UD,lt_succ_self->UR,zero_add->Vd,le_of_succ_le->VG,lt_succ_of_lt->VH,add_sub_cancel_left->VT,le_of_lt->VV,min_eq_left->Wf,mul_le_mul->WH,add_assoc->Xg,lt_of_le_of_ne->Xm,min_le_right->XO,le_succ->X5,add_comm->Zd,lt_of_le_of_lt->aaF,le_add_right->abr,not_lt_zero->abV,le_of_eq->ady,succ_mul->adA,sub_zero->adD,sub_self->adF,max_le->afO
open Option.some renaming inj->Rm
open PyProof.Rows renaming envOfC->Ry,slot_tuple_getitem->RN,callWith_type1->S2,callWith_builtin1->aex,kws_cons->aey,kws_nil->aez
open Array renaming length_toList->Sa,getElem?_eq_some_iff->Sk,getElem?_toList->UI,getElem?_setIfInBounds_self_of_lt->We,getElem?_setIfInBounds_ne->Xt,getElem?_eq_getElem->Yi,toArray_toList->Zi,find?_toList->ZY,forIn_toList->aaa,toList->acb
open Int renaming toNat_natCast->Sl,le_refl->WI,toNat_of_nonneg->W4,ofNat->XU,fdiv_eq_ediv_of_nonneg->Yn,toNat->Y5,emod_lt_of_pos->aaH,emod_nonneg->abU,ediv_one->adz
open PySem.F renaming excBase_ValueError->TX,slot_list_append->Ub,type_list_append->Uc,plainAttrs_list->Uk,args_tuple_add_2->Vl,slot_dict_values->Vm,entry_tuple_add->Vv,plainAttrs_dict->Vw,slot_tuple_add->VN,slot_dict_getitem->X7,type_dict_values->Yd,slot_dict_pop->YG
open PySem.SeqAt renaming eqv_refl->Uv,compareEq_reads->afF,compareNe_reads->afG,in_list_reads->afH,in_tuple_reads->afI,notIn_list_reads->afJ,notIn_tuple_reads->afK
open List.Pairwise renaming nil->VZ,filterMap->adG,filter->adH,map->adI
open List.Perm renaming refl->Xy,swap->aiR
open Int.ofNat renaming inj->aax
open PySem.PassesOwn renaming never->acg
open PySem.W.Looks renaming here->adv
open PySem.Within renaming cons->aew
open List.Nodup renaming sublist->ahE
open PySem.IsL renaming update->aiQ
open List.cons renaming injEq->aiT
namespace L2
open PySem PySem.Spec PyProof.Rows
abbrev cH:=Sum Int Str
def tZ:cH->QT->Bool
 | .inl k,v=>QT.isInt k v
 | .inr x,v=>QT.isStrOf x v
def P9 (w:RM):cH->Int
 | .inl k=>hashInt k
 | .inr x=>hashStr w x
theorem cX:∀{k:cH} {v:QT},tZ k v=QW->(∃i t,k=Sum.inl i/\v=QT.int i t)\/(∃x t,k=Sum.inr x/\v=QT.str x t)
 | .inl i,v,h=>by obtain⟨t,e⟩:=QT.isInt_shape h;exact .inl ⟨i,t,rfl,e⟩
 | .inr x,v,h=>by obtain⟨t,e⟩:=QT.isStrOf_shape h;exact .inr ⟨x,t,rfl,e⟩
theorem Df (i:Int) (t:Tok):tZ (.inl i) (.int i t)=QW:=by simp[tZ,QT.isInt]
theorem CC (x:Str) (t:Tok):tZ (.inr x) (.str x t)=QW:=by simp[tZ,QT.isStrOf]
theorem Mr (a b:Int):decide ((Sum.inl a:cH)=Sum.inl b)=(a==b):=by
 by_cases e:a=b
 .subst e;simp
 .have h:¬(Sum.inl a:cH)=Sum.inl b:=fun q=>e (Sum.inl.inj q);rw[decide_eq_false h];exact(beq_eq_false_iff_ne.mpr e).symm
theorem MA (a b:Str):decide ((Sum.inr a:cH)=Sum.inr b)=decide (a=b):=by
 by_cases e:a=b
 .subst e;simp
 .have h:¬(Sum.inr a:cH)=Sum.inr b:=fun q=>e (Sum.inr.inj q);rw[decide_eq_false h,decide_eq_false e]
theorem Mv (a:Int) (b:Str):decide ((Sum.inl a:cH)=Sum.inr b)=Q2:=decide_eq_false (fun q=>nomatch q)
theorem M6 (a:Str) (b:Int):decide ((Sum.inr a:cH)=Sum.inl b)=Q2:=decide_eq_false (fun q=>nomatch q)
def cV (prog:Rt) (w:RM):PySem.KeyKind prog w cH where
 is:=tZ
 hash:=P9 w
 inj:=fun v a b ha f=>by
  rcases cX ha with⟨i,t,rfl,rfl⟩|⟨x,t,rfl,rfl⟩
  .rcases cX f with⟨j,u,rfl,e⟩|⟨y,u,rfl,e⟩
   .injection e with e1 _;rw[e1]
   .exact nomatch e
  .rcases cX f with⟨j,u,rfl,e⟩|⟨y,u,rfl,e⟩
   .exact nomatch e
   .injection e with e1 _;rw[e1]
 byValue:=fun k v h=>by rcases cX h with⟨i,t,rfl,rfl⟩|⟨x,t,rfl,rfl⟩<;>rfl
 pyHash:=fun d h=>by
  rcases cX d with⟨i,t,rfl,rfl⟩|⟨x,t,rfl,rfl⟩
  .exact ads h
  .exact adt h
 eqBool:=fun g d h=>by
  rcases cX g with⟨i,t,rfl,rfl⟩|⟨x,t,rfl,rfl⟩
  .rcases cX d with⟨j,u,rfl,rfl⟩|⟨y,u,rfl,rfl⟩
   .rw[Mr] at h;exact wpAny_eqBool_int h
   .rw[Mv] at h;exact SeqAt.EqAt.int_str i t y u _ _ _ _ h
  .rcases cX d with⟨j,u,rfl,rfl⟩|⟨y,u,rfl,rfl⟩
   .rw[M6] at h;exact SeqAt.EqAt.str_int x t j u _ _ _ _ h
   .rw[MA] at h;exact wpAny_eqBool_str h
 «strs»:=fun k x t v h=>by
  rcases cX h with⟨i,u,rfl,e⟩|⟨y,u,rfl,e⟩
  .exact nomatch e
  .injection e with e1 _
   subst e1;cases v<;>rfl
theorem xJ (prog:Rt) (w:RM) (i:Int) (t:Tok):(cV prog w).is (.inl i) (.int i t)=QW:=Df i t
theorem xn (prog:Rt) (w:RM) (x:Str) (t:Tok):(cV prog w).is (.inr x) (.str x t)=QW:=CC x t
inductive V where
 |TL|bl (b:Bool)|int (i:Int)|str (x:Str)|byt (b:Array UInt8)|flt (b:UInt64)|ref (a:QX)|ty (n:String)
 deriving DecidableEq
def RelV:V->QT->Prop
 | .TL,u=>u=QT.none
 | .bl b,u=>u=QT.bool b
 | .int i,u=>∃t,u=QT.int i t
 | .str x,u=>∃t,u=QT.str x t
 | .byt b,u=>∃t,u=QT.bytes b t
 | .flt b,u=>∃t,u=QT.float b t
 | .ref a,u=>u=QT.ref a
 | .ty n,u=>u=QT.type n
abbrev Vals:List V->List QT->Prop:=Paired RelV
theorem Vals.length (r:Vals xs us):xs.length=us.length:=Paired.length r
theorem Vals.get:∀{xs:List V} {us:List QT} {i:Nat} {x:V},Vals xs us->xs[i]? =lD x->∃u,us[i]? =lD u/\RelV x u
 |_,_,_,_,.nil,e=>by simp at e
 |_,_,0,_,.cons r _,e=>by simp at e;subst e;exact⟨_,rfl,r⟩
 |_,_,i+1,x,.cons _ t,e=>by obtain⟨u,b,a⟩:=Vals.get t (by simpa using e);exact⟨u,by simpa using b,a⟩
theorem Vals.append:∀{xs a:List V} {us ws:List QT},Vals xs us->Vals a ws->Vals (xs++a) (us++ws)
 |_,_,_,_,.nil,s=>s
 |_,_,_,_,.cons r t,s=> .cons r (Vals.append t s)
theorem Vals.take:∀{xs:List V} {us:List QT} (n:Nat),Vals xs us->Vals (xs.take n) (us.take n)
 |_,_,0,_=> .nil
 |_,_,_+1,.nil=> .nil
 |_,_,n+1,.cons r t=> .cons r (Vals.take n t)
theorem Vals.drop:∀{xs:List V} {us:List QT} (n:Nat),Vals xs us->Vals (xs.drop n) (us.drop n)
 |_,_,0,r=>r
 |_,_,_+1,.nil=> .nil
 |_,_,n+1,.cons _ t=>Vals.drop n t
def Vz:Option V->Option QT->Prop
 |some v,lD u=>RelV v u
 |none,QS=>True
 |_,_=>False
def KV:List (κ×V)->List (κ×QT)->Prop:=Paired fun(p:κ×V) (q:κ×QT)=>p.1=q.1/\RelV p.2 q.2
def kV:cH->V
 | .inl i=> .int i
 | .inr x=> .str x
inductive HO where
 |lst (xs:List V)
 |tup (xs:List V)
 |dK (Rz:List (cH×V))|dT (Rz:List (List cH×V))
 |set (S:Int->Bool) (n:Nat)
 |ins (C dx:QX) (fs:List (Str×V))
 |own (x:QX)
 |xd (fs:List (Str×V))
 |met (f x:QX)
 |rng (lo hi:Int)
 |frz (o:Obj) (u:HO)
 |tbl (ps:Array QT)
 |ext (φ:Heap->Prop)
 |exw (φ:RM->Heap->Prop)
abbrev Hp:=QX->Option HO
def bC (H:Hp) (a:QX) (o:HO):Hp:=fun b=>if b=a then lD o else H b
theorem aM:bC H a o a=lD o:=by unfold bC;rw[if_pos rfl]
theorem aH (h:b≠a):bC H a o b=H b:=by unfold bC;rw[if_neg h]
theorem NV {H:Hp} {a b:QX} {o u:HO} (h:H a=lD o) (h':H b=lD u) (d:o≠u):a≠b:=by intro e;subst e;rw[h] at h';exact d (Rm h')
theorem b8 {H:Hp} (h:H a=lD o) (h':H b=QS):a≠b:=by intro e;subst e;rw[h] at h';cases h'
def Xn (h:Heap) (a:QX) (items:Array QT):Prop:=∃o,h.get? a=lD o/\(o.cls= .type "tuple"/\∃n,o.data= .seq items n)/\o.dict=QS
theorem Xn.tup (x:Xn h a items):IsTup h a items:=let⟨o,e,c,_⟩:=x;⟨o,e,c⟩
theorem Xn.lt (x:Xn h a items):a<h.objs.size:=let⟨_,e,_⟩:=x;Heap.lt_size e
theorem Xn.new (h:Heap) (xs:Array QT):Xn (h.push {cls:= .type "tuple",data:= .seq xs}) h.objs.size xs:=⟨_,Heap.get?_push_size _ rfl,⟨rfl,_,rfl⟩,rfl⟩
section
variable (P:Rt) (w:RM)
def ObjOk (H:Hp) (h:Heap) (a:QX):HO->Prop
 | .lst xs=>xs.length<=Q8/\∃(b:List QT) (n:Nat),Vals xs b/\h.get? a=lD {cls:= .type "list",data:= .seq b.toArray n}
 | .tup xs=>xs.length<=Q8/\∃b:List QT,Vals xs b/\Xn h a b.toArray
 | .dK Rz=>Rz.length<=Q8/\(a==Ti)=Q2/\∃vs,KV Rz vs/\h.DictOf (cV P w) a vs
 | .dT Rz=>Rz.length<=Q8/\(a==Ti)=Q2/\∃xs:List (List cH×QX×QT),
   Paired (fun(p:List cH×V) (q:List cH×QX×QT)=>p.1=q.1/\H q.2.1=lD (.tup (p.1.map kV))/\RelV p.2 q.2.2) Rz xs/\
   ∃o es ep,h.get? a=lD o/\o.ExactDict/\o.data= .dict es ep/\es.toList=xs.map (entryOfKey (tupleKind (cV P w)))/\(xs.map (·.1)).Nodup
 | .set S n=>h.SetOf (intKind P w) a S n
 | .ins C dx fs=>H dx=lD (.own a)/\fs.length<=1000/\dx≠a/\h.get? a=lD (Td C dx)/\
   ∃mA,h.Ns1 dx mA/\(∀f,Vz (fs.lookup f) (mA f))/\YL mA (fs.map (·.1))
 | .own _=>∃o,h.get? a=lD o
 | .xd fs=>∃mA,h.Ns1 a mA/\∀f,Vz (fs.lookup f) (mA f)
 | .rng lo hi=>∃t u v,h.get? a=lD {cls:= .type "range",data:= .fields #[.int lo t,.int hi u,.int 1 v]}
 | .frz o u=>h.get? a=lD o/\ObjOk H h a u
 | .tbl ps=>h.get? a=lD {cls:= .none,data:= .fields ps}
 | .met f x=>h.get? a=lD (W2 (.ref f) (.ref x))
 | .ext φ=>φ h/\(∃o,h.get? a=lD o)/\∀h1 h2:Heap,φ h1->(∀o,h1.get? a=lD o->h2.get? a=lD o)->φ h2
 | .exw φ=>φ w h/\(∃o,h.get? a=lD o)/\∀h1 h2:Heap,φ w h1->(∀o,h1.get? a=lD o->h2.get? a=lD o)->φ w h2
def Wi (H:Hp) (h:Heap):Prop:=∀a o,H a=lD o->ObjOk P w H h a o
end
section
variable {P:Rt} {w:RM} {H H':Hp} {h h':Heap} {a:QX} {o:HO}
theorem ObjOk.lt (x:ObjOk P w H h a o):a<h.objs.size:=by
 cases o with
 |lst xs=>obtain⟨_,_,_,_,e⟩:=x;exact Heap.lt_size e
 |tup xs=>obtain⟨_,_,_,p⟩:=x;exact p.lt
 |dK Rz=>obtain⟨_,_,_,_,o,_,_,e,_⟩:=x;exact Heap.lt_size e
 |dT Rz=>obtain⟨_,_,_,_,o,_,_,e,_⟩:=x;exact Heap.lt_size e
 |set S n=>obtain⟨o,_,_,_,e,_⟩:=x;exact Heap.lt_size e
 |ins C dx fs=>obtain⟨_,_,_,e,_⟩:=x;exact Heap.lt_size e
 |own y=>obtain⟨_,e⟩:=x;exact Heap.lt_size e
 |xd fs=>obtain⟨_,⟨_,_,_,e,_⟩,_⟩:=x;exact Heap.lt_size e
 |rng lo hi=>obtain⟨_,_,_,e⟩:=x;exact Heap.lt_size e
 |frz b u=>obtain⟨e,_⟩:=x;exact Heap.lt_size e
 |tbl ps=>exact Heap.lt_size (show h.get? a=lD _ from x)
 |met f y=>exact Heap.lt_size (show h.get? a=lD _ from x)
 |ext φ=>obtain⟨_,⟨_,e⟩,_⟩:=x;exact Heap.lt_size e
 |exw φ=>obtain⟨_,⟨_,e⟩,_⟩:=x;exact Heap.lt_size e
theorem Paired.Vn:∀{l₁:List α} {l₂:List β},Paired F l₁ l₂->(∀a b,F a b->G a b)->Paired G l₁ l₂
 |_,_,.nil,_=> .nil
 |_,_,.cons r t,f=> .cons (f _ _ r) (Paired.Vn t f)
theorem ObjOk.Wb (x:ObjOk P w H h a o) (k:∀b u,(b=a\/H b=lD (.own a))->h.get? b=lD u->h'.get? b=lD u)
  (G:∀b,H b=lD (.own a)->H' b=lD (.own a)) (F:∀b xs,H b=lD (.tup xs)->H' b=lD (.tup xs)):ObjOk P w H' h' a o:=by
 induction o with
 |lst xs=>obtain⟨z,B,n,r,e⟩:=x;exact⟨z,B,n,r,k _ _ (.inl rfl) e⟩
 |tup xs=>obtain⟨z,B,r,g,e,c⟩:=x;exact⟨z,B,r,g,k _ _ (.inl rfl) e,c⟩
 |dK Rz=>obtain⟨z,y,vs,r,g,i,j,e,c⟩:=x;exact⟨z,y,vs,r,g,i,j,k _ _ (.inl rfl) e,c⟩
 |dT Rz=>obtain⟨z,y,xs,r,g,i,j,e,c⟩:=x;exact⟨z,y,xs,Paired.Vn r fun p q z=>⟨z.1,F _ _ z.2.1,z.2.2⟩,g,i,j,k _ _ (.inl rfl) e,c⟩
 |set S n=>obtain⟨g,i,j,t,e,c⟩:=x;exact⟨g,i,j,t,k _ _ (.inl rfl) e,c⟩
 |ins C dx fs=>obtain⟨d,z,ne,e,A,⟨m,i,j,I,c⟩,r⟩:=x;exact⟨G _ d,z,ne,k _ _ (.inl rfl) e,A,⟨m,i,j,k _ _ (.inr d) I,c⟩,r⟩
 |own y=>obtain⟨g,e⟩:=x;exact⟨g,k _ _ (.inl rfl) e⟩
 |xd fs=>obtain⟨A,⟨m,i,j,e,c⟩,r⟩:=x;exact⟨A,⟨m,i,j,k _ _ (.inl rfl) e,c⟩,r⟩
 |rng lo hi=>obtain⟨t,u,v,e⟩:=x;exact⟨t,u,v,k _ _ (.inl rfl) e⟩
 |frz g u E=>obtain⟨e,q⟩:=x;exact⟨k _ _ (.inl rfl) e,E q⟩
 |tbl ps=>have e:h.get? a=lD {cls:= .none,data:= .fields ps}:=x;show h'.get? a=lD {cls:= .none,data:= .fields ps};exact k a _ (.inl rfl) e
 |met f y=>have e:h.get? a=lD (W2 (.ref f) (.ref y)):=x;show h'.get? a=lD (W2 (.ref f) (.ref y));exact k a _ (.inl rfl) e
 |ext φ=>obtain⟨p,⟨o,e⟩,l⟩:=x;exact⟨l _ _ p fun o q=>k _ _ (.inl rfl) q,⟨o,k _ _ (.inl rfl) e⟩,l⟩
 |exw φ=>obtain⟨p,⟨o,e⟩,l⟩:=x;exact⟨l _ _ p fun o q=>k _ _ (.inl rfl) q,⟨o,k _ _ (.inl rfl) e⟩,l⟩
theorem Wi.lt (x:Wi P w H h) (e:H a=lD o):a<h.objs.size:=(x a o e).lt
theorem Wi.fresh (x:Wi P w H h) (e:h.objs.size<=a):H a=QS:=by
 cases q:H a with
 |none=>rfl
 |some u=>exact absurd (Rq (x.lt q) e) (Sy _)
theorem Wi.kept (x:Wi P w H h) (k:∀b u,h.get? b=lD u->h'.get? b=lD u):Wi P w H h':=fun a o e=>
 (x a o e).Wb (fun b u _ q=>k b u q) (fun _ q=>q) fun _ _ q=>q
theorem Wi.laid (x:Wi P w H h) (k:∀b u,h.get? b=lD u->h'.get? b=lD u) (f:h.objs.size<=a) (new:ObjOk P w (bC H a o) h' a o):Wi P w (bC H a o) h':=fun b u e=>by
 have hn:=x.fresh f;by_cases d:b=a
 .subst d;rw[aM] at e;cases e;exact new
 .rw[aH d] at e;exact(x b u e).Wb (fun c v _ q=>k c v q) (fun c q=>by rw[aH (b8 q hn)];exact q) fun c xs q=>by rw[aH (b8 q hn)];exact q
end
def Rd (H:Hp) (a:QX) (u:HO):Prop:=H a=lD u\/∃o,H a=lD (.frz o u)
theorem Rd.ok (r:Rd H a u) (x:Wi P w H h):ObjOk P w H h a u:=by
 rcases r with r|⟨o,r⟩
 .exact x a u r
 .obtain⟨_,q⟩:=x a _ r;exact q
def N6:Option HO->Prop
 |some (.lst _)=>True
 |some (.dK _)=>True
 |some (.dT _)=>True
 |some (.set _ _)=>True
 |some (.ins _ _ _)=>True
 |some (.ext _)=>True
 |some (.exw _)=>True
 |_=>False
section
variable {P:Rt} {w:RM} {H:Hp} {h h':Heap} {x e:QX} {Z:HO}
theorem Wi.write (ok:Wi P w H h) (f:N6 (H x)) (n:e=x\/H e=lD (.own x)) (k:∀b u,b≠e->h.get? b=lD u->h'.get? b=lD u) (j:∃u,h'.get? e=lD u)
  (new:ObjOk P w (bC H x Z) h' x Z):Wi P w (bC H x Z) h':=fun b u q=>by
 have d:∀c y,H c=lD (.own y)->c≠x:=fun c y r z=>by subst z;rw[r] at f;exact f
 have l:∀c xs,H c=lD (.tup xs)->c≠x:=fun c xs r z=>by subst z;rw[r] at f;exact f
 by_cases i:b=x
 .subst i;rw[aM] at q;cases q;exact new
 .rw[aH i] at q
  by_cases a:b=e
  .have m:H b=lD (.own x):=by
    rcases n with z|z
    .exact absurd (a.trans z) i
    .rw[a];exact z
   rw[q] at m;cases m;obtain⟨v,o⟩:=j;exact⟨v,by rw[a];exact o⟩
  .refine(ok b u q).Wb (fun c v g r=>k c v ?_ r) (fun c r=>by rw[aH (d c b r)];exact r) fun c xs r=>by rw[aH (l c xs r)];exact r
   rcases g with rfl|g
   .exact a
   .rintro rfl
    rcases n with z|z
    .exact d c b g z
    .rw[g] at z;cases z;exact i rfl
end
structure Un (fs ex:List QX) (H H':Hp) (h h':Heap):Prop where
 keep:∀b o,h.get? b=lD o->H b=QS->b∉fs->b∉ex->h'.get? b=lD o
 slot:∀b o,h.get? b=lD o->H b=QS->b∈fs->b∉ex->∃sl,h'.get? b=lD {o with slots:=sl}
 free:∀b o,h.get? b=lD o->H b=QS->b∉ex->H' b=QS
 there:∀b o,h.get? b=lD o->b∉ex->∃o',h'.get? b=lD o'
 XW:∀b xs,H b=lD (.tup xs)->H' b=lD (.tup xs)
 XD:∀b o u,H b=lD (.frz o u)->H' b=lD (.frz o u)
 XX:∀b ps,H b=lD (.tbl ps)->∃more,H' b=lD (.tbl (ps++more))
section
variable {fs fs' ex ex':List QX} {H H1 H2:Hp} {h h1 h2 h':Heap} {a x e:QX} {o:HO}
theorem Un.any (u:Un fs ex H H1 h h1) (q:h.get? b=lD ob) (n:H b=QS) (d:b∉ex):∃sl,h1.get? b=lD {ob with slots:=sl}:=by
 by_cases f:b∈fs
 .exact u.slot b ob q n f d
 .exact⟨ob.slots,u.keep b ob q n f d⟩
theorem Un.kept (k:∀b u,h.get? b=lD u->h'.get? b=lD u):Un fs ex H H h h':=
 ⟨fun b d q _ _ _=>k b d q,fun b d q _ _ _=>⟨d.slots,k b d q⟩,fun _ _ _ n _=>n,fun b d q _=>⟨d,k b d q⟩,fun _ _ q=>q,fun _ _ _ q=>q,fun _ ps q=>⟨#[],by rw[q];simp⟩⟩
theorem Un.refl:Un fs ex H H h h:=Un.kept fun _ _ q=>q
theorem Un.laid (k:∀b u,h.get? b=lD u->h'.get? b=lD u) (d:h.objs.size<=a) (hn:H a=QS):Un fs ex H (bC H a o) h h' where
 keep:=fun b u q _ _ _=>k b u q
 slot:=fun b u q _ _ _=>⟨u.slots,k b u q⟩
 free:=fun b u q n _=>by rw[aH (Rr (Rq (Heap.lt_size q) d))];exact n
 there:=fun b u q _=>⟨u,k b u q⟩
 XW:=fun b xs q=>by rw[aH (b8 q hn)];exact q
 XD:=fun b u xs q=>by rw[aH (b8 q hn)];exact q
 XX:=fun b ps q=>⟨#[],by rw[aH (b8 q hn),q];simp⟩
theorem Un.write (f:N6 (H x)) (m:e=x\/H e=lD (.own x)) (k:∀b u,b≠e->h.get? b=lD u->h'.get? b=lD u) (g:∃u,h'.get? e=lD u):Un fs ex H (bC H x o) h h':=by
 have i:∀b,H b=QS->b≠x:=fun b n z=>by subst z;rw[n] at f;exact f
 have j:∀b,H b=QS->b≠e:=fun b n z=>by
  subst z;rcases m with r|r
  .exact i b n r
  .rw[n] at r;cases r
 have hm:∀b u,H b=lD u->¬N6 (lD u)->b≠x:=fun b u q l z=>by subst z;rw[q] at f;exact l f
 refine⟨fun b u q n _ _=>k b u (j b n) q,fun b u q n _ _=>⟨u.slots,k b u (j b n) q⟩,fun b u q n _=>by rw[aH (i b n)];exact n,fun b u q _=> ?_,
  fun b xs q=>by rw[aH (hm b _ q fun z=>z)];exact q,fun b u xs q=>by rw[aH (hm b _ q fun z=>z)];exact q,fun b ps q=>⟨#[],by rw[aH (hm b _ q fun z=>z),q];simp⟩⟩
 by_cases d:b=e
 .subst d;exact g
 .exact⟨u,k b u d q⟩
end
def Po (h:Heap) (H:Hp):List QX:=(Rj h.objs.size).filter fun a=>(H a).isSome
def vW (h:Heap) (H:Hp):Heap:=PySem.W.hideAll h (Po h H)
theorem Db (h:Heap) (H:Hp):(vW h H).objs.size=h.objs.size:=PySem.W.hideAll_size _ _
theorem Fa (e:h.get? b=lD o) (n:H b=QS):(vW h H).get? b=lD o:=
 PySem.W.hideAll_get _ e fun hm=>by have q:=(Tj.mp hm).2;rw[n] at q;simp at q
theorem Iw (e:(vW h H).get? b=lD o):h.get? b=lD o/\H b=QS:=by
 have a:=PySem.W.of_hideAll (Po h H) e;refine⟨a,?_⟩;cases q:H b with
 |none=>rfl
 |some x=>have hm:b∈Po h H:=Tj.mpr ⟨SS.mpr (Heap.lt_size a),by simp[q]⟩;have z:(vW h H).get? b=QS:=PySem.W.hideAll_none (Po h H) hm;rw[z] at e;cases e
structure Mod (K:QR) (mg:Str->Option QT) (base:Heap):Prop where
 kin:K.In base
 glob:base.Ns Rk mg
 blt:∃mb,base.Ns builtinsNs mb/\∀x:Str,x≠ "__name__"->mb x=Sr x
 nolimit:base.NoLimit
structure Cx where
 prog:Rt
 w:RM
 K:QR
 mg:Str->Option QT
 base:Heap
 A:RG
 N:List Str
 s₀:Q0
 H₀:Hp
 env:Env
 outer:List Env
 stack:List Env
 ex:List QX
 fn:Str->Bool
 calm:Bool
 pn:List (QX×Obj)
 xe:QT->Q0->Prop
def xN (l:List Env):List QX:=l.filterMap (·.frame)
abbrev Cx.fs (X:Cx):List QX:=xN X.outer
def Pg (sc:UQ) (x:Str):Prop:=sc.names.lookup x=lD .local\/sc.names.lookup x=lD .cell\/sc.names.lookup x=lD .free
def Op (sc:UQ) (x:Str):Prop:=sc.names.lookup x=lD .local\/sc.names.lookup x=lD .cell
def PR (env:Env) (h:Heap) (m:Str->Option QT) (x:Str) (u:QT):Prop:=
 (env.kindOf x=lD .local/\m x=lD u)\/((env.kindOf x=lD .cell\/env.kindOf x=lD .free)/\∃c,env.cells.lookup x=lD c/\h.IsCell c (lD u))
structure Cx.Ok (X:Cx):Prop where
 mod:Mod X.K X.mg X.base
 kind:X.env.scope.kind= .function
 glob:X.env.globals=Rk
 blt:X.env.builtins=builtinsNs
 above:X.s₀.heap.objs.size<=X.env.locals
 inj:∀x y c,X.env.cells.lookup x=lD c->X.env.cells.lookup y=lD c->x=y
 has:∀x,(X.env.kindOf x=lD .cell\/X.env.kindOf x=lD .free)->∃c,X.env.cells.lookup x=lD c
 cab:∀x c,X.fn x=QW->X.env.cells.lookup x=lD c->X.s₀.heap.objs.size<=c
 hd:X.calm=QW->X.A.handled=QS
 frames:X.A.frames=lD X.stack
 stk:X.stack=X.outer\/(X.stack=X.env::X.outer/\X.env.frame=lD X.env.locals)
 exf:∀b∈X.ex,b≠X.env.locals/\∀x c,X.env.cells.lookup x=lD c->c≠b
 bs:∀b o,X.base.get? b=lD o->X.s₀.heap.get? b=lD o/\X.H₀ b=QS
 bsz:X.base.objs.size<=X.s₀.heap.objs.size
 YZ:∀b o,X.base.get? b=lD o->b∉X.ex
 YV:∀b∈X.ex,b∉X.fs
 WO:X.s₀.heap.FunFrames X.base X.outer
 frf:∀b∈X.fs,X.H₀ b=QS
structure Inv (X:Cx) (pins:List (QX×Obj)) (σ:List (Option V)) (H:Hp) (s:Q0):Prop where
 ok:X.Ok
 os:s.os=X.s₀.os
 bare:AllBare s.gens
 base:Un X.fs X.ex X.H₀ H X.s₀.heap s.heap
 loc:∃m,s.heap.Ns X.env.locals m/\∀(i:Nat) (x:Str) (v:V),X.N[i]? =lD x->σ[i]? =lD (lD v)->Pg X.env.scope x->∃u,RelV v u/\PR X.env s.heap m x u
 cell:∀x c,X.env.cells.lookup x=lD c->∃v,s.heap.IsCell c v
 free:H X.env.locals=QS
 UX:∀x c,X.env.cells.lookup x=lD c->H c=QS
 pin:∀p∈X.pn++pins,s.heap.get? p.1=lD p.2/\H p.1=QS/\p.1≠X.env.locals/\p.1∉X.fs/\∀v,p.2.data≠ .cell v
 Su:Wi X.prog X.w H s.heap
 len:σ.length=X.N.length
section
variable {X:Cx} {Z:List (QX×Obj)} {Y:List (Option V)} {H H':Hp} {s:Q0} {h':Heap}
theorem Cx.Ok.ahe (ok:X.Ok) (e:X.base.get? b=lD o):b∉X.fs:=fun a=>by have:=(ok.WO.mem a).1;rw[e] at this;cases this
theorem Inv.bs (I:Inv X Z Y H s):∀b o,X.base.get? b=lD o->s.heap.get? b=lD o/\H b=QS:=fun b o e=>
 ⟨I.base.keep b o (I.ok.bs b o e).1 (I.ok.bs b o e).2 (I.ok.ahe e) (I.ok.YZ b o e),I.base.free b o (I.ok.bs b o e).1 (I.ok.bs b o e).2 (I.ok.YZ b o e)⟩
theorem Inv.bk (I:Inv X Z Y H s):∀b o,X.base.get? b=lD o->s.heap.get? b=lD o:=fun b o e=>(I.bs b o e).1
theorem Inv.mod (I:Inv X Z Y H s):Mod X.K X.mg X.base:=I.ok.mod
theorem Inv.XB (I:Inv X Z Y H s):X.K.In s.heap:=I.ok.mod.kin.keeps I.bk
theorem Inv.lt (I:Inv X Z Y H s):X.env.locals<s.heap.objs.size:=let⟨_,hn,_⟩:=I.loc;hn.lt
theorem Inv.sz (I:Inv X Z Y H s):X.s₀.heap.objs.size<=s.heap.objs.size:=RO I.ok.above (VV I.lt)
theorem Inv.agD (I:Inv X Z Y H s) (h:s.heap.objs.size<=a):a∉X.fs:=fun d=>by obtain⟨_,o,b,_⟩:=I.ok.WO.mem d;exact absurd (Rq (Heap.lt_size b) (RO I.sz h)) (Sy _)
theorem Inv.cne (I:Inv X Z Y H s):∀x c,X.env.cells.lookup x=lD c->c≠X.env.locals:=fun x c e z=>by obtain⟨v,o,d,f⟩:=I.cell x c e;obtain⟨m,⟨g,h,i,a,b,_⟩,_⟩:=I.loc;rw[z,a] at d;cases d;rw[b] at f;cases f
theorem Inv.WO (I:Inv X Z Y H s):s.heap.FunFrames X.base X.outer:=by
 have all:∀(l:List Env),(∀b∈xN l,b∈X.fs)->X.s₀.heap.FunFrames X.base l->s.heap.FunFrames X.base l:=by
  intro l
  induction l with
  |nil=>intro _ _;trivial
  |cons q r h=>intro g m;obtain⟨n,⟨L,o,a,hn,j,p⟩,i⟩:=m;have f:=g L (by unfold xN;rw[Uh,a];exact Rh);obtain⟨t,e⟩:=I.base.slot L o j (I.ok.frf L f) f fun z=>I.ok.YV L z f;exact⟨n,⟨L,_,a,hn,e,p⟩,h (fun b d=>g b (by unfold xN;rw[Uh,a];exact Rf _ d)) i⟩
 exact all X.outer (fun _ d=>d) I.ok.WO
theorem Inv.stack (I:Inv X Z Y H s):s.heap.FunFrames X.base X.stack:=by
 rcases I.ok.stk with e|⟨e,hf⟩
 .rw[e];exact I.WO
 .rw[e];obtain⟨m,hn,_⟩:=I.loc;refine .cons (by rw[I.ok.kind];decide) hf hn ?_ I.WO;exact Heap.get?_none_of_le (RO I.ok.bsz I.ok.above)
theorem Inv.Xr (I:Inv X Z Y H s):∀b∈xN X.stack,b∈X.env.locals::X.fs:=fun b a=>by
 rcases I.ok.stk with e|⟨e,hf⟩
 .rw[e] at a;exact Rf _ a
 .rw[e] at a;unfold xN at a;rw[Uh,hf] at a;exact a
theorem Inv.XN (I:Inv X Z Y H s):∀b∈xN X.stack,H b=QS:=fun b a=>by
 rcases Rv.mp (I.Xr b a) with e|a
 .rw[e];exact I.free
 .obtain⟨_,o,d,_⟩:=I.ok.WO.mem a;exact I.base.free b o d (I.ok.frf b a) fun z=>I.ok.YV b z a
theorem Inv.step {g':Array Wl} {t':Nat} {d':aap} {ch:List QX} (I:Inv X Z Y H s)
  (g:∀b∈ch,(b∈X.ex\/X.s₀.heap.objs.size<=b)/\b≠X.env.locals/\(∀x c,X.env.cells.lookup x=lD c->c≠b)/\∀p∈X.pn++Z,p.1≠b)
  (keep:∀b o,b≠X.env.locals->b∉X.fs->b∉ch->s.heap.get? b=lD o->H b=QS->h'.get? b=lD o)
  (y:∀b o,b≠X.env.locals->b∈X.fs->b∉ch->s.heap.get? b=lD o->H b=QS->∃sl,h'.get? b=lD {o with slots:=sl}) (free:∀b o,b∉ch->s.heap.get? b=lD o->H b=QS->H' b=QS)
  (A:∀b o,b∉ch->s.heap.get? b=lD o->∃o',h'.get? b=lD o')
  (U:∀b xs,H b=lD (.tup xs)->H' b=lD (.tup xs)) (XD:∀b o u,H b=lD (.frz o u)->H' b=lD (.frz o u)) (T:∀b ps,H b=lD (.tbl ps)->∃more,H' b=lD (.tbl (ps++more)))
  (N:∀m,s.heap.Ns X.env.locals m->h'.Ns X.env.locals m) (Su:Wi X.prog X.w H' h') (R:AllBare g'):
  Inv X Z Y H' {s with heap:=h',gens:=g',drawn:=d',toks:=t'}:=by
 have E:∀b o,X.s₀.heap.get? b=lD o->b≠X.env.locals:=fun b o e=>Rr (Rq (Heap.lt_size e) I.ok.above);have j:∀b o,X.s₀.heap.get? b=lD o->b∉X.ex->b∉ch:=fun b o e a B=>by
  rcases(g b B).1 with z|z
  .exact a z
  .exact absurd (Rq (Heap.lt_size e) z) (Sy _)
 have h:∀x c,X.env.cells.lookup x=lD c->∀v,s.heap.IsCell c v->h'.IsCell c v:=fun x c e v ⟨o,C,J⟩=>by
  have f:c∉ch:=fun z=>(g c z).2.2.1 x c e rfl;by_cases M:c∈X.fs
  .obtain⟨sl,q⟩:=y c o (I.cne x c e) M f C (I.UX x c e);exact⟨_,q,J⟩
  .exact⟨o,keep c o (I.cne x c e) M f C (I.UX x c e),J⟩
 refine⟨I.ok,I.os,R,⟨fun b o e n B a=> ?_,fun b o e n B a=> ?_,fun b o e n a=> ?_,fun b o e a=> ?_,fun b xs e=>U b xs (I.base.XW b xs e),fun b o xs e=>XD b o xs (I.base.XD b o xs e),fun b ps e=> ?_⟩,?_,fun x c e=> ?_,?_,fun x c e=> ?_,fun p L=> ?_,Su,I.len⟩
 .exact keep b o (E b o e) B (j b o e a) (I.base.keep b o e n B a) (I.base.free b o e n a)
 .obtain⟨sl,t⟩:=I.base.slot b o e n B a;obtain⟨G,F⟩:=y b _ (E b o e) B (j b o e a) t (I.base.free b o e n a);exact⟨G,F⟩
 .obtain⟨o',t⟩:=I.base.there b o e a;exact free b o' (j b o e a) t (I.base.free b o e n a)
 .obtain⟨o',t⟩:=I.base.there b o e a;exact A b o' (j b o e a) t
 .obtain⟨P,t⟩:=I.base.XX b ps e;obtain⟨O,F⟩:=T b _ t;exact⟨P++O,by rw[F,Array.append_assoc]⟩
 .obtain⟨m,hn,Q⟩:=I.loc
  refine⟨m,N m hn,fun i x v t F S=> ?_⟩;obtain⟨u,r,l⟩:=Q i x v t F S;refine⟨u,r,?_⟩;rcases l with l|⟨k,c,e,z⟩
  .exact .inl l
  .exact .inr ⟨k,c,e,h x c e _ z⟩
 .obtain⟨v,z⟩:=I.cell x c e;exact⟨v,h x c e v z⟩
 .obtain⟨m,⟨o,_,_,C,_⟩,_⟩:=I.loc;exact free _ o (fun z=>(g _ z).2.1 rfl) C I.free
 .obtain⟨v,o,C,J⟩:=I.cell x c e;exact free c o (fun z=>(g c z).2.2.1 x c e rfl) C (I.UX x c e)
 .obtain⟨e,n,ne,K,d⟩:=I.pin p L;have f:p.1∉ch:=fun z=>(g p.1 z).2.2.2 p L rfl;exact⟨keep p.1 p.2 ne K f e n,free p.1 p.2 f e n,ne,K,d⟩
theorem Inv.un {t':Nat} (I:Inv X Z Y H s) (u:Un X.fs [] H H' s.heap h') (Su:Wi X.prog X.w H' h'):Inv X Z Y H' {s with heap:=h',toks:=t'}:=by obtain⟨m,⟨o,t,v,h,r⟩,_⟩:=id I.loc;obtain⟨l,j⟩:=u.any h I.free (by simp);exact I.step (g':=s.gens) (d':=s.drawn) (ch:=[]) (fun _ z=>nomatch z) (fun b o _ d _ e n=>u.keep b o e n d (by simp)) (fun b o _ d _ e n=>u.slot b o e n d (by simp)) (fun b o _ e n=>u.free b o e n (by simp)) (fun b o _ e=>u.there b o e (by simp)) u.XW u.XD u.XX (fun q hm=>by obtain⟨p,f,g,a,i⟩:=hm;rw[h] at a;cases a;exact⟨_,f,g,j,i⟩) Su I.bare
theorem Inv.call {g':Array Wl} {t':Nat} {d':aap} {ch:List QX} (I:Inv X Z Y H s) (u:Un (xN X.stack) ch H H' s.heap h') (Su:Wi X.prog X.w H' h') (q:AllBare g')
  (f:∀b∈ch,(b∈X.ex\/X.s₀.heap.objs.size<=b)/\b≠X.env.locals/\(∀x c,X.env.cells.lookup x=lD c->c≠b)/\∀p∈X.pn++Z,p.1≠b):
  Inv X Z Y H' {s with heap:=h',gens:=g',drawn:=d',toks:=t'}:=by
 obtain⟨m,⟨o,B,C,j,r⟩,_⟩:=id I.loc;obtain⟨v,g⟩:=u.any j I.free fun z=>(f _ z).2.1 rfl;exact I.step (ch:=ch) f (fun b o g t a e n=>u.keep b o e n (fun z=>(Rv.mp (I.Xr b z)).elim g t) a) (fun b o _ _ a e n=>u.any e n a) (fun b o a e n=>u.free b o e n a) (fun b o a e=>u.there b o e a) u.XW u.XD u.XX (fun A hm=>by obtain⟨y,h,i,d,l⟩:=hm;rw[j] at d;cases d;exact⟨_,h,i,g,l⟩) Su q
theorem Inv.turned {t':Nat} {it:QX} (I:Inv X Z Y H s) (k:∀b o,b≠it->s.heap.get? b=lD o->h'.get? b=lD o) (hn:H it=QS) (f:it≠X.env.locals)
  (l:it∈X.ex\/X.s₀.heap.objs.size<=it) (j:∀x c,X.env.cells.lookup x=lD c->c≠it) (i:∀p∈X.pn++Z,p.1≠it):Inv X Z Y H {s with heap:=h',toks:=t'}:=by
 have d:∀b u,H b=lD u->b≠it:=fun b u e z=>by rw[z,hn] at e;cases e
 refine I.step (g':=s.gens) (d':=s.drawn) (ch:=[it]) (fun b h=> ?_) (fun b o _ _ a e _=>k b o (fun z=>a (by simp[z])) e) (fun b o _ _ a e _=>⟨o.slots,k b o (fun z=>a (by simp[z])) e⟩) (fun _ _ _ _ n=>n)
  (fun b o a e=>⟨o,k b o (fun z=>a (by simp[z])) e⟩) (fun _ _ e=>e) (fun _ _ _ e=>e) (fun b ps e=>⟨#[],by rw[e];simp⟩) (fun m hm=> ?_) (fun b u e=> ?_) I.bare
 .have e:b=it:=by simpa using h
  subst e;exact⟨l,f,j,i⟩
 .obtain⟨o,t,w,g,r⟩:=hm;exact⟨o,t,w,k _ o (Ne.symm f) g,r⟩
 .refine(I.Su b u e).Wb (fun c v a q=>k c v ?_ q) (fun _ q=>q) fun _ _ q=>q
  rcases a with z|z
  .rw[z];exact d b u e
  .exact d c _ z
theorem Inv.tok (I:Inv X Z Y H s) (t:Nat):Inv X Z Y H {s with toks:=t}:=I.un Un.refl I.Su
theorem Inv.kept {t':Nat} (I:Inv X Z Y H s) (k:∀b u,s.heap.get? b=lD u->h'.get? b=lD u):Inv X Z Y H {s with heap:=h',toks:=t'}:=I.un (Un.kept k) (I.Su.kept k)
theorem Inv.laid {a:QX} {o:HO} {t':Nat} (I:Inv X Z Y H s) (k:∀b u,s.heap.get? b=lD u->h'.get? b=lD u) (d:s.heap.objs.size<=a) (new:ObjOk X.prog X.w (bC H a o) h' a o):
  Inv X Z Y (bC H a o) {s with heap:=h',toks:=t'}:=I.un (Un.laid k d (I.Su.fresh d)) (I.Su.laid k d new)
theorem Inv.write {x e:QX} {o:HO} {t':Nat} (I:Inv X Z Y H s) (d:N6 (H x)) (f:e=x\/H e=lD (.own x)) (k:∀b u,b≠e->s.heap.get? b=lD u->h'.get? b=lD u) (a:∃u,h'.get? e=lD u)
  (new:ObjOk X.prog X.w (bC H x o) h' x o):Inv X Z Y (bC H x o) {s with heap:=h',toks:=t'}:=I.un (Un.write d f k a) (I.Su.write d f k a new)
theorem Inv.YA (I:Inv X Z Y H s) (h:∀p∈ad2,s.heap.get? p.1=lD p.2/\H p.1=QS/\p.1≠X.env.locals/\p.1∉X.fs/\∀v,p.2.data≠ .cell v):Inv X ad2 Y H s:=
 ⟨I.ok,I.os,I.bare,I.base,I.loc,I.cell,I.free,I.UX,fun p a=>(RL.mp a).elim (fun z=>I.pin p (S1 _ z)) (h p),I.Su,I.len⟩
theorem xy {N:List Str} (d:N.Nodup) {i j:Nat} (a:N[i]? =lD x) (b:N[j]? =lD x):i=j:=by obtain⟨h,f⟩:=QU.mp a;obtain⟨g,e⟩:=QU.mp b;exact(List.getElem_inj d).mp (f.trans e.symm)
theorem uy {M:abm} {A:RG} {E:QT->Q0->Prop} {i:Nat} {x:Str} {v:V} {u:QT} {Q:Unit->Q0->Prop} (I:Inv X Z Y H s) (hN:X.N.Nodup) (hi:X.N[i]? =lD x) (hx:Op X.env.scope x) (r:RelV v u)
  (h:∀s',Inv X Z (Y.set i (lD v)) H s'->(∃a,Heap.SameBut a s.heap s'.heap/\(a=X.env.locals\/X.env.cells.lookup x=lD a))->Q () s') (hf:X.fn x=QW\/X.env.scope.names.lookup x=lD .local:=by first|exact .inl rfl|exact .inr rfl|assumption):wpAny M A (storeName X.env x u) Q E s:=by
 obtain⟨m,hn,hl⟩:=id I.loc;have ag6:(X.env.scope.kind== .class||(X.env.scope.kind== .module&&X.env.locals !=X.env.globals))=Q2:=by rw[I.ok.kind];rfl
 have hiσ:i<Y.length:=by rw[I.len];exact(QU.mp hi).1
 have cne:=I.cne;have tracked:∀{a:QX} {h':Heap},(∃o,s.heap.get? a=lD o/\H a=QS)->Heap.SameBut a s.heap h'->Wi X.prog X.w H h':=fun{a h'} ha hs b ob e=>by
  obtain⟨_,_,ab2⟩:=ha;refine(I.Su b ob e).Wb (fun c w' hc q=>(hs.2 c ?_).trans q) (fun _ q=>q) fun _ _ q=>q;rintro rfl;rcases hc with rfl|hc
  .rw[ab2] at e;cases e
  .rw[ab2] at hc;cases hc
 rcases hx with hk|hk
 .refine wpAny_storeName_local hk hn (fun h' hn' hs=> ?_) ag6
  obtain⟨oL,_,_,hoL,_⟩:=id hn;refine h _ ⟨I.ok,I.os,I.bare,⟨fun b o e n hb hx=> ?_,fun b o e n hb hx=> ?_,I.base.free,fun b o e hx=> ?_,I.base.XW,I.base.XD,I.base.XX⟩,⟨_,hn',fun j y v' e1 e2 e3=> ?_⟩,fun y c e=> ?_,I.free,I.UX,fun p hp=> ?_,tracked ⟨oL,hoL,I.free⟩ hs,by simpa using I.len⟩ ⟨_,hs,.inl rfl⟩
  .exact(hs.2 b (Rr (Rq (Heap.lt_size e) I.ok.above))).trans (I.base.keep b o e n hb hx)
  .obtain⟨sl,e1⟩:=I.base.slot b o e n hb hx;exact⟨sl,(hs.2 b (Rr (Rq (Heap.lt_size e) I.ok.above))).trans e1⟩
  .obtain⟨o',e1⟩:=I.base.there b o e hx;exact⟨o',(hs.2 b (Rr (Rq (Heap.lt_size e) I.ok.above))).trans e1⟩
  .by_cases hj:j=i
   .subst hj;rw[hi] at e1;cases e1;rw[Ss hiσ] at e2;cases e2;exact⟨u,r,.inl ⟨hk,by simp⟩⟩
   .rw[Sd (Ne.symm hj)] at e2
    obtain⟨u',r',q⟩:=hl j y v' e1 e2 e3;refine⟨u',r',?_⟩;rcases q with⟨k,e⟩|⟨k,c,e,z⟩
    .refine .inl ⟨k,?_⟩;have:y≠x:=fun e=>hj (xy hN e1 (e▸hi));simp[this,e]
    .exact .inr ⟨k,c,e,z.sameBut hs (cne y c e)⟩
  .obtain⟨w',z⟩:=I.cell y c e;exact⟨w',z.sameBut hs (cne y c e)⟩
  .obtain⟨e,n,ne,nf,d⟩:=I.pin p hp;exact⟨(hs.2 p.1 ne).trans e,n,ne,nf,d⟩
 .have hfn:X.fn x=QW:=by
   rcases hf with z|z
   .exact z
   .rw[z] at hk;cases hk
  obtain⟨c,hc⟩:=I.ok.has x (.inl hk);obtain⟨w',z⟩:=I.cell x c hc;refine wpAny_storeName_cell I.ok.kind hk hc z (fun h' Za hs=> ?_);obtain⟨oc,hoc,agi⟩:=id z;refine h {s with heap:=h'} ⟨I.ok,I.os,I.bare,⟨fun b o e n hb hx=> ?_,fun b o e n hb hx=> ?_,I.base.free,fun b o e hx=> ?_,I.base.XW,I.base.XD,I.base.XX⟩,⟨m,hn.sameBut hs (Ne.symm (cne x c hc)),fun j y v' e1 e2 e3=> ?_⟩,fun y c' e=> ?_,I.free,I.UX,fun p hp=> ?_,tracked ⟨oc,hoc,I.UX x c hc⟩ hs,by simpa using I.len⟩ ⟨c,hs,.inr hc⟩
  .exact(hs.2 b (Rr (Rq (Heap.lt_size e) (I.ok.cab x c hfn hc)))).trans (I.base.keep b o e n hb hx)
  .obtain⟨sl,e1⟩:=I.base.slot b o e n hb hx;exact⟨sl,(hs.2 b (Rr (Rq (Heap.lt_size e) (I.ok.cab x c hfn hc)))).trans e1⟩
  .obtain⟨o',e1⟩:=I.base.there b o e hx;exact⟨o',(hs.2 b (Rr (Rq (Heap.lt_size e) (I.ok.cab x c hfn hc)))).trans e1⟩
  .by_cases hj:j=i
   .subst hj;rw[hi] at e1;cases e1;rw[Ss hiσ] at e2;cases e2;exact⟨u,r,.inr ⟨.inl hk,c,hc,Za⟩⟩
   .rw[Sd (Ne.symm hj)] at e2
    obtain⟨u',r',q⟩:=hl j y v' e1 e2 e3;refine⟨u',r',?_⟩;rcases q with q|⟨k,c',e,z'⟩
    .exact .inl q
    .refine .inr ⟨k,c',e,z'.sameBut hs ?_⟩;rintro rfl;exact hj (xy hN e1 (I.ok.inj _ _ _ e hc▸hi))
  .by_cases hcc:c'=c
   .subst hcc;exact⟨_,Za⟩
   .obtain⟨w2,z2⟩:=I.cell y c' e;exact⟨w2,z2.sameBut hs hcc⟩
  .obtain⟨e,n,ne,nf,d⟩:=I.pin p hp;refine⟨(hs.2 p.1 ?_).trans e,n,ne,nf,d⟩;intro q;rw[q,hoc] at e;have q':oc=p.2:=Rm e;exact d w' (by rw[<-q'];exact agi)
theorem ri {i:Nat} {v:V} {u:QT} {Q:Unit->Q0->Prop} (I:Inv X Z Y H s) (hN:X.N.Nodup) (hi:X.N[i]? =lD x) (hx:Op X.env.scope x) (r:RelV v u)
  (h:∀s',Inv X Z (Y.set i (lD v)) H s'->Q () s') (hf:X.fn x=QW\/X.env.scope.names.lookup x=lD .local:=by first|exact .inl rfl|exact .inr rfl|assumption):wpAny M A (storeName X.env x u) Q E s:=
 uy I hN hi hx r (fun s' I' _=>h s' I') hf
theorem Inv.aaX {a:Q0} {ch:List QX} (I:Inv X Z Y H s) (g:a.os=s.os) (u:Un (xN X.stack) ch H H' s.heap a.heap) (Su:Wi X.prog X.w H' a.heap) (h:AllBare a.gens)
  (d:∀b∈ch,(b∈X.ex\/X.s₀.heap.objs.size<=b)/\b≠X.env.locals/\(∀x c,X.env.cells.lookup x=lD c->c≠b)/\∀p∈X.pn++Z,p.1≠b):Inv X Z Y H' a:=by
 obtain⟨h',g',d',t',f⟩:=a;have e:f=s.os:=g;subst e;exact I.call (g':=g') (t':=t') (d':=d') u Su h d
end
abbrev XK:=QT->Option QX->Hp->Prop
abbrev St:=List (Option V)
abbrev VK:=V->Hp->Prop
abbrev TE:=St->Hp->VK->Prop
abbrev TT:=St->Hp->(Bool->Hp->Prop)->Prop
abbrev TA:=St->Hp->(List V->Hp->Prop)->Prop
structure Ends where
 nx:St->Hp->Prop
 rt:VK
 bk:St->Hp->Prop:=fun _ _=>False
 ct:St->Hp->Prop:=fun _ _=>False
abbrev TS:=Ends->St->Hp->Prop
def EP (X:Cx) (a:List (QX×Obj)) (b:St) (Q:VK) (u:QT) (d:Q0):Prop:=∃v H',Inv X a b H' d/\RelV v u/\Q v H'
def TP (X:Cx) (a:List (QX×Obj)) (d:St) (Q:Bool->Hp->Prop) (b:Bool) (e:Q0):Prop:=∃H',Inv X a d H' e/\Q b H'
def AP (X:Cx) (a:List (QX×Obj)) (b:St) (Q:List V->Hp->Prop) (us:List QT) (d:Q0):Prop:=∃vs H',Inv X a b H' d/\Vals vs us/\Q vs H'
def SP (X:Cx) (a:List (QX×Obj)) (D:Ends) (f:Flow) (b:Q0):Prop:=
 match f with
 | .next=>∃σ' H',Inv X a σ' H' b/\D.nx σ' H'
 | .brk=>∃σ' H',Inv X a σ' H' b/\D.bk σ' H'
 | .cont=>∃σ' H',Inv X a σ' H' b/\D.ct σ' H'
 | .ret u=>∃v σ' H',Inv X a σ' H' b/\RelV v u/\D.rt v H'
def PE (X:Cx) (e:Sf) (t:TE):Prop:=
 ∀(a:List (QX×Obj)) (s:Q0) (b:St) (H:Hp) (Q:VK),Inv X a b H s->t b H Q->wpAny (model X.prog X.w) X.A (eval e X.env) (EP X a b Q) X.xe s
def PT (X:Cx) (e:Sf) (t:TT):Prop:=
 ∀(a:List (QX×Obj)) (s:Q0) (b:St) (H:Hp) (Q:Bool->Hp->Prop),Inv X a b H s->t b H Q->wpAny (model X.prog X.w) X.A (isTrue e X.env (eval e X.env)) (TP X a b Q) X.xe s
def PW (X:Cx) (e:Sf) (t:TT):Prop:=
 ∀(b:Sem QT) (a:List (QX×Obj)) (s:Q0) (d:St) (H:Hp) (Q:Bool->Hp->Prop),Inv X a d H s->t d H Q->wpAny (model X.prog X.w) X.A (isTrue e X.env b) (TP X a d Q) X.xe s
theorem PW.pt (h:PW X e t):PT X e t:=h _
def PA (X:Cx) (e:List Sf) (t:TA):Prop:=
 ∀(d:Pos) (a:List (QX×Obj)) (s:Q0) (b:St) (H:Hp) (Q:List V->Hp->Prop),Inv X a b H s->t b H Q->wpAny (model X.prog X.w) X.A (spliced (backTo d (Ru e X.env))) (AP X a b Q) X.xe s
def PS (X:Cx) (d:Ts) (t:TS):Prop:=
 ∀(a:List (QX×Obj)) (s:Q0) (b:St) (H:Hp) (D:Ends),Inv X a b H s->t D b H->wpAny (model X.prog X.w) X.A (exec d X.env) (SP X a D) X.xe s
def Xi (X:Cx) (d:List Ts) (t:TS):Prop:=
 ∀(a:List (QX×Obj)) (s:Q0) (b:St) (H:Hp) (D:Ends),Inv X a b H s->t D b H->wpAny (model X.prog X.w) X.A (execs d X.env) (SP X a D) X.xe s
theorem cB {α:Type} {t:Sem α} {Q b:α->Q0->Prop} {M:abm} {A:RG} {E:QT->Q0->Prop} {s:Q0} (h:wpAny M A t Q E s) (d:∀a s,Q a s->b a s):wpAny M A t b E s:=wpAny_mono h d fun _ _ x=>x
section
variable {X:Cx}
def yh (i:Nat):TE:=fun a H Q=>∃v,a[i]? =lD (lD v)/\Q v H
def tC (v:V):TE:=fun _ H Q=>Q v H
theorem NA (p:X.N[i]? =lD x) (n:Pg X.env.scope x) (hd:(x==("__debug__":Str))=Q2:=by decide) (q:(x==("__classdict__":Str))=Q2:=by decide):PE X (.Name x pos) (yh i):=by
 intro d s j H Q I h;obtain⟨v,e,h⟩:=h;obtain⟨m,hn,o⟩:=I.loc;obtain⟨u,r,l⟩:=o i x v p e n;have b:EP X d j Q u s:=⟨v,H,I,r,h⟩;rcases l with⟨a,hm⟩|⟨a,c,f,g⟩
 .exact ab9 (abn I.ok.kind a hn hm b) hd
 .rcases a with a|a
  .exact ab9 (abQ I.ok.kind a f g b) hd
  .exact ab9 (wpAny_loadName_free I.ok.kind a f g b q) hd
theorem aL {i j pos}:PE X (.Constant (.int i) j pos) (tC (.int i)):=fun _ _ _ H _ I h=>aca ⟨.int i,H,I.tok _,⟨_,rfl⟩,h⟩
theorem Av {b j pos}:PE X (.Constant (.bool b) j pos) (tC (.bl b)):=fun _ _ _ H _ I h=>Constant_bool ⟨.bl b,H,I,rfl,h⟩
theorem gc {j pos}:PE X (.Constant .none j pos) (tC .TL):=fun _ _ _ H _ I h=>Constant_none ⟨.TL,H,I,rfl,h⟩
theorem iK {x j pos}:PE X (.Constant (.str x) j pos) (tC (.str x)):=fun _ _ _ H _ I h=>Calls.Constant_str ⟨.str x,H,I.tok _,⟨_,rfl⟩,h⟩
def Gl (X:Cx) (x:Str):Prop:=X.env.kindOf x=lD .globalImplicit
theorem kZ (I:Inv X pins σ H s) (a:Gl X x) (hm:X.mg x=lD u) (h:Q u s)
  (hd:(x==("__debug__":Str))=Q2:=by decide):wpAny (model X.prog X.w) X.A (eval (.Name x pos) X.env) Q E s:=
 Calls.Name_function_global I.ok.kind a (Calls.loadGlobal_global (by rw[I.ok.glob];exact I.mod.glob.keeps I.bk) hm h) hd
theorem mf (I:Inv X pins σ H s) (b:Gl X x) (hm:X.mg x=QS) (a:Sr x=lD u) (h:Q u s)
  (hn:x≠ "__name__":=by decide) (hd:(x==("__debug__":Str))=Q2:=by decide):wpAny (model X.prog X.w) X.A (eval (.Name x pos) X.env) Q E s:=by
 obtain⟨f,e,d⟩:=I.mod.blt;exact Calls.Name_function_global I.ok.kind b (Calls.loadGlobal_builtin (by rw[I.ok.glob];exact I.mod.glob.keeps I.bk) hm (by rw[I.ok.blt];exact e.keeps I.bk) ((d x hn).trans a) h) hd
theorem wu {x:Str} {v:V} {u:QT} {a:Pos} (b:Gl X x) (hm:X.mg x=lD u) (r:RelV v u) (hd:(x==("__debug__":Str))=Q2:=by decide):PE X (.Name x a) (tC v):=
 fun _ _ _ H _ I h=>kZ I b hm ⟨v,H,I,r,h⟩ hd
variable {a b:Sf} {Z Y:TE} {pos:Pos}
def PC (X:Cx) (h:CmpOp) (a b:Sf) (t:TE):Prop:=
 ∀(d:List (QX×Obj)) (s:Q0) (g:St) (H:Hp) (Q:VK),Inv X d g H s->t g H Q->
  wpAny (model X.prog X.w) X.A (eval a X.env) (fun v f=>wpAny (model X.prog X.w) X.A (eval b X.env) (fun u e=>wpAny (model X.prog X.w) X.A (Tf h v u) (EP X d g Q) X.xe e) X.xe f) X.xe s
def tB (t:TE):TT:=fun d H Q=>t d H fun x e=>∃c,x= .bl c/\Q c e
theorem zC (h:PC X op a b t) (f:behindInMarks op b=Q2:=by first|exact adU _ (by decide) (by decide)|rfl):PT X (.Compare a [op] [b] pos) (tB t):=by intro e s g H Q I l;refine aa8 (cB (h e s g H _ I l) fun v w f=>cB f fun u r m=>cB m fun c p ⟨x,o,n,i,j⟩=> ?_) f;obtain⟨d,rfl,q⟩:=j;cases i;exact S9 ⟨o,n,q⟩
theorem EI {e:Sf} {t:TE} (h:PE X e t) (m:∀whole,isTrue e X.env whole=(do let v<-whole;standAt e.pos;holding [v] (truthy v)):=by intro _;rfl):PT X e (tB t):=by intro f s g H Q I l;refine isTrue_plain (cB (h f s g H _ I l) fun v p ⟨x,o,n,i,j⟩=> ?_) (m _);obtain⟨d,rfl,q⟩:=j;cases i;exact S9 ⟨o,n,q⟩
variable {T S:TT} {U:List Sf}
def Ml (t u:TT):TT:=fun d H Q=>t d H fun c e=>if c=QW then u d e Q else Q Q2 e
def Qi (t u:TT):TT:=fun d H Q=>t d H fun c e=>if c=QW then Q QW e else u d e Q
def OG (t:TT):TT:=fun d H Q=>t d H fun c e=>Q (!c) e
theorem vY (ha:PT X a T):PW X (.BoolOp .And [a] pos) T:=by
 intro g d s f H Q I h;refine isTrue_and (cB (ha d s f H Q I h) fun c i e=> ?_);cases c with
 |true=>exact isTrue_and_nil e
 |false=>exact e
theorem yN (ha:PT X a T):PW X (.BoolOp .Or [a] pos) T:=by
 intro g d s f H Q I h;refine isTrue_or (cB (ha d s f H Q I h) fun c i e=> ?_);cases c with
 |false=>exact isTrue_or_nil e
 |true=>exact e
theorem yZ (ha:PT X a T) (m:PW X (.BoolOp .And (b::U) pos) S):PW X (.BoolOp .And (a::b::U) pos) (Ml T S):=by
 intro j d s e H Q I h;refine isTrue_and (cB (ha d s e H _ I h) fun c l ⟨i,g,f⟩=> ?_);cases c with
 |true=>exact m j d l e i Q g f
 |false=>exact⟨i,g,f⟩
theorem FL (ha:PT X a T) (m:PW X (.BoolOp .Or (b::U) pos) S):PW X (.BoolOp .Or (a::b::U) pos) (Qi T S):=by
 intro j d s e H Q I h;refine isTrue_or (cB (ha d s e H _ I h) fun c l ⟨i,g,f⟩=> ?_);cases c with
 |true=>exact⟨i,g,f⟩
 |false=>exact m j d l e i Q g f
theorem MH (ha:PT X a T):PT X (.UnaryOp .Not a pos) (OG T):=by intro d s e H Q I h;exact isTrue_not (ha d s e H (fun c f=>Q (!c) f) I h)
def Hd (Z Y:TE):TE:=fun d H Q=>Z d H fun x e=>∃c,x= .bl c/\if c=QW then Y d e Q else Q (.bl Q2) e
def Lc (Z:TE):TE:=fun d H Q=>Z d H fun x e=>∃c,x= .bl c/\Q (.bl (!c)) e
theorem vS {op} (h:PE X a t):PE X (.BoolOp op [a] pos) t:=fun d s e H Q I f=>BoolOp_one (h d s e H Q I f)
theorem vL (ha:PE X a Z) (m:PE X (.BoolOp .And (b::U) pos) Y):PE X (.BoolOp .And (a::b::U) pos) (Hd Z Y):=by
 intro d s f H Q I h;refine BoolOp_and (cB (ha d s f H _ I h) fun v j ⟨x,i,g,l,e⟩=> ?_);obtain⟨c,rfl,e⟩:=e;cases l;refine S9 ?_;cases c with
 |true=>exact m d j f i Q g e
 |false=>exact⟨.bl Q2,i,g,rfl,e⟩
theorem Ec (ha:PE X a Z):PE X (.UnaryOp .Not a pos) (Lc Z):=by intro d s f H Q I h;refine UnaryOp_ (cB (ha d s f H _ I h) fun v l ⟨x,j,i,g,e⟩=> ?_);obtain⟨c,rfl,e⟩:=e;cases g;exact not_of (S9 ⟨.bl (!c),j,i,rfl,e⟩)
def PH (t:TT) (Z Y:TE):TE:=fun d H Q=>t d H fun c e=>if c=QW then Z d e Q else Y d e Q
theorem Fw (m:PT X c T) (ha:PE X a Z) (n:PE X b Y):PE X (.IfExp c a b pos) (PH T Z Y):=by
 intro e s f H Q I h;refine wpAny_IfExp (cB (m e s f H _ I h) fun d g ⟨l,j,i⟩=> ?_);cases d with
 |true=>exact ha e g f l Q j i
 |false=>exact n e g f l Q j i
end
def VR (K:QR) (H:Hp) (a:QX) (xs:List V):Prop:=
 Rd H a (.lst xs)\/
  ∃(o:Obj) (b:Array QT) (n:Nat),K.lookup a=lD o/\o.cls= .type "list"/\o.dict=QS/\o.data= .seq b n/\b.size<=Q8/\Vals xs b.toList
def Vo (K:QR) (H:Hp) (a:QX) (xs:List V):Prop:=
 Rd H a (.tup xs)\/
  ∃(o:Obj) (b:Array QT) (n:Nat),K.lookup a=lD o/\(o.cls= .type "tuple"/\o.dict=QS)/\o.data= .seq b n/\b.size<=Q8/\Vals xs b.toList
def P1:QT->Option V
 | .none=>lD .TL
 | .bool b=>lD (.bl b)
 | .int i _=>lD (.int i)
 | .str x _=>lD (.str x)
 | .bytes b _=>lD (.byt b)
 | .float b _=>lD (.flt b)
 | .ref a=>lD (.ref a)
 | .type n=>lD (.ty n)
 |_=>QS
theorem RelV.abs (r:RelV x u):P1 u=lD x:=by
 cases x with
 |TL=>cases r;rfl
 |bl _=>cases r;rfl
 |int _=>obtain⟨t,rfl⟩:=r;rfl
 |str _=>obtain⟨t,rfl⟩:=r;rfl
 |byt _=>obtain⟨t,rfl⟩:=r;rfl
 |flt _=>obtain⟨t,rfl⟩:=r;rfl
 |ref _=>cases r;rfl
 |ty _=>cases r;rfl
theorem RelV.inj (r:RelV x u) (q:RelV y u):x=y:=Rm (r.abs.symm.trans q.abs)
theorem Vals.inj:∀{xs a:List V} {us:List QT},Vals xs us->Vals a us->xs=a
 |_,_,_,.nil,.nil=>rfl
 |_,_,_,.cons r t,.cons r' t'=>by rw[r.inj r',Vals.inj t t']
section
variable {X:Cx} {Z:List (QX×Obj)} {Y:St} {H:Hp} {s:Q0} {a:QX} {xs U:List V}
theorem VR.of {K:QR} (h:H a=lD (.lst xs)):VR K H a xs:= .inl (.inl h)
theorem Vo.of {K:QR} (h:H a=lD (.tup xs)):Vo K H a xs:= .inl (.inl h)
theorem Inv.list (I:Inv X Z Y H s) (h:VR X.K H a xs):∃RQ:List QT,Vals xs RQ/\PlainL s.heap a RQ.toArray/\xs.length<=Q8:=by
 rcases h with h|⟨o,RQ,n,hk,hc,hd,hs,hz,r⟩
 .obtain⟨z,RQ,n,r,e⟩:=h.ok I.Su;exact⟨RQ,r,⟨_,n,e,rfl,rfl,rfl⟩,z⟩
 .refine⟨RQ.toList,r,⟨o,n,I.XB a o hk,hc,hd,by simpa using hs⟩,?_⟩;have e:=r.length;simp only[Sa] at e;omega
theorem Inv.tuple (I:Inv X Z Y H s) (h:Vo X.K H a xs):∃RQ:List QT,Vals xs RQ/\IsTup s.heap a RQ.toArray/\xs.length<=Q8:=by
 rcases h with h|⟨o,RQ,n,hk,hc,hs,hz,r⟩
 .obtain⟨z,RQ,r,p⟩:=h.ok I.Su;exact⟨RQ,r,p.tup,z⟩
 .refine⟨RQ.toList,r,⟨o,I.XB a o hk,hc.1,n,by simpa using hs⟩,?_⟩;have e:=r.length;simp only[Sa] at e;omega
theorem Inv.acP (I:Inv X Z Y H s) (h:Vo X.K H a xs):∃RQ:List QT,Vals xs RQ/\Xn s.heap a RQ.toArray/\xs.length<=Q8:=by
 rcases h with h|⟨o,RQ,n,hk,hc,hs,hz,r⟩
 .obtain⟨z,RQ,r,p⟩:=h.ok I.Su;exact⟨RQ,r,p,z⟩
 .refine⟨RQ.toList,r,⟨o,I.XB a o hk,⟨hc.1,n,by simpa using hs⟩,hc.2⟩,?_⟩;have e:=r.length;simp only[Sa] at e;omega
theorem Inv.aaU (I:Inv X Z Y H s) (h:VR X.K H a xs) (h':VR X.K H a U):xs=U:=by
 obtain⟨j,r,⟨o,n,e,_,_,d⟩,_⟩:=I.list h;obtain⟨i,g,⟨l,m,b,_,_,f⟩,_⟩:=I.list h';rw[e] at b;cases b;rw[d] at f;injection f with d1 _;have:j=i:=by simpa using congrArg acb d1
 subst this;exact r.inj g
theorem Inv.aad (I:Inv X Z Y H s) (h:Vo X.K H a xs) (h':Vo X.K H a U):xs=U:=by
 obtain⟨j,r,⟨o,e,_,n,d⟩,_⟩:=I.tuple h;obtain⟨i,g,⟨l,b,_,m,f⟩,_⟩:=I.tuple h';rw[e] at b;cases b;rw[d] at f;injection f with d1 _;have:j=i:=by simpa using congrArg acb d1
 subst this;exact r.inj g
end
abbrev Cx.WU (X:Cx) (E:QT->Q0->Prop):Cx:={X with xe:=E}
abbrev Cx.nox (X:Cx):Cx:=X.WU fun _ _=>False
theorem Cx.Ok.WU {X:Cx} (ok:X.Ok) (E:QT->Q0->Prop):(X.WU E).Ok:=
 ⟨ok.mod,ok.kind,ok.glob,ok.blt,ok.above,ok.inj,ok.has,ok.cab,ok.hd,ok.frames,ok.stk,ok.exf,ok.bs,ok.bsz,ok.YZ,ok.YV,ok.WO,ok.frf⟩
theorem Cx.Ok.U8 {X:Cx} (ok:(X.WU E).Ok):X.Ok:=
 ⟨ok.mod,ok.kind,ok.glob,ok.blt,ok.above,ok.inj,ok.has,ok.cab,ok.hd,ok.frames,ok.stk,ok.exf,ok.bs,ok.bsz,ok.YZ,ok.YV,ok.WO,ok.frf⟩
section
variable {X:Cx} {Z:List (QX×Obj)} {Y:St} {H:Hp} {s:Q0} {E:QT->Q0->Prop}
theorem Inv.WU (I:Inv X Z Y H s) (E:QT->Q0->Prop):Inv (X.WU E) Z Y H s:=⟨I.ok.WU E,I.os,I.bare,I.base,I.loc,I.cell,I.free,I.UX,I.pin,I.Su,I.len⟩
theorem Inv.U8 (I:Inv (X.WU E) Z Y H s):Inv X Z Y H s:=⟨I.ok.U8,I.os,I.bare,I.base,I.loc,I.cell,I.free,I.UX,I.pin,I.Su,I.len⟩
theorem SP.U8 (h:SP (X.WU E) Z D f s'):SP X Z D f s':=by
 cases f with
 |next=>obtain⟨a,b,I,q⟩:=h;exact⟨a,b,I.U8,q⟩
 |brk=>obtain⟨a,b,I,q⟩:=h;exact⟨a,b,I.U8,q⟩
 |cont=>obtain⟨a,b,I,q⟩:=h;exact⟨a,b,I.U8,q⟩
 |ret u=>obtain⟨v,a,b,I,r,q⟩:=h;exact⟨v,a,b,I.U8,r,q⟩
theorem Xi.nox {a:List Ts} (h:Xi X.nox a t):Xi X a t:=fun Z s Y H D I b=>
 wpAny_mono (h Z s Y H D (I.WU _) b) (fun _ _ q=>q.U8) fun _ _ z=>False.elim z
end
section
variable {X:Cx} {U:Ts} {Y:List Ts} {t u:TS} {e:Sf} {Z:TE} {pos:Pos}
def FQ:TS:=fun D a H=>D.nx a H
def HH (t u:TS):TS:=fun D a H=>t {D with nx:=u D} a H
theorem gl:Xi X [] FQ:=fun _ _ a H _ I h=>Vk ⟨a,H,I,h⟩
theorem ar (j:PS X U t) (i:Xi X Y u):Xi X (U::Y) (HH t u):=by
 intro a s d H D I h;refine adu (cB (j a s d H {D with nx:=u D} I h) fun f g q=> ?_);cases f with
 |next=>obtain⟨b,m,l,q⟩:=q;exact i a g b m D l q
 |ret v=>exact q
 |brk=>exact q
 |cont=>exact q
theorem aO (d:PS X U t):Xi X [U] t:=by
 intro a s b H D I h;refine adu (cB (d a s b H D I h) fun f g q=> ?_);cases f with
 |next=>exact Vk q
 |ret v=>exact q
 |brk=>exact q
 |cont=>exact q
theorem Inv.quiet {a:List (QX×Obj)} {b:St} {H:Hp} {s:Q0} (I:Inv X a b H s):interactive X.env=Q2:=by simp[interactive,I.ok.kind]
def Bq (Z:TE):TS:=fun D a H=>Z a H fun _ b=>D.nx a b
theorem iB (g:PE X e Z) (f:SU e QS pos.line X.env=pure Q2:=by rfl):PS X (.Expr e pos) (Bq Z):=by intro a s b H D I h;exact wpAny_Expr_any (cB (g a s b H _ I h) fun v l ⟨x,j,i,m,d⟩=>⟨b,j,i,d⟩) I.quiet f
def LL (Z:TE):TS:=fun D a H=>Z a H D.rt
theorem cD (g:PE X e Z):PS X (.Return (lD e) pos) (LL Z):=by intro a s b H D I h;exact wpAny_Return_some (cB (g a s b H _ I h) fun v l ⟨x,j,i,d,f⟩=>⟨x,b,j,i,d,f⟩)
def K8:TS:=fun D _ H=>D.rt .TL H
theorem JJ:PS X (.Return QS pos) K8:=fun _ _ a H _ I h=>wpAny_Return_none ⟨.TL,a,H,I,rfl,h⟩
def Nw (c:TT) (t u:TS):TS:=fun D a H=>c a H fun b d=>if b=QW then t D a d else u D a d
theorem lO (n:PT X c tc) (ha:Xi X a t) (o:Xi X b u):PS X (.If c a b pos) (Nw tc t u):=by
 intro f s g H D I h;refine wpAny_If (cB (n f s g H _ I h) fun d i ⟨m,l,j⟩=> ?_);cases d with
 |true=>exact ha f i g m D l j
 |false=>exact o f i g m D l j
def Ep:TS:=fun _ _ _=>False
theorem xZ:PS X U Ep:=fun _ _ _ _ _ _ h=>h.elim
end
abbrev TG:=V->St->Hp->(St->Hp->Prop)->Prop
abbrev Mq:=List V->St->Hp->(St->Hp->Prop)->Prop
def PG (X:Cx) (a:Sf) (t:TG):Prop:=
 ∀(b:List (QX×Obj)) (s:Q0) (d:St) (H:Hp) (v:V) (u:QT) (Q:St->Hp->Prop),Inv X b d H s->RelV v u->t v d H Q->
  wpAny (model X.prog X.w) X.A (assign a X.env u) (fun _ e=>∃σ' H',Inv X b σ' H' e/\Q σ' H') X.xe s
def Ps (X:Cx) (e:List Sf) (t:Mq):Prop:=
 ∀(a:List (QX×Obj)) (s:Q0) (b:St) (H:Hp) (vs:List V) (d:List QT) (Q:St->Hp->Prop),Inv X a b H s->Vals vs d->t vs b H Q->
  wpAny (model X.prog X.w) X.A (assignInOrder ((assignEach e X.env).map (·.2)) d) (fun _ f=>∃σ' H',Inv X a σ' H' f/\Q σ' H') X.xe s
abbrev PY:=V->V->Hp->VK->Prop
def P4 (X:Cx) (d:Operator) (t:PY):Prop:=
 ∀(a:List (QX×Obj)) (s:Q0) (b:St) (H:Hp) (x y:V) (v u:QT) (Q:VK),Inv X a b H s->RelV x v->RelV y u->t x y H Q->
  wpAny (model X.prog X.w) X.A (inplaceOp d v u) (EP X a b Q) X.xe s
section
variable {X:Cx} {pos:Pos}
def ug (i:Nat):TG:=fun v a H Q=>Q (a.set i (lD v)) H
theorem ce (hN:X.N.Nodup) (hi:X.N[i]? =lD x) (hx:Op X.env.scope x) (hf:X.fn x=QW\/X.env.scope.names.lookup x=lD .local:=by first|exact .inl rfl|exact .inr rfl|assumption):PG X (.Name x pos) (ug i):=by intro pins s σ H v u Q I r h;exact acV (ri I hN hi hx r (fun s' I'=>⟨_,H,I',h⟩) hf)
def Nd:Mq:=fun vs a H Q=>vs=[]/\Q a H
def El (t:TG) (u:Mq):Mq:=fun vs b H Q=>∃v r,vs=v::r/\t v b H fun a d=>u r a d Q
theorem wB:Ps X [] Nd:=by intro a s b H vs d Q I r h;obtain⟨e,h⟩:=h;subst e;cases r;exact assignInOrder_nil ⟨b,H,I,h⟩
theorem kg (m:PG X e t) (l:Ps X es u)
  (j:(assignEach (e::es) X.env).map (·.2)=assign e X.env::(assignEach es X.env).map (·.2):=by rfl):Ps X (e::es) (El t u):=by
 intro a s d H vs w Q I r h;obtain⟨v,q,n,h⟩:=h;subst n;cases r with
 |cons r g=>rw[j];refine assignInOrder_cons (cB (m a s d H _ _ _ I r h) fun _ f ⟨b,p,o,i⟩=> ?_);exact l a f b p _ _ Q o g i
def Nj (K:QR) (n:Nat) (t:Mq):TG:=fun v b H Q=>∃a xs,v= .ref a/\Vo K H a xs/\xs.length=n/\t xs b H Q
theorem z7 (p:X.calm=QW) (h:Ps X es t)
  (hn:(assignEach es X.env).length=n:=by rfl) (dQ:(assignEach es X.env).findIdx? (·.1)=QS:=by rfl):PG X (.Tuple es k pos) (Nj X.K n t):=by
 intro d s g H v u Q I r f;obtain⟨a,xs,q,l,m,f⟩:=f;subst q;cases r;obtain⟨A,rv,j,y⟩:=I.tuple l;refine assign_Tuple_tuple (I.ok.hd p) j (by simp[hn,<-m,rv.length]) dQ fun z i=> ?_;have w:=I.kept (t':=s.toks) fun b o e=>i b o (Rr (Heap.lt_size e)) e;exact h d _ g H xs _ Q w (by simpa using rv) f
def CK (b:TE) (g:TG):TS:=fun D a H=>b a H fun x d=>g x a d D.nx
theorem Gs (n:PE X e te) (m:PG X tg g) (l:swapsWithSole [tg] e pos.line X.env=pure Q2:=by rfl) (j:swappedStores [tg] e X.env=pure QS:=by rfl)
  (o:(assignEach [tg] X.env).map (·.2)=[assign tg X.env]:=by rfl):PS X (.Assign [tg] e pos) (CK te g):=by
 intro a s b H D I h;refine wpAny_Assign_stores (cB (n a s b H _ I h) fun v d ⟨x,r,p,f,i⟩=> ?_) l j;rw[o];exact cB (m a d b r x v _ p f i) fun _ t q=>q
theorem cO {i:Nat} {x:Str} {e:Sf} {te:TE} {pos':Pos} (hN:X.N.Nodup) (hi:X.N[i]? =lD x) (hx:Op X.env.scope x) (he:PE X e te) (hs:SU e (lD (.Name x pos')) pos.line X.env=pure Q2:=by rfl) (hf:X.fn x=QW\/X.env.scope.names.lookup x=lD .local:=by first|exact .inl rfl|exact .inr rfl|assumption):
  PS X (.Assign [.Name x pos'] e pos) (CK te (ug i)):=by
 intro pins s σ H D I h;refine wpAny_Assign_Name (cB (he pins s σ H _ I h) fun v s1 ⟨y,H1,I1,r1,q1⟩=> ?_) hs;exact ri I1 hN hi hx r1 (fun s2 I2=>⟨_,H1,I2,q1⟩) hf
def OV (i:Nat) (d:TE) (b:PY):TS:=fun D a H=>∃x,a[i]? =lD (lD x)/\d a H fun y f=>b x y f fun z e=>D.nx (a.set i (lD z)) e
theorem Li (hN:X.N.Nodup) (hi:X.N[i]? =lD x) (hx:Op X.env.scope x) (he:PE X e te) (ho:P4 X op ti) (hf:X.fn x=QW\/X.env.scope.names.lookup x=lD .local:=by first|exact .inl rfl|exact .inr rfl|assumption):
  PS X (.AugAssign (.Name x pos') op e pos) (OV i te ti):=by
 intro pins s σ H D I h;obtain⟨v,e1,h⟩:=h;obtain⟨m,hn,hl⟩:=I.loc;have vis:Pg X.env.scope x:=by rcases hx with k|k;exact .inl k;exact .inr (.inl k)
 obtain⟨u,r,l⟩:=hl i x v hi e1 vis;refine wpAny_AugAssign_Name ?_;have go:wpAny (model X.prog X.w) X.A (eval e X.env) (fun w s₂=>wpAny (model X.prog X.w) X.A (inplaceOp op u w) (fun r s₃=>wpAny (model X.prog X.w) X.A (storeName X.env x r) (fun _=>SP X pins D .next) X.xe s₃) X.xe s₂) X.xe s:=by refine cB (he pins s σ H _ I h) fun w s1 ⟨y,H1,I1,r1,q1⟩=> ?_;refine cB (ho pins s1 σ H1 v y u w _ I1 r r1 q1) fun z s2 ⟨zv,H2,I2,r2,q2⟩=> ?_;exact ri I2 hN hi hx r2 (fun s3 I3=>⟨_,H2,I3,q2⟩) hf
 rcases l with⟨hk,hm⟩|⟨hk,c,hc,ZX⟩
 .exact abn I.ok.kind hk hn hm go
 .rcases hk with hk|hk
  .exact abQ I.ok.kind hk hc ZX go
  .rcases hx with k|k
   .have:X.env.scope.names.lookup x=lD .free:=hk;rw[k] at this;cases this
   .have:X.env.scope.names.lookup x=lD .free:=hk;rw[k] at this;cases this
def Qn (f:Int->Int->Int):PY:=fun x y H Q=>∃i j,x= .int i/\y= .int j/\Q (.int (f i j)) H
theorem MX:P4 X .Add (Qn fun i j=>i+j):=by intro a s g H x y v u Q I d b h;obtain⟨i,j,f,e,q⟩:=h;subst f;subst e;obtain⟨t,rfl⟩:=d;obtain⟨l,rfl⟩:=b;exact iadd_int ⟨.int _,H,I.tok _,⟨_,rfl⟩,q⟩
end
section
variable {X:Cx} {pos:Pos}
def Fu (c:TT) (e:TS):TS:=fun D a H=>∃W:Nat->St->Hp->Prop,(∃m,W m a H)/\∀m a H,W m a H->
 c a H fun b d=>if b=QW then∃N:St->Hp->Prop,(∀σ' H',N σ' H'->∃m',m'<m/\W m' σ' H')/\e {D with nx:=N,ct:=N,bk:=D.nx} a d else D.nx a d
theorem rz (q:VF (model X.prog X.w) X.A X.env X.xe) (K:PT X c tc) (L:Xi X body tb):PS X (.While c body [] pos) (Fu tc tb):=by
 intro d s z H D I h;obtain⟨W,⟨J,C⟩,turn⟩:=h;refine wpAny_While (codeAny_whileLoop (fun n G=>∃σ' H',Inv X d σ' H' G/\W n σ' H') ?_ J ⟨z,H,I,C⟩);rintro n F ⟨e,y,M,B⟩;refine T3 q (cB (K d F e y _ M (turn n e y B)) fun b E ⟨u,t,j⟩=> ?_);cases b with
 |true=>
  obtain⟨N,r,j⟩:=j;rw[if_pos rfl];refine T3 q (cB (L d E e u _ t j) fun f O i=> ?_);cases f with
  |next=>obtain⟨a,g,p,m⟩:=i;obtain⟨o,hm,l⟩:=r a g m;exact⟨o,hm,a,g,p,l⟩
  |cont=>obtain⟨a,g,p,m⟩:=i;obtain⟨o,hm,l⟩:=r a g m;exact⟨o,hm,a,g,p,l⟩
  |brk=>exact i
  |ret v=>exact i
 |false=>rw[if_neg Rc];exact Vk ⟨e,u,t,j⟩
end
structure It where
 go:Nat->Hp->Prop
 yld:Nat->Hp->V->Hp->Prop
 stop:Nat->Hp->Prop
def mS (X:Cx) (a:List (QX×Obj)) (H:Hp) (b:QX):Prop:=
 H b=QS/\b≠X.env.locals/\b∉X.fs/\(b∈X.ex\/X.s₀.heap.objs.size<=b)/\(∀x c,X.env.cells.lookup x=lD c->c≠b)/\∀p∈X.pn++a,p.1≠b
theorem Inv.YY (I:Inv X pins σ H s) (a:s.heap.objs.size<=b) (hn:H' b=QS):mS X pins H' b:=by
 refine⟨hn,So (Rq I.lt a),I.agD a,.inr (RO I.sz a),fun x c e z=> ?_,fun p d z=> ?_⟩
 .obtain⟨v,q⟩:=I.cell x c e;exact absurd (Rq q.lt (by rw[z];exact a)) (Sy _)
 .exact absurd (Rq (Heap.lt_size (I.pin p d).1) (by rw[z];exact a)) (Sy _)
structure Turn (P:Rt) (w:RM) (K:QR) (tg:Sf) (J:It) (fp:List QX) (it:QX) (tn:Nat->Heap->Prop):Prop where
 mem:it∈fp
 obj:∀i h,tn i h->∀b∈fp,∃o,h.get? b=lD o/\∀v,o.data≠ .cell v
 keep:∀i h h',tn i h->(∀b∈fp,∀o,h.get? b=lD o->h'.get? b=lD o)->tn i h'
 item:∀(X:Cx),X.prog=P->X.w=w->X.K=K->X.calm=QW->∀(i:Nat) (pins:List (QX×Obj)) (s:Q0) (σ:St) (H:Hp) (E:QT->Q0->Prop),Inv X pins σ H s->(∀b∈fp,mS X pins H b)->tn i s.heap->J.go i H->
  wpAny (model P w) X.A (pyNext (.ref it)) (fun r s1=>∃u,r=lD u/\
   wpAny (model P w) X.A (letOwnedTupleGo tg (.ref it) u) (fun _ s2=>∃x H',Inv X pins σ H' s2/\RelV x u/\J.yld i H x H'/\tn (i+1) s2.heap/\∀b∈fp,H' b=QS) E s1) E s
 done:∀(X:Cx),X.prog=P->X.w=w->X.K=K->X.calm=QW->∀(i:Nat) (pins:List (QX×Obj)) (s:Q0) (σ:St) (H:Hp) (E:QT->Q0->Prop),Inv X pins σ H s->(∀b∈fp,mS X pins H b)->tn i s.heap->J.stop i H->
  wpAny (model P w) X.A (pyNext (.ref it)) (fun r s1=>r=QS/\Inv X pins σ H s1) E s
 self:∀(A:RG) (i:Nat) (s:Q0) (Q:QT->Q0->Prop) (E:QT->Q0->Prop),tn i s.heap->Q (.ref it) s->wpAny (model P w) A (pyIter (.ref it)) Q E s
abbrev TI:=St->Hp->(It->Hp->Prop)->Prop
def Qq (X:Cx) (a:List (QX×Obj)) (j:St) (l:Sf) (R:It->Hp->Prop) (d:QT) (g:Q0):Prop:=
 ∃(h:QX) (i:List QX) (f:Nat->Heap->Prop) (J:It) (e:Hp),d= .ref h/\Inv X a j e g/\Turn X.prog X.w X.K l J i h f/\f 0 g.heap/\(∀b∈i,mS X a e b)/\R J e
def PI (X:Cx) (f b:Sf) (e:TI):Prop:=
 ∀(a:List (QX×Obj)) (s:Q0) (d:St) (H:Hp) (R:It->Hp->Prop),Inv X a d H s->e d H R->
  wpAny (model X.prog X.w) X.A (eval b X.env) (fun v g=>wpAny (model X.prog X.w) X.A (pyIter v) (Qq X a d f R) X.xe g) X.xe s
theorem Ga {M:abm} {A:RG} {E:QT->Q0->Prop} {s:Q0} {b:Sf} {it:QX} {u:QT} {o:Obj} {n:String} {vs:Array QT} {Q:Unit->Q0->Prop} (d:s.heap.get? it=lD o) (e:o.cls= .type n) (hd:o.data= .fields vs)
  (hn:["enumerate","zip","dict_itemiterator","dict_reverseitemiterator","odict_iterator","itertools.zip_longest","itertools.pairwise"].contains n=Q2) (a:Q () s):wpAny M A (letOwnedTupleGo b (.ref it) u) Q E s:=by
 unfold letOwnedTupleGo;cases b<;>first
  |exact Q1 a
  |(cases u<;>first
    |exact Q1 a
    |(refine Ld (acd d ?_)
      rw[e,hd];show wpAny M A (if(["enumerate","zip","dict_itemiterator","dict_reverseitemiterator","odict_iterator","itertools.zip_longest","itertools.pairwise"].contains n&&vs[0]? ==lD (rawInt _))=QW then _ else _) Q E s;rw[if_neg (by intro h;rw[hn,Ux] at h;cases h)];exact Q1 a))
def Qb (K:QR) (a:QX):It:=
 ⟨fun i H=>∃xs x,VR K H a xs/\xs[i]? =lD x,fun i H x b=>b=H/\∀xs,VR K H a xs->xs[i]? =lD x,fun i H=>∃xs,VR K H a xs/\xs.length<=i⟩
def PF (K:QR) (a:QX):It:=
 ⟨fun i H=>∃xs x,Vo K H a xs/\xs[i]? =lD x,fun i H x b=>b=H/\∀xs,Vo K H a xs->xs[i]? =lD x,fun i H=>∃xs,Vo K H a xs/\xs.length<=i⟩
def Pm (lo:Int) (n:Nat):It:=⟨fun i _=>i<n,fun i H x a=>a=H/\x= .int (lo+i),fun i _=>n<=i⟩
theorem Dj {K:QR} (a it:QX):Turn P w K tg (Qb K a) [it] it (fun i h=>h.IsListIter it a i) where
 mem:=by simp
 obj:=fun i h f b g=>by
  have e:b=it:=by simpa using g
  subst e;obtain⟨o,e,c,d⟩:=f;exact⟨o,e,fun v z=>by rw[d] at z;cases z⟩
 keep:=fun i h M f k=>f.at fun o e=>k it (by simp) o e
 item:=by intro X y r A L i l s N H E I n f t;subst y r A;obtain⟨xs,x,m,q⟩:=t;obtain⟨Z,rv,p,R⟩:=I.list m;obtain⟨u,T,Q⟩:=rv.get q;obtain⟨J,G,U,F,C,B⟩:=n it (by simp);refine wpAny_pyNext_list_item f p.isList (by simpa using T) fun M j O=> ?_;have I1:=I.turned (t':=s.toks) (fun b o g e=>(O.2 b g).trans e) J G F C B;obtain⟨o,e,c,d⟩:=id j;exact⟨u,rfl,Ga e c d (by decide) ⟨x,H,I1,Q,⟨rfl,fun ys S=>by rw[I.aaU S m];exact q⟩,j,fun b g=>(n b g).1⟩⟩
 done:=by intro X y r A L i l s N H E I n f t;subst y r A;obtain⟨xs,m,q⟩:=t;obtain⟨Z,rv,p,R⟩:=I.list m;obtain⟨J,G,U,F,C,B⟩:=n it (by simp);have hl:=rv.length;exact wpAny_pyNext_list_end (I.ok.hd L) f p.isList (by simp;omega) fun M Y=>⟨rfl,I.turned (fun b o g e=>Y b o g e) J G F C B⟩
 self:=fun _ _ _ _ _ f h=>wpAny_pyIter_listiter f h
theorem Aa {K:QR} (a it:QX):Turn P w K tg (PF K a) [it] it (fun i h=>h.IsTupleIter it a i) where
 mem:=by simp
 obj:=fun i h f b g=>by
  have e:b=it:=by simpa using g
  subst e;obtain⟨o,e,c,d⟩:=f;exact⟨o,e,fun v z=>by rw[d] at z;cases z⟩
 keep:=fun i h N f k=>f.at fun o e=>k it (by simp) o e
 item:=by intro X y r A M i l s O H E I n f t;subst y r A;obtain⟨xs,x,m,q⟩:=t;obtain⟨L,rv,p,S⟩:=I.tuple m;obtain⟨u,U,R⟩:=rv.get q;obtain⟨J,G,Y,F,C,B⟩:=n it (by simp);refine wpAny_pyNext_tuple_item f (show s.heap.IsTuple a L.toArray from p) (by simpa using U) fun N j Q=> ?_;have I1:=I.turned (t':=s.toks) (fun b o g e=>(Q.2 b g).trans e) J G F C B;obtain⟨o,e,c,d⟩:=id j;exact⟨u,rfl,Ga e c d (by decide) ⟨x,H,I1,R,⟨rfl,fun ys T=>by rw[I.aad T m];exact q⟩,j,fun b g=>(n b g).1⟩⟩
 done:=by intro X y r A M i l s O H E I n f t;subst y r A;obtain⟨xs,m,q⟩:=t;obtain⟨L,rv,p,S⟩:=I.tuple m;obtain⟨J,G,Y,F,C,B⟩:=n it (by simp);have hl:=rv.length;exact wpAny_pyNext_tuple_end (I.ok.hd M) f (show s.heap.IsTuple a L.toArray from p) (by simp;omega) fun N Z=>⟨rfl,I.turned (fun b o g e=>Z b o g e) J G F C B⟩
 self:=fun _ _ _ _ _ f h=>wpAny_pyIter_tupleiter f h
theorem zS {K:QR} (it:QX) (lo:Int) (n:Nat):Turn P w K tg (Pm lo n) [it] it (fun i h=>IsRangeIter h it (lo+(i:Nat)*1) ((n:Int) - (i:Nat)) 1) where
 mem:=by simp
 obj:=fun i h a b f=>by
  have e:b=it:=by simpa using f
  subst e;exact⟨_,a,fun v z=>by have J:=z;cases J⟩
 keep:=fun i h u a k=>k it (by simp) _ a
 item:=by intro X q l r p i d s G H E I j a m;subst q l r;obtain⟨F,C,O,B,A,y⟩:=j it (by simp);have W:=acW.range (prog:=X.prog) (w:=X.w) (I.ok.hd p) it lo 1 n;refine W.item i s _ _ m a fun v u L N g M=> ?_;obtain⟨t,rfl⟩:=N;have R:Inv X d G H {s with heap:=u,toks:=L}:=I.turned (fun b o f e=>M b o (by simpa using f) e) F C B A y;refine⟨_,rfl,Ga g rfl rfl (by decide) ⟨.int (lo+i),H,R,⟨t,?_⟩,⟨rfl,rfl⟩,g,fun b f=>(j b f).1⟩⟩;rw[Int.mul_one]
 done:=by intro X q l r p i d s G H E I j a m;subst q l r;obtain⟨F,C,O,B,A,y⟩:=j it (by simp);exact wpAny_pyNext_range_end (I.ok.hd p) a (by have:n<=i:=m;omega) fun u Q=>⟨rfl,I.turned (fun b o f e=>Q b o f e) F C B A y⟩
 self:=fun _ _ _ _ _ a h=>wpAny_pyIter_rangeiter a h
section
variable {X:Cx} {Z:Sf}
theorem FY {a:List (QX×Obj)} {d:St} {H:Hp} {s:Q0} {R:It->Hp->Prop} {E:QT->Q0->Prop} {lo hi:Int} {t u v:Tok} {f:Nat} (I:Inv X a d H s) (m: -(2^62)<=lo) (l:lo<2^62) (j: -(2^62)<=hi) (i:hi<2^62)
  (q:R (Pm lo (hi - lo).toNat) H):wpAny (model X.prog X.w) X.A (pyIter (.ref s.heap.objs.size)) (Qq X a d Z R) E {s with heap:=s.heap.push {cls:= .type "range",data:= .fields #[.int lo t,.int hi u,.int 1 v]},toks:=f}:=by
 refine wpAny_pyIter_range (IsRange.new ..) (small_one m l j i) ?_;have g:Inv X a d H {s with heap:=s.heap.push {cls:= .type "range",data:= .fields #[.int lo t,.int hi u,.int 1 v]},toks:=f}:=I.kept fun b o e=>Heap.get?_push_of_some _ e;refine⟨(s.heap.push {cls:= .type "range",data:= .fields #[.int lo t,.int hi u,.int 1 v]}).objs.size,[(s.heap.push {cls:= .type "range",data:= .fields #[.int lo t,.int hi u,.int 1 v]}).objs.size],_,_,H,rfl,
  g.kept (t':=f) fun b o e=>Heap.get?_push_of_some _ e,zS _ lo (hi - lo).toNat,?_,fun b h=> ?_,q⟩
 .have p:lo+((0:Nat):Int)*1=lo:=by simp
  have n:(((hi - lo).toNat:Nat):Int) - ((0:Nat):Int)=Builtin.Range.rangeSize lo hi 1:=by rw[rangeSize_one];split<;>omega
  show IsRangeIter _ _ (lo+((0:Nat):Int)*1) ((((hi - lo).toNat:Nat):Int) - ((0:Nat):Int)) 1;rw[p,n];exact Heap.get?_push_size _ rfl
 .have e:b=(s.heap.push {cls:= .type "range",data:= .fields #[.int lo t,.int hi u,.int 1 v]}).objs.size:=by simpa using h
  subst e;exact g.YY (Q4 _) (g.Su.fresh (Q4 _))
def Kx (b:TA):TI:=fun a H R=>b a H fun vs d=>∃j:Int,vs=[.int j]/\ -(2^62)<=j/\j<2^62/\R (Pm 0 j.toNat) d
theorem fZ (n:Gl X "range") (hm:X.mg "range"=QS) (ha:PA X [a] ta) (m:Ru [a] X.env=[(Q2,eval a X.env)]:=by rfl):PI X Z (.Call (.Name "range" p) [a] [] pos) (Kx ta):=by
 intro b s f H R I h;refine Call_ (mf I n hm boot_range (S2 (cB (ha pos b s f H _ I h) fun u v ⟨vs,w,o,i,d⟩=> ?_) m rfl));obtain⟨j,e,d,l,q⟩:=d;subst e;cases i with
 |cons r g=>cases g;obtain⟨t,rfl⟩:=r;exact call_range_1 (FY o (by omega) (by omega) d l (by simpa using q))
def Lx (d:TI) (g:TG) (e:TS):TS:=fun D a H=>d a H fun J h=>∃W:Nat->Nat->St->Hp->Prop,(∃m,W 0 m a h)/\∀i m a H,W i m a H->
 (J.stop i H/\D.nx a H)\/(J.go i H/\∃N:St->Hp->Prop,(∀σ' H',N σ' H'->∃m',m'<m/\W (i+1) m' σ' H')/\∀x H',J.yld i H x H'->g x a H' fun b f=>e {D with nx:=N,ct:=N,bk:=D.nx} b f)
def rG (fp:List QX) (h:Heap):List (QX×Obj):=fp.filterMap fun b=>(h.get? b).map fun o=>(b,o)
theorem jS (a:b∈fp) (e:h.get? b=lD o):(b,o)∈rG fp h:=Vf.mpr ⟨b,a,by rw[e];rfl⟩
theorem C6 (a:p∈rG fp h):p.1∈fp/\h.get? p.1=lD p.2:=by
 obtain⟨b,d,e⟩:=Vf.mp a;cases q:h.get? b with
 |none=>rw[q] at e;cases e
 |some o=>rw[q] at e;have f:=Rm e;subst f;exact⟨d,q⟩
theorem Inv.pinned (I:Inv X pins σ H s) (i:∀b∈fp,mS X pins H b) (h:∀b∈fp,∃o,s.heap.get? b=lD o/\∀v,o.data≠ .cell v):Inv X (pins++rG fp s.heap) σ H s:=
 I.YA fun p g=>(RL.mp g).elim (fun z=>I.pin p (RY _ z)) fun z=>by obtain⟨a,e⟩:=C6 z;obtain⟨m,l,j,_⟩:=i p.1 a;obtain⟨o,f,d⟩:=h p.1 a;rw[e] at f;cases f;exact⟨e,m,l,j,d⟩
theorem Inv.W8 (I:Inv X (pins++pl) σ H s):Inv X pins σ H s:=I.YA fun p a=>I.pin p (RY _ (S1 _ a))
theorem sT (L:VF (model X.prog X.w) X.A X.env X.xe) (hc:X.calm=QW) (hi:PI X Z iter wi) (hg:PG X Z g) (p:Xi X body tb)
  (hs:∀x,foldedSetIterable iter X.env x=pure x:=by intro _;rfl):PS X (.For Z iter body [] pos) (Lx wi g tb):=by
 intro j s σ H D I h;refine wpAny_For (cB (hi j s σ H _ I h) fun v s1 h1=>cB h1 fun itv s2 h2=> ?_) hs;obtain⟨it,O,tn,J,H2,e,I2,T,R,f2,W,⟨m0,w0⟩,turn⟩:=h2;subst e;have E:∀{z:Hp},(∀b∈O,z b=QS)->∀b∈O,mS X j z b:=fun hn b p=>⟨hn b p,(f2 b p).2⟩;refine codeAny_forLoop_any (fun n s'=>∃i σ' z,Inv X j σ' z s'/\tn i s'.heap/\(∀b∈O,z b=QS)/\W i n σ' z) ?_ m0 ⟨0,σ,H2,I2,R,fun b p=>(f2 b p).1,w0⟩;rintro n s3 ⟨i,l,P,I3,G,M,w3⟩;rcases turn i n l P w3 with⟨F,qn⟩|⟨go,N,hN,step⟩
 .refine T3 L (cB (T.done X rfl rfl rfl hc i j s3 l P X.xe I3 (E M) G F) fun r s4 ⟨U,I4⟩=> ?_);subst U;exact Vk ⟨l,P,I4,qn⟩
 .refine T3 L (cB (T.item X rfl rfl rfl hc i j s3 l P X.xe I3 (E M) G go) fun r s4 ⟨u,U,h4⟩=> ?_)
  subst U;refine T3 L (cB h4 fun _ s5 ⟨x,H5,I5,r5,y5,C,Y⟩=> ?_);have I5':=I5.pinned (E Y) (T.obj _ _ C);refine T3 L (cB (hg _ s5 l H5 x u _ I5' r5 (step x H5 y5)) fun _ s6 ⟨Q,H6,I6,q6⟩=> ?_);refine T3 L (cB (p _ s6 Q H6 _ I6 q6) fun f S B=> ?_);have q:∀{a:St} {y:Hp},Inv X (j++rG O s5.heap) a y S->N a y->∃m,m<n/\∃i σ' z,Inv X j σ' z S/\tn i S.heap/\(∀b∈O,z b=QS)/\W i m σ' z:=fun{a y} t K=>by obtain⟨m',hm,w7⟩:=hN a y K;refine⟨m',hm,i+1,a,y,t.W8,T.keep _ _ _ C fun b p o e=>(t.pin (b,o) (RY _ (RY _ (jS p e)))).1,fun b p=> ?_,w7⟩;obtain⟨o,e,d⟩:=T.obj _ _ C b p;exact(t.pin (b,o) (RY _ (RY _ (jS p e)))).2.1
  cases f with
  |next=>obtain⟨a,y,t,K⟩:=B;exact q t K
  |cont=>obtain⟨a,y,t,K⟩:=B;exact q t K
  |brk=>obtain⟨a,y,t,B⟩:=B;exact⟨a,y,t.W8,B⟩
  |ret v=>obtain⟨x7,a,y,t,r7,B⟩:=B;exact⟨x7,a,y,t.W8,r7,B⟩
end
abbrev R2:=V->V->Hp->VK->Prop
def OpR (X:Cx) (f:QT->QT->Sem QT) (r:R2):Prop:=
 ∀(a:List (QX×Obj)) (s:Q0) (b:St) (H:Hp) (x y:V) (v u:QT) (Q:VK),Inv X a b H s->RelV x v->RelV y u->r x y H Q->
  wpAny (model X.prog X.w) X.A (f v u) (EP X a b Q) X.xe s
def Qa (X:Cx) (f:QT->Sem QT) (r:V->Hp->VK->Prop):Prop:=
 ∀(a:List (QX×Obj)) (s:Q0) (b:St) (H:Hp) (x:V) (v:QT) (Q:VK),Inv X a b H s->RelV x v->r x H Q->
  wpAny (model X.prog X.w) X.A (f v) (EP X a b Q) X.xe s
def Us (X:Cx) (f:QT) (r:List V->Hp->VK->Prop):Prop:=
 ∀(a:List (QX×Obj)) (s:Q0) (b:St) (H:Hp) (xs:List V) (d:List QT) (Q:VK),Inv X a b H s->Vals xs d->r xs H Q->
  wpAny (model X.prog X.w) X.A (call f d) (EP X a b Q) X.xe s
def Nm (r:R2) (d b:TE):TE:=fun a H Q=>d a H fun x f=>b a f fun y e=>r x y e Q
def Qr (r:V->Hp->VK->Prop) (b:TE):TE:=fun a H Q=>b a H fun x d=>r x d Q
def rI (C:Int->Int->Prop) (g:Int->Int->V):R2:=fun x y H Q=>∃i j,x= .int i/\y= .int j/\C i j/\Q (g i j) H
def wE (g:Int->Int->V):R2:=fun x y H Q=>∃i j,x= .int i/\y= .int j/\Q (g i j) H
def rU (g:Int->V):V->Hp->VK->Prop:=fun x H Q=>∃i,x= .int i/\Q (g i) H
section
variable {X:Cx} {a b c:Sf} {Z Y tc:TE} {pos:Pos}
theorem Md (ha:PE X a Z) (m:PE X b Y) {R:V->V->Hp->Prop} (I:Inv X pins σ H s)
  (h:Z σ H fun x H1=>Y σ H1 fun y H2=>R x y H2) {f:QT->QT->Sem QT}
  (l:∀v u s2 x y H2,Inv X pins σ H2 s2->RelV x v->RelV y u->R x y H2->wpAny (model X.prog X.w) X.A (f v u) Q X.xe s2):
  wpAny (model X.prog X.w) X.A (eval a X.env) (fun v s₁=>wpAny (model X.prog X.w) X.A (eval b X.env) (fun u s₂=>wpAny (model X.prog X.w) X.A (f v u) Q X.xe s₂) X.xe s₁) X.xe s:=by
 refine cB (ha pins s σ H _ I h) fun v d ⟨x,H1,o,g,j⟩=> ?_;refine cB (m pins d σ H1 _ o j) fun u s2 ⟨y,H2,n,e,i⟩=> ?_;exact l v u s2 x y H2 n g e i
theorem g9 (j:OpR X (SY op) r) (ha:PE X a Z) (l:PE X b Y):PE X (.BinOp a op b pos) (Nm r Z Y):=by intro d s e H Q I h;exact wpAny_BinOp (Md ha l I h fun v u f x y n m i g q=>j d f e n x y v u Q m i g q)
theorem Ou (j:Qa X (unaryOp op) r) (ha:PE X a Z):PE X (.UnaryOp op a pos) (Qr r Z):=by intro d s e H Q I h;exact UnaryOp_ (cB (ha d s e H _ I h) fun v f ⟨x,m,l,g,i⟩=>j d f e m x v Q l g i)
theorem NS {g:Int->Int->Int}
  (d:∀(i j:Int) (t u:Tok) (s:Q0) (Q:QT->Q0->Prop) (E:QT->Q0->Prop),C i j->Q (.int (g i j) s.toks) {s with toks:=s.toks+1}->wpAny (model X.prog X.w) X.A (f (.int i t) (.int j u)) Q E s):
  OpR X f (rI C fun i j=> .int (g i j)):=by
 intro e s p H x y v u Q I n m h;obtain⟨i,j,rfl,rfl,o,q⟩:=h;obtain⟨t,rfl⟩:=n;obtain⟨l,rfl⟩:=m;exact d i j t l s _ _ o ⟨.int (g i j),H,I.tok _,⟨_,rfl⟩,q⟩
theorem LO {g:Int->Int->Int}
  (d:∀(i j:Int) (t u:Tok) (s:Q0) (Q:QT->Q0->Prop) (E:QT->Q0->Prop),Q (.int (g i j) s.toks) {s with toks:=s.toks+1}->wpAny (model X.prog X.w) X.A (f (.int i t) (.int j u)) Q E s):
  OpR X f (wE fun i j=> .int (g i j)):=by
 intro e s o H x y v u Q I n m h;obtain⟨i,j,rfl,rfl,q⟩:=h;obtain⟨t,rfl⟩:=n;obtain⟨l,rfl⟩:=m;exact d i j t l s _ _ ⟨.int (g i j),H,I.tok _,⟨_,rfl⟩,q⟩
theorem HQ {g:Int->Int->Bool}
  (d:∀(i j:Int) (t u:Tok) (s:Q0) (Q:QT->Q0->Prop) (E:QT->Q0->Prop),Q (.bool (g i j)) s->wpAny (model X.prog X.w) X.A (f (.int i t) (.int j u)) Q E s):
  OpR X f (wE fun i j=> .bl (g i j)):=by
 intro e s o H x y v u Q I n m h;obtain⟨i,j,rfl,rfl,q⟩:=h;obtain⟨t,rfl⟩:=n;obtain⟨l,rfl⟩:=m;exact d i j t l s _ _ ⟨.bl (g i j),H,I,rfl,q⟩
def FZ (i j:Int):Prop:=0<=j/\j<=1000000/\i.natAbs<2^64
def abH (i j:Int):Prop:=(-(2^64)<i/\i<2^64)\/(-(2^64)<j/\j<2^64)
theorem abH.ok (h:abH i j):IntMulOk i j:=by
 rcases h with⟨e,d⟩|⟨e,d⟩
 .exact .of_left (ahz e d)
 .exact .of_right (ahz e d)
theorem two_pow_nn (k:Nat):(0:Int)<=2^k:=by rw[two_pow_cast];exact Int.natCast_nonneg _
theorem Ly:OpR X (SY .Add) (wE fun i j=> .int (i+j)):=LO fun _ _ _ _ _ _ _ q=>add_int q
theorem GI:OpR X (SY .Sub) (wE fun i j=> .int (i - j)):=LO fun _ _ _ _ _ _ _ q=>sub_int q
theorem LU:OpR X (SY .Mult) (rI abH fun i j=> .int (i*j)):=NS fun _ _ _ _ _ _ _ d q=>mul_int q d.ok
theorem Mf:OpR X (SY .Mod) (rI (fun _ j=>0<j) fun i j=> .int (i % j)):=NS fun i j _ _ _ _ _ d q=>by have e:(0:Int)<j:=d;exact mod_int' (by omega) (by rw[Int.fmod_eq_emod_of_nonneg i (by omega)];exact q)
theorem Mx:OpR X (SY .Pow) (rI FZ fun i j=> .int (i^j.toNat)):=NS fun _ _ _ _ _ _ _ d q=>pow_int_small d.1 d.2.1 d.2.2 q
theorem EY:OpR X (SY .LShift) (rI FZ fun i j=> .int (i*2^j.toNat)):=NS fun _ _ _ _ _ _ _ d q=>lshift_int_small d.1 d.2.1 d.2.2 q
theorem DK:OpR X (SY .RShift) (rI (fun _ j=>0<=j) fun i j=> .int (i/2^j.toNat)):=NS fun i j _ _ _ _ _ d q=>
 rshift_int d (by rw[Yn i (two_pow_nn _)];exact q)
theorem GR:OpR X (SY .BitAnd) (wE fun i j=> .int (Builtin.bitAnd i j)):=LO fun _ _ _ _ _ _ _ q=>and_int q
theorem QJ {g:Int->Int}
  (d:∀(i:Int) (t:Tok) (s:Q0) (Q:QT->Q0->Prop) (E:QT->Q0->Prop),Q (.int (g i) s.toks) {s with toks:=s.toks+1}->wpAny (model X.prog X.w) X.A (f (.int i t)) Q E s):
  Qa X f (rU fun i=> .int (g i)):=by
 intro e s l H x v Q I j h;obtain⟨i,rfl,q⟩:=h;obtain⟨t,rfl⟩:=j;exact d i t s _ _ ⟨.int (g i),H,I.tok _,⟨_,rfl⟩,q⟩
theorem MZ:Qa X (unaryOp .USub) (rU fun i=> .int (-i)):=QJ fun _ _ _ _ _ q=>neg_int q
end
section
variable {X:Cx} {a b c:Sf} {Y Z tc:TE} {pos:Pos}
theorem Es (I:Inv X pins σ H s) (q:Q (.bl k) H) (e:k=k'):EP X pins σ Q (.bool k') s:=by subst e;exact⟨.bl k,H,I,rfl,q⟩
theorem Cl:OpR X (Tf .Lt) (wE fun i j=> .bl (decide (i<j))):=HQ fun _ _ _ _ _ _ _ q=>lt_int q
theorem KP:OpR X (Tf .LtE) (wE fun i j=> .bl (decide (i<=j))):=HQ fun _ _ _ _ _ _ _ q=>le_int q
theorem Fk:OpR X (Tf .Gt) (wE fun i j=> .bl (decide (j<i))):=HQ fun _ _ _ _ _ _ _ q=>gt_int q
theorem Kp:OpR X (Tf .GtE) (wE fun i j=> .bl (decide (j<=i))):=HQ fun _ _ _ _ _ _ _ q=>ge_int q
theorem zN:OpR X (Tf .Is) (fun x y H Q=>y= .TL/\Q (.bl (decide (x= .TL))) H):=by
 intro e s g H x y v u Q I d f h;obtain⟨rfl,q⟩:=h;cases f;refine is_none_gen (Es I q ?_);cases x<;>first
  |(cases d;rfl)
  |(obtain⟨t,rfl⟩:=d;rfl)
theorem BP:OpR X (Tf .IsNot) (fun x y H Q=>y= .TL/\Q (.bl (!decide (x= .TL))) H):=by
 intro e s g H x y v u Q I d f h;obtain⟨rfl,q⟩:=h;cases f;refine isnot_none_gen (Es I q ?_);cases x<;>first
  |(cases d;rfl)
  |(obtain⟨t,rfl⟩:=d;rfl)
theorem c7 (b:Sf) (h:op≠ .In:=by decide) (d:op≠ .NotIn:=by decide):behindInMarks op b=Q2:=by
 have f:(op==CmpOp.In)=Q2:=by cases op<;>first|rfl|exact absurd rfl h
 have e:(op==CmpOp.NotIn)=Q2:=by cases op<;>first|rfl|exact absurd rfl d
 cases b<;>simp[behindInMarks,f,e]
theorem gX {e:CmpOp} {r:R2} (l:OpR X (Tf e) r) (ha:PE X a Y) (m:PE X b Z) (hm:behindInMarks e b=Q2):PE X (.Compare a [e] [b] pos) (Nm r Y Z):=by intro d s f H Q I h;exact wpAny_Compare1 (Md ha m I h fun v u g x y o n j i q=>l d g f o x y v u Q n j i q) hm
def FC (t:TE):TT:=fun d H Q=>t d H fun x e=>∃k,x= .bl k/\Q k e
theorem cS (q:OpR X (Tf op) r) (ha:PE X a Y) (t:PE X b Z) (hm:behindInMarks op b=Q2):PT X (.Compare a [op] [b] pos) (FC (Nm r Y Z)):=by
 intro d s f H Q I h;refine aa8 (cB (ha d s f H _ I h) fun v i ⟨x,F,B,m,p⟩=>cB (t d i f F _ B p) fun u g ⟨y,E,A,l,o⟩=>
  cB (q d g f E x y v u _ A m l o) fun c G ⟨z,C,w,j,k,e,n⟩=> ?_) hm
 subst e;cases j;exact S9 ⟨C,w,n⟩
theorem vA:(Q8:Nat)<2^63:=by rw[Tv];decide
theorem kM (r:Vals [x] us):∃u,us=[u]/\RelV x u:=by
 cases r with
 |cons e d=>cases d;exact⟨_,rfl,e⟩
theorem EK (r:Vals [x,y] us):∃u w',us=[u,w']/\RelV x u/\RelV y w':=by
 cases r with
 |cons g f=>
  cases f with
  |cons e d=>cases d;exact⟨_,_,rfl,g,e⟩
theorem CO (f:X.calm=QW):Us X (.builtin "max") (fun xs H Q=>∃i j,xs=[.int i,.int j]/\Q (.int (if j>i then j else i)) H):=by
 intro e s g H xs m Q I r h;obtain⟨i,j,rfl,q⟩:=h;obtain⟨u,l,rfl,⟨t,rfl⟩,⟨o,rfl⟩⟩:=EK r;refine max_two_ints (I.ok.hd f) fun p n k=>⟨_,H,I.kept k,?_,q⟩;by_cases d:j>i
 .rw[if_pos d,if_pos d];exact⟨_,rfl⟩
 .rw[if_neg d,if_neg d];exact⟨_,rfl⟩
def Oc (K:QR) (x:V) (H:Hp) (n:Nat):Prop:=
 match x with
 | .str y=>y.length<=Q8/\n=y.length
 | .byt y=>y.size<=Q8/\n=y.size
 | .ref p=>(∃xs,VR K H p xs/\n=xs.length)\/∃xs,Vo K H p xs/\n=xs.length
 |_=>False
theorem cG:Us X (.builtin "len") (fun xs H Q=>∃x n,xs=[x]/\Oc X.K x H n/\Q (.int n) H):=by
 intro l s w H xs z Q I r h;obtain⟨x,n,rfl,e,q⟩:=h;obtain⟨u,rfl,g⟩:=kM r;have B:=vA;have A:=Tv;cases x with
 |str y=>obtain⟨t,rfl⟩:=g;obtain⟨o,f⟩:=e;subst f;exact len_str (by omega) ⟨.int _,H,I.tok _,⟨_,rfl⟩,q⟩
 |byt y=>obtain⟨t,rfl⟩:=g;obtain⟨o,f⟩:=e;subst f;exact PySem.W.len_bytes (by omega) ⟨.int _,H,I.tok _,⟨_,rfl⟩,q⟩
 |ref p=>
  cases g;have f:=e;rcases f with⟨xs,j,f⟩|⟨xs,j,f⟩
  .subst f;obtain⟨v,i,pl,m⟩:=I.list j;have d:=i.length;exact Calls.call_len_list pl.isList (by simp only[Q9];omega) ⟨.int xs.length,H,I.tok _,⟨_,by simp only[Q9];rw[d]⟩,q⟩
  .subst f;obtain⟨v,i,pl,m⟩:=I.tuple j;have d:=i.length;exact len_tuple pl (by simp only[Q9];omega) ⟨.int xs.length,H,I.tok _,⟨_,by simp only[Q9];rw[d]⟩,q⟩
 |_=>exact(show False from e).elim
end
structure Zm (h:Heap) (x dx C:QX) (mA:Str->Option QT):Prop where
 obj:h.get? x=lD (Td C dx)
 ns:h.Ns1 dx mA
 ne:dx≠x
theorem C3 {h:Heap} (n:h.Ns1 dx mA):∃od,h.get? dx=lD od/\∀name,VW name od=lD (mA name):=by
 obtain⟨o,d,m,g,j,i,_,hm⟩:=n;refine⟨o,g,fun name=> ?_⟩;have e:=hm name;unfold nsFind findBy at e;rw[<-ZY] at e;unfold VW;rw[j];dsimp only;split
 .rename_i y q;rw[q] at e;exact congrArg lD e
 .rename_i q
  rw[q] at e;have a:d.toList.any (·.refKey)=Q2:=by rw[aaC];intro y f;obtain⟨z,t,b⟩:=i y (Array.mem_toList_iff.mp f);simp[UH.refKey,b]
  have l:¬d.toList.any (·.refKey)=QW:=by rw[a];exact Rc
  rw[if_neg l];exact congrArg lD e
theorem Zm.look (I:Zm h x dx C mA):∃od,PySem.W.InstAt h x (Td C dx) C (lD od)/\∀name,VW name od=lD (mA name):=
 let⟨od,ho,hl⟩:=C3 I.ns
 ⟨od,⟨I.obj,rfl,rfl,ho⟩,hl⟩
section
variable {prog:Rt} {w:RM} {A:RG} {E:QT->Q0->Prop} {s:Q0} {K:QR} {x dx C f:QX} {Z:Str->Option QT} {name:Str} {v:QT}
theorem J9 (X:K.In s.heap) (I:Zm s.heap x dx C Z) (g:UC K C name=QW) (e:Vg K C=QW)
  (ha:R0 K (.ref C) name=lD QS) (b:Z name=lD v) (a:ZZ v=QW) (h:Q v {s with toks:=s.toks+1}):
  wpAny (model prog w) A (getAttr (.ref x) name expr) Q E s:=by
 obtain⟨i,J,d⟩:=I.look;exact PySem.W.get_value X J (Wm g).1 (PySem.W.findObj_own e ha rfl (by rw[d,b])) a h
theorem EL (X:K.In s.heap) (I:Zm s.heap x dx C Z) (a:UC K C name=QW)
  (i:R0 K (.ref C) name=lD (lD (.ref f))) (e:T4 K (.ref f)=QW) (d:Z name=QS) (h:Q (.ref f,[.ref x]) s):
  wpAny (model prog w) A (getMethod (.ref x) name pl) Q E s:=by
 obtain⟨b,J,g⟩:=I.look;exact PySem.W.method_fn X J (Wm a).1 (Wm a).2 i (beq_iff_eq.mp e) (by show(VW name b).map (·.isSome)=lD Q2;rw[g,d];rfl) h
theorem J5 (X:K.In s.heap) (I:Zm s.heap x dx C Z)
  (o:R0 K (.ref C) "__setattr__"=lD (lD (.builtin "object.__setattr__"))) (p:W3 K C=QW) (n:Xw K C name=lD QS) (q:Vg K C=QW)
  (m:YL Z ns) (hsz:ns.length<=Q8)
  (h:∀h',Zm h' x dx C (fun y=>if y=name then lD v else Z y)->Heap.SameBut dx s.heap h'->Q () {s with heap:=h',toks:=s.toks+2}):
  wpAny (model prog w) A (setAttr (.ref x) name v) Q E s:=by
 obtain⟨z,J,F⟩:=I.look;refine PySem.W.set_plain X J o (PySem.W.osa_open X J p n fun b=> ?_);obtain⟨G,r,g⟩:=PySem.W.any_some q;have l:=I.obj;refine Ld (Q1 (Ld (Ld (afE l (Ld (adv (PySem.W.looks_clsIn X r) ?_))))));rw[g];refine Q1 (Ld (Q1 (Ld ?_)));refine wpAny_nsSet1 I.ns fun h' a j=> ?_;obtain⟨B,t,u,d,e,i⟩:=a.count (aew name v m);refine Ld (adw d (by rw[e];exact adx (RO i (by rw[Rg];omega))) ?_);exact Q1 (h _ ⟨(j.2 _ (Ne.symm I.ne)).trans I.obj,a,I.ne⟩ j)
theorem Fh {R:Xj->Q0->Prop} {vs:List QT} {b:List (Str×QT)} (X:K.In s.heap) (hm:Xx K C=QW)
  (hi:R0 K (.ref C) "__init__"=lD (lD (.ref f))) (e:aaD K (.ref f)=lD (.type "function"))
  (h:codeAny (model prog w) (A.under (.builtin "type.__call__" ⟨.ref C::vs,b⟩)) (.call (.ref f) ⟨.ref (s.heap.objs.size+1)::vs,b⟩) (PySem.W.InitBack (s.heap.objs.size+1) R)
   {s with heap:=(s.heap.push SM).push (Td C s.heap.objs.size)}):
  codeAny (model prog w) A (.call (.ref C) ⟨vs,b⟩) R s:=by
 obtain⟨j,g,d,t,i⟩:=s;exact PySem.W.make_core (PySem.W.makes_of X hm) (PySem.W.looks_findIn X hi) (fun a=>PySem.W.bind_fn X a e) (.inl rfl) h
end
def iS (f:Str) (v:V):List (Str×V)->List (Str×V)
 |[]=>[(f,v)]
 |(g,x)::r=>if g=f then(g,v)::r else(g,x)::iS f v r
theorem oX (f g:Str) (v:V):∀fs:List (Str×V),(iS f v fs).lookup g=if g=f then lD v else fs.lookup g
 |[]=>by
  show TH g [(f,v)]=_;by_cases h:g=f
  .have a:=beq_iff_eq.mpr h;simp only[TH,a,if_pos h]
  .have a:=beq_eq_false_iff_ne.mpr h;simp only[TH,a,if_neg h]
 |(k,x)::r=>by
  have d:=oX f g v r;rw[show iS f v ((k,x)::r)=(if k=f then(k,v)::r else(k,x)::iS f v r) from rfl];by_cases b:k=f
  .rw[if_pos b]
   by_cases h:g=k
   .have a:=beq_iff_eq.mpr h;simp only[TH,a,if_pos (h.trans b)]
   .have a:=beq_eq_false_iff_ne.mpr h;simp only[TH,a,if_neg (fun e:g=f=>h (e.trans b.symm))]
  .rw[if_neg b]
   by_cases h:g=k
   .have a:=beq_iff_eq.mpr h;simp only[TH,a,if_neg (fun e:g=f=>b (h.symm.trans e))]
   .have a:=beq_eq_false_iff_ne.mpr h;simp only[TH,a];exact d
theorem oP (f:Str) (v:V):∀fs:List (Str×V),f∈(iS f v fs).map (·.1)/\∀g,g∈fs.map (·.1)->g∈(iS f v fs).map (·.1)
 |[]=>⟨by simp[iS],fun g h=>by simp at h⟩
 |(k,x)::r=>by
  obtain⟨d,b⟩:=oP f v r;rw[show iS f v ((k,x)::r)=(if k=f then(k,v)::r else(k,x)::iS f v r) from rfl];by_cases a:k=f
  .rw[if_pos a];subst a;exact⟨by simp,fun g h=>by simpa using h⟩
  .rw[if_neg a]
   refine⟨?_,fun g h=> ?_⟩
   .rw[Ri];exact Rf _ d
   .rw[Ri] at h⊢
    rcases Rv.mp h with e|e
    .exact Rv.mpr (.inl e)
    .exact Rf _ (b g e)
theorem oZ (f:Str) (v:V):∀fs:List (Str×V),(iS f v fs).length<=fs.length+1
 |[]=>by simp[iS]
 |(k,x)::r=>by
  have b:=oZ f v r;rw[show iS f v ((k,x)::r)=(if k=f then(k,v)::r else(k,x)::iS f v r) from rfl];by_cases a:k=f
  .rw[if_pos a,Rg,Rg];omega
  .rw[if_neg a,Rg,Rg];omega
theorem Vz.some_of (r:Vz (lD v) o):∃u,o=lD u/\RelV v u:=by
 cases o with
 |none=>exact(show False from r).elim
 |some u=>exact⟨u,rfl,r⟩
theorem Vz.none_of (r:Vz QS o):o=QS:=by
 cases o with
 |none=>rfl
 |some u=>exact(show False from r).elim
theorem CZ (r:RelV v u):ZZ u=QW:=by
 cases v with
 |TL=>cases(show u=QT.none from r);rfl
 |bl b=>cases(show u=QT.bool b from r);rfl
 |int i=>obtain⟨t,e⟩:=(show∃t,u=QT.int i t from r);cases e;rfl
 |str x=>obtain⟨t,e⟩:=(show∃t,u=QT.str x t from r);cases e;rfl
 |byt b=>obtain⟨t,e⟩:=(show∃t,u=QT.bytes b t from r);cases e;rfl
 |flt b=>obtain⟨t,e⟩:=(show∃t,u=QT.float b t from r);cases e;rfl
 |ref a=>cases(show u=QT.ref a from r);rfl
 |ty n=>cases(show u=QT.type n from r);rfl
section
variable {P:Rt} {w:RM} {H H':Hp} {h h':Heap} {a C dx:QX} {fs fs':List (Str×V)}
theorem wz (Su:Wi P w H h) (e:H a=lD (.ins C dx fs)):∃mA,Zm h a dx C mA/\(∀f,Vz (fs.lookup f) (mA f))/\YL mA (fs.map (·.1))/\fs.length<=1000/\H dx=lD (.own a):=by obtain⟨d,z,ne,b,mA,n,r,q⟩:=(show ObjOk P w H h a (.ins C dx fs) from Su a _ e);exact⟨mA,⟨b,n,ne⟩,r,q,z,d⟩
end
structure Zl (K:QR) (C:QX):Prop where
 pg:UC K C Str.empty=QW
 hd:Vg K C=QW
 po:W3 K C=QW
 sa:R0 K (.ref C) "__setattr__"=lD (lD (.builtin "object.__setattr__"))
theorem Zl.get {K:QR} (c:Zl K C) (f:Str):UC K C f=QW:=c.pg
def Vr (K:QR) (C:QX) (f:Str):Prop:=R0 K (.ref C) f=lD QS
theorem Vr.aeg {K:QR} (n:Vr K C f):Xw K C f=lD QS:=by unfold Xw;rw[show R0 K (.ref C) f=lD QS from n];rfl
structure Con (K:QR) (C:QX) (f:Str) (v:V) (u:QT):Prop where
 at_:R0 K (.ref C) f=lD (lD u)
 rel:RelV v u
 get:Up K u "__get__"=lD QS
 cp:PySem.W.copiedNames.contains f=Q2
structure Meth (K:QR) (C:QX) (m:Str) (f:QX):Prop where
 at_:R0 K (.ref C) m=lD (lD (.ref f))
 fn:T4 K (.ref f)=QW
 kp:SX K (.ref f)=QW
section
variable {X:Cx} {Z:List (QX×Obj)} {Y:St} {H:Hp} {s:Q0} {a C dx:QX} {fs:List (Str×V)} {f:Str} {v:V} {A:RG} {E:QT->Q0->Prop}
theorem zE (I:Inv X Z Y H s) (e:H a=lD (.ins C dx fs)) (c:Zl X.K C) (n:Vr X.K C f) (l:fs.lookup f=lD v)
  (h:∀u s',Inv X Z Y H s'->RelV v u->Q u s'):wpAny (model X.prog X.w) A (getAttr (.ref a) f b) Q E s:=by
 obtain⟨i,O,r,_,_,_⟩:=wz I.Su e;obtain⟨u,g,d⟩:=Vz.some_of (by rw[<-l];exact r f);exact J9 I.XB O (c.get f) c.hd n g (CZ d) (h u _ (I.tok _) d)
theorem ra (I:Inv X Z Y H s) (e:H a=lD (.ins C dx fs)) (c:Zl X.K C) (k:Meth X.K C m g) (l:fs.lookup m=QS)
  (h:Q (.ref g,[.ref a]) s):wpAny (model X.prog X.w) A (getMethod (.ref a) m pl) Q E s:=by
 obtain⟨b,O,r,_,_,_⟩:=wz I.Su e;have hn:=Vz.none_of (by rw[<-l];exact r m);exact EL I.XB O (c.get m) k.at_ k.fn hn h
theorem zx (I:Inv X Z Y H s) (e:H a=lD (.ins C dx fs)) (c:Zl X.K C) (n:Vr X.K C f) (L:fs.length<1000) (p:RelV y u)
  (h:∀s',Inv X Z Y (bC H a (.ins C dx (iS f y fs))) s'->Q () s'):wpAny (model X.prog X.w) A (setAttr (.ref a) f u) Q E s:=by
 obtain⟨j,O,r,i,_,l⟩:=wz I.Su e;have t:(fs.map (·.1)).length<=Q8:=by rw[QV,Tv];omega
 refine J5 I.XB O c.sa c.po n.aeg c.hd i t fun J d m=>h _ ?_;have F:∃o,J.get? dx=lD o:=let⟨o,_,_,e',_⟩:=d.ns;⟨o,e'⟩
 refine I.write (by rw[e];exact True.intro) (.inr l) (fun b q G z=>(m.2 b G).trans z) F ?_;refine⟨by rw[aH O.ne];exact l,?_,O.ne,d.obj,_,d.ns,fun g=> ?_,fun g B=> ?_⟩
 .have:=oZ f y fs;omega
 .show Vz ((iS f y fs).lookup g) (if g=f then lD u else j g)
  rw[oX];by_cases q:g=f
  .rw[if_pos q,if_pos q];exact p
  .rw[if_neg q,if_neg q];exact r g
 .by_cases q:g=f
  .rw[q];exact(oP f y fs).1
  .refine(oP f y fs).2 g (i g fun z=>B ?_);show(if g=f then lD u else j g)=QS;rw[if_neg q];exact z
theorem Inv.made (I:Inv X Z Y H s):Inv X Z Y (bC (bC H s.heap.objs.size (.own (s.heap.objs.size+1))) (s.heap.objs.size+1) (.ins C s.heap.objs.size []))
  {s with heap:=(s.heap.push SM).push (Td C s.heap.objs.size)}:=by
 have d:(s.heap.push SM).get? s.heap.objs.size=lD SM:=Heap.get?_push_size s.heap rfl;have j:((s.heap.push SM).push (Td C s.heap.objs.size)).get? (s.heap.objs.size+1)=lD (Td C s.heap.objs.size):=by have:=Heap.get?_push_size (s.heap.push SM) (o:=Td C s.heap.objs.size) rfl;rwa [Heap.size_push] at this
 have i:(s.heap.push SM).Ns s.heap.objs.size (fun _=>QS):=⟨SM,#[],_,d,rfl,(fun e h=>absurd h (by simp)),fun _=>rfl⟩;have l:=I.laid (a:=s.heap.objs.size) (o:= .own (s.heap.objs.size+1)) (h':=s.heap.push SM) (t':=s.toks) (fun b u q=>Heap.get?_push_of_some _ q) (Q4 _) ⟨_,d⟩;refine l.laid (a:=s.heap.objs.size+1) (o:= .ins C s.heap.objs.size []) (t':=s.toks) (fun b u q=>Heap.get?_push_of_some _ q) (ady (Heap.size_push _ _)) ?_;have ne:s.heap.objs.size≠s.heap.objs.size+1:=Rr (UR _);refine⟨by rw[aH ne,aM],RZ _,ne,j,fun _=>QS,(Heap.Ns1.of_empty i).at fun o q=>Heap.get?_push_of_some _ q,fun _=>True.intro,fun y g=>absurd rfl g⟩
theorem Kh {prog:Rt} {w:RM} {env:Env} {e:Sf} {f:Str} {b:Pos} {s:Q0} {Q:QT->Q0->Prop} (d:attributeBase e f env (eval e env)=eval e env)
  (h:wpAny (model prog w) A (eval e env) (fun o s₁=>wpAny (model prog w) A (getAttr o f QW) Q E s₁) E s):wpAny (model prog w) A (eval (.Attribute e f b) env) Q E s:=
 Attribute_any_ h (by rw[arm_eval_Attribute,d])
end
def Mp (K:QR) (e:TE) (f:Str):TE:=fun d H Q=>e d H fun x b=>∃a C dx fs v,x= .ref a/\b a=lD (.ins C dx fs)/\Zl K C/\Vr K C f/\fs.lookup f=lD v/\Q v b
def Mb (K:QR) (g e:TE) (f:Str):TS:=fun D b H=>e b H fun y h=>g b h fun x d=>∃a C dx fs,x= .ref a/\d a=lD (.ins C dx fs)/\Zl K C/\Vr K C f/\fs.length<1000/\
 D.nx b (bC d a (.ins C dx (iS f y fs)))
section
variable {X:Cx} {o e Z:Sf} {f:Str} {pos Y afP:Pos} {U tv:TE}
theorem dz (j:PE X e U) (m:attributeBase e f X.env (eval e X.env)=eval e X.env):PE X (.Attribute e f pos) (Mp X.K U f):=by intro b s d H Q I h;refine Kh m (cB (j b s d H _ I h) fun u B ⟨x,y,w,g,a,C,dx,fs,v,p,r,c,n,l,q⟩=> ?_);subst p;obtain rfl:=g;exact zE w r c n l fun z A t i=>⟨v,y,t,i,q⟩
theorem oG (ha:PE X o U) (p:PE X Z tv) (r:SU Z (lD (.Attribute o f Y)) pos.line X.env=pure Q2):PS X (.Assign [.Attribute o f Y] Z pos) (Mb X.K U tv f):=by intro b s d H D I h;refine Yg (cB (p b s d H _ I h) fun u g ⟨y,B,A,i,q⟩=>cB (ha b g d B _ A q) fun G F ⟨x,J,z,j,a,C,dx,fs,t,v,c,n,l,m⟩=> ?_) r;subst t;obtain rfl:=j;exact zx z v c n l i fun E w=>⟨d,_,w,m⟩
end
section
variable {X:Cx} {pins:List (QX×Obj)} {σ:St} {H:Hp} {s:Q0} {A:RG} {E:QT->Q0->Prop} {Q:QT->Q0->Prop} {c:QT} {b:Bool}
inductive X3 (K:QR) (H:Hp):V->QT->Prop where
 |TL:X3 K H .TL (.type "NoneType")
 |bl (x:Bool):X3 K H (.bl x) (.type "bool")
 |int (i:Int):X3 K H (.int i) (.type "int")
 |str (x:Str):X3 K H (.str x) (.type "str")
 |flt (x:UInt64):X3 K H (.flt x) (.type "float")
 |lst {a:QX} {xs:List V} (e:H a=lD (.lst xs)):X3 K H (.ref a) (.type "list")
 |frz {a:QX} {o:Obj} {xs:List V} (e:H a=lD (.frz o (.lst xs))):X3 K H (.ref a) (.type "list")
 |tup {a:QX} {xs:List V} (e:H a=lD (.tup xs)):X3 K H (.ref a) (.type "tuple")
 |dK {a:QX} {Rz:List (cH×V)} (e:H a=lD (.dK Rz)):X3 K H (.ref a) (.type "dict")
 |dT {a:QX} {Rz:List (List cH×V)} (e:H a=lD (.dT Rz)):X3 K H (.ref a) (.type "dict")
 |ins {a C dx:QX} {fs:List (Str×V)} (e:H a=lD (.ins C dx fs)) (cl:Zl K C) (ha:R0 K (.ref C) "__class__"=lD (lD (.builtin "object.__class__")))
   (hn:Up K (.builtin "object.__class__") "__get__"=lD (lD (.builtin "getset_descriptor.__get__"))) (htk:PySem.W.takesIn K (.builtin "object.__class__")=lD QW)
   (hm:PySem.W.mroIn K C (.type "object")=lD QW):X3 K H (.ref a) (.ref C)
end
structure Tt (k:Nat) (A:RG):Prop where
 hd:A.handled=QS
 dp:A.depth+3*k+5<recursionLimit
 un:A.units+16*k+200<cLine
theorem Tt.mono (r:Tt k A) (h:j<=k):Tt j A:=⟨r.hd,by have:=r.dp;omega,by have:=r.un;omega⟩
theorem Tt.deeper (r:Tt (k+1) A) (env:Env):Tt k (A.deeper env):=
 ⟨r.hd,by have:=r.dp;show A.depth+1+3*k+5<_;omega,by have:=r.un;show A.units+3+16*k+200<_;omega⟩
theorem zZ {A:RG}:(A.under (.builtin "type.__call__" ⟨.ref C::us,kw⟩)).depth=A.depth+1:=by
 first|rfl|simp[RG.under,Zc.weight,Zc.isCreation,Zc.isGuard,Zc.isCaller,Zc.frames,Zc.isFrame,guardIds]
theorem yM {A:RG}:(A.under (.builtin "type.__call__" ⟨.ref C::us,kw⟩)).units=A.units+1:=by
 first|rfl|simp[RG.under,Zc.cUnits,Zc.frames,Zc.isFrame]
theorem Tt.make (r:Tt (k+1) A) (C:QX) (us:List QT) (a:List (Str×QT)):Tt k (A.under (.builtin "type.__call__" ⟨.ref C::us,a⟩)):=
 ⟨r.hd,by have:=r.dp;rw[zZ];omega,by have:=r.un;rw[yM];omega⟩
theorem Tt.depth (r:Tt k A):A.depth<recursionLimit:=by have:=r.dp;omega
theorem Tt.units (r:Tt k A):A.units+64<cLine:=by have:=r.un;omega
def pQ:TA:=fun _ H Q=>Q [] H
def jW (d:TE) (b:TA):TA:=fun a H Q=>d a H fun x f=>b a f fun xs e=>Q (x::xs) e
section
variable {X:Cx} {e:Sf} {Z:List Sf} {te:TE} {t:TA} {pos:Pos}
theorem aF:PA X [] pQ:=fun _ _ _ _ H Q I h=>Calls.spliced_nil ⟨[],H,I,.nil,h⟩
theorem aj (ha:PE X e te) (m:PA X Z t) (l:Ru (e::Z) X.env=(Q2,eval e X.env)::Ru Z X.env:=by rfl):PA X (e::Z) (jW te t):=by intro pos a s b H Q I h;rw[l];refine Calls.spliced_cons (cB (ha a s b H _ I h) fun u d ⟨x,q,o,g,j⟩=> ?_);exact cB (m pos a d b q _ o j) fun r v ⟨xs,p,n,f,i⟩=>⟨x::xs,p,n,.cons g f,i⟩
def Mc (t:TA):TE:=fun b H Q=>t b H fun xs a=>xs.length<=Q8/\∀p,a p=QS->Q (.ref p) (bC a p (.tup xs))
def Ot (t:TA):TE:=fun b H Q=>t b H fun xs a=>xs.length<=Q8/\∀p,a p=QS->Q (.ref p) (bC a p (.lst xs))
theorem dX {x1} (h:PA X Z t):PE X (.Tuple Z x1 pos) (Mc t):=by intro a s g H Q I j;refine wpAny_Tuple_spliced (cB (h pos a s g H _ I j) fun i d ⟨xs,m,f,r,z,q⟩=>⟨by rw[<-r.length];exact z,?_⟩);have l:=f.Su.fresh (Q4 _);refine⟨.ref d.heap.objs.size,bC m d.heap.objs.size (.tup xs),f.laid (fun b u e=>Heap.get?_push_of_some _ e) (Q4 _) ?_,rfl,q _ l⟩;exact⟨z,i,r,⟨_,Heap.get?_push_size _ rfl,⟨rfl,_,rfl⟩,rfl⟩⟩
theorem lZ (h:PA X Z t):PE X (.List Z pos) (Ot t):=by intro a s g H Q I j;refine wpAny_List_spliced (cB (h pos a s g H _ I j) fun i d ⟨xs,m,f,r,z,q⟩=>⟨by rw[<-r.length];exact z,?_⟩);have l:=f.Su.fresh (Q4 _);refine⟨.ref d.heap.objs.size,bC m d.heap.objs.size (.lst xs),f.laid (fun b u e=>Heap.get?_push_of_some _ e) (Q4 _) ?_,rfl,q _ l⟩;exact⟨z,i,0,r,Heap.get?_push_size _ rfl⟩
end
abbrev Sp:=List V->Hp->VK->XK->Prop
abbrev vX:=List Env->Hp->Q0->XK->QT->Q0->Prop
structure Env0 (P:Rt) (w:RM) (K:QR) (mg:Str->Option QT) (base:Heap) (A:RG) (outer:List Env) (s:Q0) (H:Hp):Prop where
 frames:A.frames=lD outer
 mod:Mod K mg base
 bs:∀b o,base.get? b=lD o->s.heap.get? b=lD o/\H b=QS
 bsz:base.objs.size<=s.heap.objs.size
 WO:s.heap.FunFrames base outer
 frf:∀b∈xN outer,H b=QS
 Su:Wi P w H s.heap
 bare:AllBare s.gens
def CE (outer:List Env) (P:Rt) (w:RM) (H:Hp) (s:Q0) (Q:VK) (u:QT) (a:Q0):Prop:=
 ∃v H',a.os=s.os/\AllBare a.gens/\Un (xN outer) [] H H' s.heap a.heap/\Wi P w H' a.heap/\RelV v u/\Q v H'
def CR (b:vX) (outer:List Env) (P:Rt) (w:RM) (H:Hp) (s:Q0) (Q:VK) (E:XK) (r:Xj) (a:Q0):Prop:=
 match r with
 | .ok (.ret u)=>CE outer P w H s Q u a
 | .ok _=>False
 | .error e=>b outer H s E e a
structure FnOk (P:Rt) (w:RM) (K:QR) (mg:Str->Option QT) (base:Heap) (CX:vX) (k:Nat) (f:QX) (fd:Sj) (ps:List Str) (sp:Sp):Prop where
 len:∀vs H Q E,sp vs H Q E->vs.length=ps.length
 run:∀(A:RG) (outer:List Env) (s:Q0) (H:Hp) (args:Args) (us:List QT) (vs:List V) (Q:VK) (E:XK),Tt k A->Env0 P w K mg base A outer s H->Wz s fd args (ps.zip us)->Vals vs us->sp vs H Q E->
  codeAny (model P w) A (.call (.ref f) args) (CR CX outer P w H s Q E) s
theorem FnOk.imp {P:Rt} {w:RM} {K:QR} {mg:Str->Option QT} {base:Heap} {e:vX} {k:Nat} {f:QX} {fd:Sj} {ps:List Str} {sp b:Sp} (F:FnOk P w K mg base e k f fd ps sp)
  (h:∀vs H Q E,b vs H Q E->sp vs H Q E):FnOk P w K mg base e k f fd ps b:=
 ⟨fun vs H Q E q=>F.len vs H Q E (h _ _ _ _ q),fun A a s H d g vs Q E l m n i j=>F.run A a s H d g vs Q E l m n i (h _ _ _ _ j)⟩
theorem Env0.make {K:QR} (e:Env0 P w K mg base A outer s H) (C:QX) (us:List QT) (a:List (Str×QT)):
  Env0 P w K mg base (A.under (.builtin "type.__call__" ⟨.ref C::us,a⟩)) outer s H:=⟨by first|exact e.frames|(simpa [RG.under,Zc.envs,Zc.isFrame,pushEnvs] using e.frames),e.mod,e.bs,e.bsz,e.WO,e.frf,e.Su,e.bare⟩
section
variable {X:Cx} {Z:List (QX×Obj)} {Y:St} {H:Hp} {s U:Q0}
theorem Inv.acs (I:Inv X Z Y H s):Env0 X.prog X.w X.K X.mg X.base X.A X.stack s H:=
 ⟨I.ok.frames,I.ok.mod,I.bs,RO I.ok.bsz I.sz,I.stack,I.XN,I.Su,I.bare⟩
theorem Inv.after {Q:VK} {u:QT} (I:Inv X Z Y H s) (h:CE X.stack X.prog X.w H s Q u U):EP X Z Y Q u U:=by obtain⟨v,j,f,a,un,Su,r,q⟩:=h;obtain⟨i,g,d,t,e⟩:=U;obtain rfl:e=s.os:=f;exact⟨v,j,I.call (h':=i) (g':=g) (d':=d) (t':=t) (ch:=[]) un Su a (fun b z=>absurd z (by simp)),r,q⟩
end
def ng (sp:Sp) (dvs:List V) (E:XK) (t:TA):TE:=fun a H Q=>t a H fun vs b=>sp (vs++dvs) b Q E
def uf (C:QX) (m:Str) (sp:Sp) (dvs:List V) (E:XK) (e:TE) (t:TA):TE:=fun b H Q=>e b H fun x d=>∃a dx fs,x= .ref a/\d a=lD (.ins C dx fs)/\fs.lookup m=QS/\
 t b d fun vs f=>sp (x::(vs++dvs)) f Q E
def w6 (C:QX) (sp:Sp) (dvs:List V) (E:XK) (t:TA):TE:=fun b H Q=>t b H fun vs a=>∀x dx,a x=QS->a dx=QS->dx≠x->
 sp (.ref x::(vs++dvs)) (bC (bC a dx (.own x)) x (.ins C dx [])) (fun v d=>v= .TL/\Q (.ref x) d) E
def Binds (K:QR) (fd:Sj) (ps:List Str) (ds:List QT):Prop:=
 ∀(s:Q0) (a:List QT),K.In s.heap->(a++ds).length=ps.length->Wz s fd ⟨a,[]⟩ (ps.zip (a++ds))
theorem Binds.all {K:QR} {fd:Sj} {ps:List Str} (h:∀us:List QT,us.length=ps.length->bindArgs fd ⟨us,[]⟩=pure (ps.zip us)):Binds K fd ps []:=fun s us _ a=>by rw[RB] at a⊢;exact .of_eq (h us a)
def fW (f:vX) (X:Cx) (E:XK):Prop:=∀(a:List (QX×Obj)) (d:St) (H:Hp) (s:Q0) (e:QT) (b:Q0),Inv X a d H s->f X.stack H s E e b->X.xe e b
section
variable {X:Cx} {U:vX} {k:Nat} {f C:QX} {fd:Sj} {ps:List Str} {sp:Sp} {dvs:List V} {ds:List QT} {E:XK} {x m:Str} {p pos Z:Pos} {e o:Sf} {Y:List Sf} {T:TE} {t:TA}
theorem yR {a:List (QX×Obj)} {d:St} {H:Hp} {s:Q0} {Q:VK} {us:List QT} {vs:List V} (F:FnOk X.prog X.w X.K X.mg X.base U k f fd ps sp) (l:Tt k X.A) (q:Binds X.K fd ps ds) (hd:Vals dvs ds) (j:fW U X E)
  (I:Inv X a d H s) (r:Vals vs us) (h:sp (vs++dvs) H Q E):wpAny (model X.prog X.w) X.A (call (.ref f) us) (EP X a d Q) X.xe s:=by
 have g:Vals (vs++dvs) (us++ds):=r.append hd;have n:(us++ds).length=ps.length:=by rw[<-g.length];exact F.len _ _ _ _ h
 refine WA (WB (F.run X.A X.stack s H ⟨us,[]⟩ (us++ds) (vs++dvs) Q E l I.acs (q s us I.XB n) g h) fun r i b=> ?_);cases r with
 |error e=>exact j a d H s e i I b
 |ok v=>
  cases v with
  |ret u=>exact I.after b
  |next=>exact False.elim b
  |brk=>exact False.elim b
  |cont=>exact False.elim b
theorem Cp (F:FnOk X.prog X.w X.K X.mg X.base U k f fd ps sp) (i:Tt k X.A) (l:Gl X x) (hm:X.mg x=lD (.ref f)) (j:SX X.K (.ref f)=QW) (u:Binds X.K fd ps ds) (hd:Vals dvs ds) (g:fW U X E)
  (ha:PA X (e::Y) t) (v:(x==("__debug__":Str))=Q2:=by decide) (n:Ru (e::Y) X.env=(Q2,eval e X.env)::Ru Y X.env:=by rfl) (y:(backTo pos (Ru Y X.env)).any (·.1)=Q2:=by rfl):
  PE X (.Call (.Name x p) (e::Y) [] pos) (ng sp dvs E t):=by
 intro a s d H Q I h;refine Tn (kZ I l hm ?_ v);refine WC I.ok.mod.kin j (cB (ha pos a s d H _ I h) fun z B ⟨vs,G,b,r,q⟩=>⟨b.XB,?_⟩) n y;exact yR F i u hd g b r q
theorem Jg {pl:Sem Bool} (G:PE X o T) (c:Zl X.K C) (hm:Meth X.K C m f) (F:FnOk X.prog X.w X.K X.mg X.base U k f fd ps sp) (B:Tt k X.A) (J:Binds X.K fd ps ds) (hd:Vals dvs ds) (y:fW U X E) (ha:PA X (e::Y) t)
  (dQ:Ru (e::Y) X.env=(Q2,eval e X.env)::Ru Y X.env:=by rfl) (N:(backTo pos (Ru Y X.env)).any (·.1)=Q2:=by rfl)
  (z:eval (.Call (.Attribute o m Z) (e::Y) [] pos) X.env=(do
   let ov<-eval o X.env
   standAt Z.atName
   let(f,first)<-holding [ov] (getMethod ov m pl)
   callWith pos f first (backTo pos (Ru (e::Y) X.env)) (backToKw pos (keywordEach [] X.env))):=by rfl):
  PE X (.Call (.Attribute o m Z) (e::Y) [] pos) (uf C m sp dvs E T t):=by
 intro b s d H Q I h;refine VS (pl:=pl) (cB (G b s d H _ I h) fun u j ⟨x,O,i,n,a,dx,fs,L,M,l,q⟩=> ?_) z;subst L;obtain rfl:u=QT.ref a:=n;refine ra i M c hm l ?_;refine WC (first:=[.ref a]) (h₀:=X.base) I.ok.mod.kin hm.kp (cB (ha pos b j d O _ i q) fun us P ⟨vs,R,g,r,v⟩=>⟨g.XB,?_⟩) dQ N;exact yR (us:= .ref a::us) (vs:= .ref a::vs) F B J hd y g (.cons rfl r) v
theorem FP {pl:Sem Bool} (v:PE X o T) (c:Zl X.K C) (hm:Meth X.K C m f) (F:FnOk X.prog X.w X.K X.mg X.base U k f fd ps sp) (r:Tt k X.A) (y:Binds X.K fd ps ds) (hd:Vals dvs ds) (j:fW U X E)
  (n:eval (.Call (.Attribute o m Z) [] [] pos) X.env=(do
   let ov<-eval o X.env
   standAt Z.atName
   let(f,first)<-holding [ov] (getMethod ov m pl)
   callWith pos f first (backTo pos (Ru [] X.env)) (backToKw pos (keywordEach [] X.env))):=by rfl):
  PE X (.Call (.Attribute o m Z) [] [] pos) (uf C m sp dvs E T pQ):=by
 intro b s g H Q I h;refine VS (pl:=pl) (cB (v b s g H _ I h) fun u G ⟨x,J,d,i,a,dx,fs,z,B,l,q⟩=> ?_) n;subst z;obtain rfl:u=QT.ref a:=i;refine ra d B c hm l ?_;exact PySem.W.callWith_K0 (first:=[.ref a]) d.XB hm.kp (yR (us:=[.ref a]) (vs:=[.ref a]) F r y hd j d (.cons rfl .nil) q)
structure Mk (K:QR) (C f:QX):Prop where
 makes:Xx K C=QW
 init:R0 K (.ref C) "__init__"=lD (lD (.ref f))
 fn:T4 K (.ref f)=QW
 kp:SX K (.ref C)=QW
theorem Gm (M:Mk X.K C f) (F:FnOk X.prog X.w X.K X.mg X.base U k f fd ps sp) (n:Tt (k+1) X.A) (y:Binds X.K fd ps ds) (hd:Vals dvs ds)
  (l:fW U X E) (I:Inv X pins σ H s) (r:Vals vs us)
  (h:∀x dx,H x=QS->H dx=QS->dx≠x->sp (.ref x::(vs++dvs)) (bC (bC H dx (.own x)) x (.ins C dx [])) (fun v H2=>v= .TL/\Q (.ref x) H2) E):
  wpAny (model X.prog X.w) X.A (call (.ref C) us) (EP X pins σ Q) X.xe s:=by
 have g:=h (s.heap.objs.size+1) s.heap.objs.size (I.Su.fresh (X5 _)) (I.Su.fresh (Q4 _)) (Rr (UR _));have b:=Inv.made (C:=C) I;have d:Vals (V.ref (s.heap.objs.size+1)::(vs++dvs)) (QT.ref (s.heap.objs.size+1)::(us++ds)):= .cons rfl (r.append hd);have q:(QT.ref (s.heap.objs.size+1)::us++ds).length=ps.length:=by have e:=d.length;rw[F.len _ _ _ _ g] at e;exact e.symm
 refine WA (Fh I.XB M.makes M.init (beq_iff_eq.mp M.fn) (WB (F.run _ X.stack _ _ ⟨QT.ref (s.heap.objs.size+1)::us,[]⟩ (QT.ref (s.heap.objs.size+1)::(us++ds)) _ _ E (n.make C us [])
  (b.acs.make C us []) (y _ (QT.ref (s.heap.objs.size+1)::us) b.XB q) d g) fun r i a=> ?_))
 cases r with
 |error e=>exact l pins σ _ _ e i b a
 |ok z=>
  cases z with
  |ret u=>obtain⟨v,G,B,rv,ev,j⟩:=b.after a;subst ev;exact⟨rv,⟨V.ref (s.heap.objs.size+1),G,B,rfl,j⟩⟩
  |next=>exact False.elim a
  |brk=>exact False.elim a
  |cont=>exact False.elim a
theorem J1 (M:Mk X.K C f) (F:FnOk X.prog X.w X.K X.mg X.base U k f fd ps sp) (i:Tt (k+1) X.A) (j:Gl X x) (hm:X.mg x=lD (.ref C)) (n:Binds X.K fd ps ds) (hd:Vals dvs ds) (g:fW U X E)
  (ha:PA X (e::Y) t) (u:(x==("__debug__":Str))=Q2:=by decide) (l:Ru (e::Y) X.env=(Q2,eval e X.env)::Ru Y X.env:=by rfl) (v:(backTo pos (Ru Y X.env)).any (·.1)=Q2:=by rfl):
  PE X (.Call (.Name x p) (e::Y) [] pos) (w6 C sp dvs E t):=by
 intro a s d H Q I h;refine Tn (kZ I j hm ?_ u);refine WC I.ok.mod.kin M.kp (cB (ha pos a s d H _ I h) fun y z ⟨vs,B,b,r,q⟩=>⟨b.XB,?_⟩) l v;exact Gm M F i n hd g b r q
end
section
variable {X:Cx} {CX:vX} {k:Nat} {f C:QX} {fd:Sj} {ps ks:List Str} {sp:Sp} {E:XK} {x m:Str} {p pos apos alP:Pos} {e o:Sf} {es:List Sf} {kws:List X8} {te ta:TE} {t tk:TA} {nm:Option Str}
structure agt (K:QR) (fd:Sj) (ps ks:List Str) (g:List QT->List QT->List QT) (gV:List V->List V->List V):Prop where
 to:∀(s:Q0) (us ws:List QT),K.In s.heap->(g us ws).length=ps.length->Wz s fd ⟨us,ks.zip ws⟩ (ps.zip (g us ws))
 rel:∀{vs:List V} {us:List QT} {zs:List V} {ws:List QT},Vals vs us->Vals zs ws->Vals (gV vs zs) (g us ws)
variable {g:List QT->List QT->List QT} {gV:List V->List V->List V}
end
structure TN (N P:List Str) (sc:UQ):Prop where
 kind:sc.kind= .function
 co:sc.isCoroutine=Q2
 gen:sc.isGenerator=Q2
 nd:N.Nodup
 pre:N.take P.length=P
 par:∀x∈P,sc.names.lookup x=lD .local\/sc.names.lookup x=lD .cell
 acG:∀y∈sc.names,y.2≠ .free
theorem uo {a:Str->Option RI}:∀{binds:List (Str×QT)} {m:Str->Option QT},(∀v,(x,v)∉binds)->bindL a binds m x=m x
 |[],_,_=>rfl
 |(n,v)::r,m,h=>by
  unfold bindL;rw[uo fun w b=>h w (Rf _ b)];split
  .have:x≠n:=by rintro rfl;exact h v Rh
   simp[this]
  .rfl
theorem uB {a:Str->Option RI}:∀{binds:List (Str×QT)} {m:Str->Option QT},(∀v,(x,v)∉binds)->bindC a binds m x=m x
 |[],_,_=>rfl
 |(n,v)::r,m,h=>by
  unfold bindC;rw[uB fun w b=>h w (Rf _ b)];split
  .rfl
  .have:x≠n:=by rintro rfl;exact h v Rh
   simp[this]
theorem tX {kindOf:Str->Option RI}:∀{P:List Str} {vs:List QT} {i:Nat} {m:Str->Option QT},P.Nodup->P[i]? =lD x->vs[i]? =lD v->kindOf x=lD .local->
  bindL kindOf (P.zip vs) m x=lD v
 |[],_,_,_,_,h,_,_=>by simp at h
 |_::_,[],_,_,_,_,h,_=>by simp at h
 |p::P,w::vs,0,m,nd,h1,h2,hk=>by simp at h1 h2;subst h1;subst h2;show bindL kindOf ((p,w)::P.zip vs) m p=_;unfold bindL;rw[uo fun v hv=>(Sz.mp nd).1 (U1 hv).1,if_pos hk];simp
 |p::P,w::vs,i+1,m,nd,h1,h2,hk=>by unfold bindL;exact tX (Sz.mp nd).2 (by simpa using h1) (by simpa using h2) hk
theorem ui {kindOf:Str->Option RI}:∀{P:List Str} {vs:List QT} {i:Nat} {m:Str->Option QT},P.Nodup->P[i]? =lD x->vs[i]? =lD v->kindOf x≠lD .local->
  bindC kindOf (P.zip vs) m x=lD v
 |[],_,_,_,_,h,_,_=>by simp at h
 |_::_,[],_,_,_,_,h,_=>by simp at h
 |p::P,w::vs,0,m,nd,h1,h2,hk=>by simp at h1 h2;subst h1;subst h2;show bindC kindOf ((p,w)::P.zip vs) m p=_;unfold bindC;rw[uB fun v hv=>(Sz.mp nd).1 (U1 hv).1,if_neg hk];simp
 |p::P,w::vs,i+1,m,nd,h1,h2,hk=>by unfold bindC;exact ui (Sz.mp nd).2 (by simpa using h1) (by simpa using h2) hk
def start (N:List Str) (vs:List V):St:=vs.map lD++Q6 (N.length - vs.length) QS
def fV (h:vX) (P:Rt) (w:RM) (K:QR) (mg:Str->Option QT) (base:Heap) (N:List Str) (b:Str) (a:UQ) (f:QX) (g:QT) (A:RG) (outer:List Env) (s:Q0) (H:Hp) (E:XK):Cx where
 prog:=P
 w:=w
 K:=K
 mg:=mg
 base:=base
 A:=A.deeper (envOfC b a s.heap.objs.size f g)
 N:=N
 s₀:=s
 H₀:=H
 env:=envOfC b a s.heap.objs.size f g
 outer:=outer
 stack:=envOfC b a s.heap.objs.size f g::outer
 ex:=[]
 calm:=QW
 fn:=fun _=>QW
 pn:=[]
 xe:=fun e i=>wpAny (model P w) (A.deeper (envOfC b a s.heap.objs.size f g)) (leaving (envOfC b a s.heap.objs.size f g) e) (fun _ d=>h outer H s E e d) (fun j d=>h outer H s E j d) i
theorem xK {a:UQ} (h:a.names.lookup x=lD .cell):∃c,(Tg n a.names []).lookup x=lD c:=by have q:=Uq a.names n [] (.inl h);exact Yh.mp q
theorem CD {K:QR}
  (S:TN N ps scope) (hd:A.handled=QS) (e0:Env0 P w K mg base A outer s H) (C:vs.length=ps.length) (r:Vals vs us)
  (x:InCallC s s.heap.objs.size (bindL (envOfC qual scope s.heap.objs.size f cd).kindOf (ps.zip us) fun _=>QS) (Tg (s.heap.objs.size+1) scope.names []) (bindC (envOfC qual scope s.heap.objs.size f cd).kindOf (ps.zip us) fun _=>QS) s1):
  Inv (fV CX P w K mg base N qual scope f cd A outer s H E) [] (start N vs) H s1:=by
 have G:ps.length<=N.length:=by have:=congrArg Vu S.pre;rw[SI] at this;omega
 obtain⟨n,B,rfl,t⟩:=x.done;have g:∀b:QX,b∉(fV CX P w K mg base N qual scope f cd A outer s H E).ex:=fun b z=>absurd (show b∈([]:List QX) from z) (by simp);refine⟨⟨e0.mod,S.kind,rfl,rfl,Q4 _,fun y z c n d=> ?_,fun y j=> ?_,fun y c _ h=> ?_,fun _=>hd,RG.frames_deeper e0.frames,.inr ⟨rfl,rfl⟩,fun b z=>absurd z (g b),e0.bs,e0.bsz,fun b _ _=>g b,fun b z=>absurd z (g b),e0.WO,e0.frf⟩,
  rfl,e0.bare,Un.kept t,⟨_,x.toInCall.ns,fun i y v n d F=> ?_⟩,fun y c h=>⟨_,x.cell y c h⟩,e0.Su.fresh (Q4 _),fun y c h=> ?_,fun p m=>absurd (show p∈([]:List (QX×Obj)) from m) (by simp),e0.Su.kept t,?_⟩
 .exact name_of_addr x.apart (S5 n) (S5 d)
 .have j:=j
  rcases j with j|j
  .exact xK j
  .exact absurd rfl (S.acG _ (S5 j))
 .exact VV (x.above y c (S5 h))
 .have hi:i<vs.length:=by
   unfold start at d;by_cases hi:i<vs.length
   .exact hi
   .rw[RE (by simpa using hi)] at d;rw[Tz] at d;split at d<;>cases d
  have ha:vs[i]? =lD v:=by
   unfold start at d;rw[Ra (by simpa using hi),Q7] at d;cases e:vs[i]? with
   |none=>rw[e] at d;cases d
   |some a=>rw[e] at d;cases d;rfl
  obtain⟨u,o,rv⟩:=r.get ha;have m:ps[i]? =lD y:=by rw[<-S.pre,List.getElem?_take_of_lt (by omega)];exact n
  have l:ps.Nodup:=by rw[<-S.pre];exact S.nd.sublist (List.take_sublist _ _)
  refine⟨u,rv,?_⟩;rcases S.par y (Ro m) with k|k
  .exact .inl ⟨k,tX l m o k⟩
  .obtain⟨c,e⟩:=xK k;refine .inr ⟨.inl k,c,e,?_⟩;have q:=x.cell y c e;rw[ui l m o (by show scope.names.lookup y≠_;rw[k];decide)] at q;exact q
 .exact e0.Su.fresh (VV (x.above y c (S5 h)))
 .unfold start;show _=N.length;rw[Q3,QV,RK];omega
theorem G0 {CX:vX} {P:Rt} {w:RM} {K:QR} {mg:Str->Option QT} {base:Heap} {k:Nat} {f:QX} {name qual:Str} {params:Arguments} {body:List Ts} {scope:UQ} {dV kV doc pm SE ct oc:QT} {an od:Option QX}
  {Y8:Array (Option QT)} {N ps:List Str} {sp:Sp} (lk:K.lookup f=lD ⟨oc,od,.func (SN name qual params body scope dV kV doc pm an SE ct),Y8⟩) (YS:U5 K SE qual=QW) (S:TN N ps scope)
  (len:∀vs H Q E,sp vs H Q E->vs.length=ps.length)
  (Ue:∀(A:RG) (outer:List Env) (s:Q0) (H:Hp) (vs:List V) (Q:VK) (E:XK),Tt k (A.deeper (envOfC qual scope s.heap.objs.size f SE))->sp vs H Q E->
   ∃t,Xi (fV CX P w K mg base N qual scope f SE A outer s H E) body t/\t {nx:=fun _ H'=>Q .TL H',rt:=Q} (start N vs) H):
  FnOk P w K mg base CX (k+1) f (SN name qual params body scope dV kV doc pm an SE ct) ps sp:=by
 refine⟨len,fun A outer s H args us vs Q E hr e0 hb r hsp=> ?_⟩;have hl:=len _ _ _ _ hsp;have KX:K.In s.heap:=e0.mod.kin.keeps fun b o e=>(e0.bs b o e).1;have lim:s.heap.NoLimit:=e0.mod.nolimit.keeps fun b o e=>(e0.bs b o e).1;have Vi:∀y∈ps.zip us,scope.names.lookup y.1=lD .local\/(scope.names.lookup y.1=lD .cell/\((Tg (s.heap.objs.size+1) scope.names []).lookup y.1).isSome=QW):=fun⟨n,v⟩ hy=>by
  rcases S.par n (U1 hy).1 with q|q
  .exact .inl q
  .exact .inr ⟨q,Uq _ _ _ (.inl q)⟩
 refine codeAny_call_function hr.depth (KX _ _ lk) rfl S.co S.gen rfl (PySem.W.codeRec_of KX YS) (hb _ _ _ _ ?_);refine wpAny_newFunctionEnv_cells S.kind Vi fun env he s1 x=> ?_;subst he;refine⟨lim.keeps x.toInCall.keep,codeAny_func ?_⟩;obtain⟨t,ht,hq⟩:=Ue A outer s H vs Q E (hr.deeper _) hsp;have I:Inv (fV CX P w K mg base N qual scope f SE A outer s H E) [] (start N vs) H s1:=CD S hr.hd e0 hl r x;refine wpAny_mono (ht [] s1 (start N vs) H _ I hq) (fun fl s' hs=> ?_) fun e s' hs=>hs
 have fin:∀{σ':St} {H':Hp} {v:V} {u:QT},Inv (fV CX P w K mg base N qual scope f SE A outer s H E) [] σ' H' s'->RelV v u->Q v H'->CE outer P w H s Q u s':=
  fun{σ' H' v u} J rv q=>⟨v,H',J.os,J.bare,J.base,J.Su,rv,q⟩
 cases fl with
 |ret u=>obtain⟨v,σ',H',J,rv,q⟩:=hs;exact fin J rv q
 |next=>obtain⟨σ',H',J,q⟩:=hs;exact fin (v:=V.TL) (u:=QT.none) J rfl q
 |brk=>obtain⟨_,_,_,q⟩:=hs;exact False.elim q
 |cont=>obtain⟨_,_,_,q⟩:=hs;exact False.elim q
section
variable {X:Cx} {x:Str} {p pos:Pos} {e:Sf} {Z:List Sf} {t:TA} {id T:String} {r:List V->Hp->VK->Prop}
def KL (r:List V->Hp->VK->Prop) (t:TA):TE:=fun a H Q=>t a H fun vs b=>r vs b Q
theorem b7 (n:Us X (.builtin id) r) (l:Gl X x) (hm:X.mg x=QS) (j:Sr x=lD (.builtin id)) (ha:PA X (e::Z) t) (hn:x≠ "__name__":=by decide) (o:(x==("__debug__":Str))=Q2:=by decide)
  (m:Ru (e::Z) X.env=(Q2,eval e X.env)::Ru Z X.env:=by rfl) (q:(backTo pos (Ru Z X.env)).any (·.1)=Q2:=by rfl):PE X (.Call (.Name x p) (e::Z) [] pos) (KL r t):=by
 intro a s b H Q I h;refine Tn (mf I l hm j ?_ hn o);exact aex (cB (ha pos a s b H _ I h) fun d f ⟨vs,v,u,g,i⟩=>n a f b v vs d Q u g i) m q
theorem jo (n:Us X (.type T) r) (l:Gl X x) (hm:X.mg x=QS) (j:Sr x=lD (.type T)) (ha:PA X (e::Z) t) (hn:x≠ "__name__":=by decide) (o:(x==("__debug__":Str))=Q2:=by decide)
  (m:Ru (e::Z) X.env=(Q2,eval e X.env)::Ru Z X.env:=by rfl) (q:(backTo pos (Ru Z X.env)).any (·.1)=Q2:=by rfl):PE X (.Call (.Name x p) (e::Z) [] pos) (KL r t):=by
 intro a s b H Q I h;refine Tn (mf I l hm j ?_ hn o);exact S2 (cB (ha pos a s b H _ I h) fun d f ⟨vs,v,u,g,i⟩=>n a f b v vs d Q u g i) m q
end
end L2
namespace HT
open PySem PyProof.Rows
section
open PySem.SeqAt
open PySem.AutoSeq1 (wpAny_loadPart')
open PySem.MeetsSeq PySem.MeetsSeq2 PySem.MeetsSeq3
end
section
variable {prog:Rt} {w:RM} {A:RG} {E:QT->Q0->Prop} {s:Q0}
theorem cat_tup {t b:QX} {vs ws:List QT} {Q:QT->Q0->Prop} (u:IsTup s.heap t vs.toArray) (v:IsTup s.heap b ws.toArray) (o:vs≠[])
  (z:ws=[]->Q (.ref t) s) (y:ws≠[]->Q (.ref s.heap.objs.size) {s with heap:=s.heap.push {cls:= .type "tuple",data:= .seq (vs++ws).toArray}})
  (hsz:vs.length+ws.length<=Q8):wpAny (model prog w) A (SY .Add (.ref t) (.ref b)) Q E s:=by
 obtain⟨⟨cls,dd,data,l⟩,i,q,n,p⟩:=id u;obtain⟨⟨B,g,j,r⟩,a,f,m,d⟩:=id v;simp only at q p f d;subst q p f d;have e:vs.toArray++ws.toArray=(vs++ws).toArray:=by simp
 by_cases h:ws=[]
 .exact aaE ⟨_,i,rfl⟩ ⟨_,a,rfl⟩ Yo Z7 VN Vv (Vl _ _)
   (tuple_addW1 t b vs.toArray ws.toArray n m dd g l r (by simpa using o) (by simp[h])) ⟨i,a,z h⟩
 .refine aaE ⟨_,i,rfl⟩ ⟨_,a,rfl⟩ Yo Z7 VN Vv (Vl _ _)
   (tuple_addW2 t b vs.toArray ws.toArray n m dd g l r (by simpa using o) (by simpa using h) (by rw[Q9,Q9];exact hsz)) ⟨i,a,?_⟩
  rw[e];exact y h
def sIx (n d:Nat):Option Int->Nat
 |none=>d
 |some v=>if v<0 then(v+(n:Int)).toNat else min v.toNat n
theorem sIx_none (n d:Nat):sIx n d QS=d:=rfl
theorem sIx_nat (n d k:Nat):sIx n d (lD (k:Int))=min k n:=by show(if(k:Int)<0 then((k:Int)+(n:Int)).toNat else min (k:Int).toNat n)=min k n;rw[if_neg (by omega),Sl]
theorem MG (n d:Nat) (hd:d<=n) (o:Option Int):sIx n d o<=n:=by
 cases o with
 |none=>exact hd
 |some v=>
  show(if v<0 then(v+(n:Int)).toNat else min v.toNat n)<=n;by_cases a:v<0
  .rw[if_pos a];omega
  .rw[if_neg a];exact XO _ _
theorem Cg (v:Int) (n d:Nat):(if v<0 then max (v+(n:Int)) 0 else min v (n:Int))=((sIx n d (lD v):Nat):Int):=by
 show(if v<0 then max (v+(n:Int)) 0 else min v (n:Int))=(((if v<0 then(v+(n:Int)).toNat else min v.toNat n):Nat):Int);by_cases a:v<0
 .simp only[if_pos a];omega
 .simp only[if_neg a];omega
theorem zz (lo hi:Option Int) (n:Nat):Builtin.Slice.sliceAdjust lo hi 1 (n:Int)=(((sIx n 0 lo:Nat):Int),((sIx n n hi:Nat):Int)):=by
 have a:¬((1:Int)<0):=by omega
 unfold Builtin.Slice.sliceAdjust;simp only[a,if_false];refine Prod.ext ?_ ?_
 .cases lo with
  |none=>rfl
  |some v=>exact Cg v n 0
 .cases hi with
  |none=>rfl
  |some v=>exact Cg v n n
theorem zh (i j:Nat):Builtin.Slice.slicePlaces (i:Int) (j:Int) 1=j - i:=by
 unfold Builtin.Slice.slicePlaces;have a:(1:Int)>0:=by omega
 simp only[a,if_true,adz];split<;>omega
theorem ia (p:VX v o) (h:Q o s):wpAny (model prog w) A (Builtin.Slice.slicePartIndex v) Q E s:=by
 cases p with
 |none=>exact slicePart_none h
 |int i t=>exact slicePart_int h
theorem jd {lo hi:Option Int} {Q:Int×Int×Nat->Q0->Prop} (e:s.heap.IsSliceOf sl vl vu .none) (pl:VX vl lo) (d:VX vu hi)
  (h:Q (((sIx n 0 lo:Nat):Int),1,sIx n n hi - sIx n 0 lo) s):wpAny (model prog w) A (Builtin.Slice.sliceApplied (.ref sl) (pure (n:Int))) Q E s:=by
 obtain⟨g,a,f,b⟩:=id e;unfold Builtin.Slice.sliceApplied Builtin.Slice.sliceFields;refine Ld (Ld (RU a b rfl (Ld (RU a b rfl (Ld (RU a b rfl (Q1 ?_)))))));refine Ld (slicePart_none ?_);rw[if_neg (by decide)];refine Ld (ia pl (Ld (ia d (Ld (Q1 ?_)))));show wpAny _ _ (match Builtin.Slice.sliceAdjust lo hi 1 (n:Int) with|(lo,hi)=>pure (lo,(1:Int),Builtin.Slice.slicePlaces lo hi 1)) _ _ s;rw[zz lo hi n];show wpAny _ _ (pure (((sIx n 0 lo:Nat):Int),(1:Int),Builtin.Slice.slicePlaces ((sIx n 0 lo:Nat):Int) ((sIx n n hi:Nat):Int) 1)) _ _ s;rw[zh];exact Q1 h
theorem DQ (xs:Array QT) (i k:Nat):((Rj k).filterMap fun(m:Nat)=>xs[((i:Int)+(m:Int)*1).toNat]?).toArray=((xs.toList.drop i).take k).toArray:=by
 have e:(fun(m:Nat)=>xs[((i:Int)+(m:Int)*1).toNat]?)=fun m=>xs[i+m]? :=by
  funext m;have:((i:Int)+(m:Int)*1).toNat=i+m:=by omega
  rw[this]
 rw[e];have:=pick_run xs i k;rw[aaq] at this;have a:((fun x=>xs[x]?)∘fun x=>i+x)=fun m=>xs[i+m]? :=rfl;rw[a] at this;rw[this]
theorem getItem_tuple_cut {lo hi:Option Int} (a:IsTup s.heap t items) (i:s.heap.IsSliceOf sl vl vu .none) (pl:VX vl lo) (j:VX vu hi)
  (m:¬(sIx items.size 0 lo=0/\sIx items.size items.size hi=items.size))
  (h:Q (.ref s.heap.objs.size) {s with heap:=s.heap.push {cls:= .type "tuple",data:= .seq ((items.toList.drop (sIx items.size 0 lo)).take (sIx items.size items.size hi - sIx items.size 0 lo)).toArray}})
  (hsz:items.size<=Q8):wpAny (model prog w) A (getItem (.ref t) (.ref sl)) Q E s:=by
 have b:sizeOk (.seq ((items.toList.drop (sIx items.size 0 lo)).take (sIx items.size items.size hi - sIx items.size 0 lo)).toArray):=by show((items.toList.drop (sIx items.size 0 lo)).take (sIx items.size items.size hi - sIx items.size 0 lo)).toArray.size<=Q8;rw[Q9,SI,UN,Sa];omega
 have r:sIx items.size items.size hi<=items.size:=MG _ _ (Q4 _) hi;obtain⟨l,d,f,n⟩:=id i;have g:s.TypeIs (.ref sl) "slice":=⟨l,d,f⟩;unfold getItem
 try specialize SG ?_
 first|refine Ld (Q1 ?_)|skip
 refine Ld (X9 a.typeIs (by decide) ?_);refine Ld (SR a.typeIs RN
  (S3 RN a.typeIs entry_tuple_getitem ?_ (args_tuple_getitem _ _)))
 show wpAny _ _ (Builtin.Tuple.tupleItemsOf (.ref t)>>=_) _ _ s;refine Ld (tupleItemsOf_ a ?_);refine Ld (Ul g ?_);rw[if_pos (by decide)];refine Ld (jd i pl j ?_);have e:¬((((sIx items.size 0 lo:Nat):Int)==0&&(1:Int)==1&&(sIx items.size items.size hi - sIx items.size 0 lo)==items.size)=QW):=by intro q;rw[Rx,Rx] at q;have p:=eq_of_beq q.1.1;have o:=eq_of_beq q.2;exact m ⟨by omega,by omega⟩
 show wpAny _ _ (if(((sIx items.size 0 lo:Nat):Int)==0&&(1:Int)==1&&(sIx items.size items.size hi - sIx items.size 0 lo)==items.size)=QW then _ else _) _ _ s;rw[if_neg e,DQ]
 first
  |exact Ld (Sb (Q1 ⟨_,rfl,Q1 h⟩) b)
  |exact Ld (Sb (Ld (Q1 (Q1 ⟨_,rfl,Q1 h⟩))) b)
  |exact Ld (Ld (Sb (Q1 (Q1 ⟨_,rfl,Q1 h⟩)) b))
  |exact Ld (Ld (Sb (Q1 ⟨_,rfl,Q1 h⟩) b))
end
end HT
namespace L2
open PySem PySem.Spec PyProof.Rows
abbrev TO:=St->Hp->(Option Int->Hp->Prop)->Prop
def PO (X:Cx) (e:Option Sf) (t:TO):Prop:=
 ∀(a:List (QX×Obj)) (s:Q0) (b:St) (H:Hp) (Q:Option Int->Hp->Prop),Inv X a b H s->t b H Q->
  wpAny (model X.prog X.w) X.A (evalPart e X.env) (fun u d=>∃o H',Inv X a b H' d/\VX u o/\Q o H') X.xe s
def AZ:TO:=fun _ H Q=>Q QS H
def FV (t:TE):TO:=fun a H Q=>t a H fun x b=>∃i,x= .int i/\Q (lD i) b
theorem l8:∀{us:List QT},Vals (ns.map V.int) us->IntsAre us ns:=by
 induction ns with
 |nil=>intro us r;rw[T7] at r;cases r;exact .nil
 |cons n ns d=>
  intro us r;rw[Ri] at r;cases r with
  |cons b a=>obtain⟨t,e⟩:=b;subst e;exact .cons n t (d a)
section
variable {X:Cx} {e:Sf} {U:TE} {Z Y:Option Sf} {S R:TO} {pos P:Pos}
theorem vx:PO X QS AZ:=by intro a s b H Q I h;rw[Z8];exact Q1 ⟨QS,H,I,.none,h⟩
theorem vM (h:PE X e U):PO X (lD e) (FV U):=by intro a s b H Q I g;rw[evalPart_some];refine cB (h a s b H _ I g) fun u m ⟨x,l,j,d,f⟩=> ?_;obtain⟨i,rfl,q⟩:=f;obtain⟨t,rfl⟩:=d;exact⟨lD i,l,j,.int i t,q⟩
def NL (X:Cx) (r:V->Option Int->Option Int->Hp->VK->Prop):Prop:=
 ∀(a:List (QX×Obj)) (s:Q0) (b:St) (H:Hp) (x:V) (v f d:QT) (Z Y:Option Int) (g:QX) (Q:VK),Inv X a b H s->RelV x v->s.heap.IsSliceOf g f d .none->VX f Z->VX d Y->r x Z Y H Q->
  ∃T id,typeLookup (.type T) "__getitem__"=pure (lD (.builtin id))/\s.TypeIs v T/\wpAny (model X.prog X.w) X.A (getItem v (.ref g)) (EP X a b Q) X.xe s
def Qp (r:V->Option Int->Option Int->Hp->VK->Prop) (U:TE) (S R:TO):TE:=fun a H Q=>U a H fun x f=>S a f fun l d=>R a d fun u b=>r x l u b Q
theorem rO {r:V->Option Int->Option Int->Hp->VK->Prop} (E:NL X r) (J:PE X e U) (F:PO X Z S) (B:PO X Y R):PE X (.Subscript e (.Slice Z Y QS P) pos) (Qp r U S R):=by intro a s f H Q I h;refine Subscript_ (cB (J a s f H _ I h) fun v n ⟨x,H1,O,o,y⟩=> ?_);refine wpAny_Slice (cB (F a n f H1 _ O y) fun i m ⟨l,H2,N,pl,t⟩=>cB (B a m f H2 _ N t) fun g d ⟨u,j,M,z,p⟩=> ?_);rw[Z8];refine Q1 ?_;have L:Inv X a f j {d with heap:=d.heap.push {cls:= .type "slice",data:= .fields #[i,g,.none]}}:=M.kept (t':=d.toks) fun b ob q=>Heap.get?_push_of_some _ q;obtain⟨T,id,K,C,G⟩:=E a {d with heap:=d.heap.push {cls:= .type "slice",data:= .fields #[i,g,.none]}} f j x v i g l u d.heap.objs.size Q L o (Heap.IsSliceOf.new ..) pl z p;show wpAny (model X.prog X.w) X.A (subscriptTail e (.Slice Z Y QS P) v (.ref d.heap.objs.size)) (EP X a f Q) X.xe {d with heap:=d.heap.push {cls:= .type "slice",data:= .fields #[i,g,.none]}};exact tail_any (ops:=[.ref d.heap.objs.size,v]) C K G (by with_unfolding_all rfl)
def CA (xs:List V) (Z Y:Option Int):List V:=(xs.drop (HT.sIx xs.length 0 Z)).take (HT.sIx xs.length xs.length Y - HT.sIx xs.length 0 Z)
theorem pf (xs:List V) (Z Y:Option Int):(CA xs Z Y).length<=xs.length:=by unfold CA;rw[SI,UN];omega
def Oi (K:QR):V->Option Int->Option Int->Hp->VK->Prop:=fun x Z Y H Q=>∃a xs,x= .ref a/\Vo K H a xs/\
 ¬(HT.sIx xs.length 0 Z=0/\HT.sIx xs.length xs.length Y=xs.length)/\∀p,H p=QS->Q (.ref p) (bC H p (.tup (CA xs Z Y)))
theorem Mw:NL X (Oi X.K):=by
 intro f s t H x v w u Z Y y Q I j o pl l h;obtain⟨a,xs,rfl,m,n,q⟩:=h;cases j;obtain⟨p,r,i,g⟩:=I.tuple m;have d:p.toArray.size=xs.length:=by rw[Q9];exact r.length.symm
 refine⟨"tuple",_,RN.lookup,i.typeIs,?_⟩;refine HT.getItem_tuple_cut i o pl l (by rw[d];exact n) ?_ (by rw[d];exact g);rw[d];refine⟨.ref s.heap.objs.size,_,I.laid (fun b z q=>Heap.get?_push_of_some _ q) (Q4 _) ?_,rfl,q _ (I.Su.fresh (Q4 _))⟩;exact⟨RO (pf xs Z Y) g,_,(r.drop (HT.sIx xs.length 0 Z)).take (HT.sIx xs.length xs.length Y - HT.sIx xs.length 0 Z),Xn.new _ _⟩
def KQ (K:QR):R2:=fun x y H Q=>∃a b xs ys,x= .ref a/\y= .ref b/\Vo K H a xs/\Vo K H b ys/\xs≠[]/\xs.length+ys.length<=Q8/\
 (ys=[]->Q (.ref a) H)/\(ys≠[]->∀p,H p=QS->Q (.ref p) (bC H p (.tup (xs++ys))))
theorem Vals.YC (r:Vals xs us):us=[]↔xs=[]:=by
 cases r with
 |nil=>simp
 |cons _ _=>simp
theorem Jw:OpR X (SY .Add) (KQ X.K):=by intro g s t H x y v u Q I l j h;obtain⟨a,b,xs,A,rfl,rfl,ha,r,p,i,n,m⟩:=h;cases l;cases j;obtain⟨E,f,o,_⟩:=I.tuple ha;obtain⟨C,d,P,_⟩:=I.tuple r;refine HT.cat_tup o P (fun z=>p (f.YC.mp z)) (fun z=>⟨.ref a,H,I,rfl,n (d.YC.mp z)⟩) (fun z=> ?_) (by rw[<-f.length,<-d.length];exact i);refine⟨.ref s.heap.objs.size,_,I.laid (fun b B q=>Heap.get?_push_of_some _ q) (Q4 _) ?_,rfl,m (fun w=>z (d.YC.mpr w)) _ (I.Su.fresh (Q4 _))⟩;exact⟨by rw[Q3];exact i,_,f.append d,Xn.new _ _⟩
end
def KR (n:Nat) (i:Int):Option Nat:=if 0<=i then(if i<n then lD i.toNat else QS) else if -(n:Int)<=i then lD (i+n).toNat else QS
def lx (xs:List α) (i:Int):Option α:=(KR xs.length i).bind fun j=>xs[j]?
theorem Jh (h:KR n i=lD j):seqIndex? i n=lD j/\j<n/\ -(n:Int)<=i/\i<n:=by
 unfold KR at h;by_cases b:0<=i
 .rw[if_pos b] at h
  by_cases a:i<n
  .rw[if_pos a] at h;have e:=Rm h;exact⟨by rw[seqIndex_of b a,e],by omega,by omega,a⟩
  .rw[if_neg a] at h;cases h
 .rw[if_neg b] at h
  by_cases a: -(n:Int)<=i
  .rw[if_pos a] at h;have e:=Rm h;exact⟨by rw[seqIndex_neg (by omega) a,e],by omega,a,by omega⟩
  .rw[if_neg a] at h;cases h
theorem vN (h:lx xs i=lD v):∃j,seqIndex? i xs.length=lD j/\xs[j]? =lD v/\j<xs.length/\ -(xs.length:Int)<=i/\i<xs.length:=by
 unfold lx at h;cases e:KR xs.length i with
 |none=>rw[e] at h;cases h
 |some j=>rw[e] at h;obtain⟨f,d,b,a⟩:=Jh e;exact⟨j,f,h,d,b,a⟩
theorem BQ {j:Nat} (h:xs[j]? =lD v):lx xs (j:Int)=lD v:=by
 have a:=(QU.mp h).1;have e:KR xs.length (j:Int)=lD j:=by unfold KR;rw[if_pos (by omega),if_pos (by omega)];simp
 unfold lx;rw[e];exact h
def JE (b:Sf):Prop:=∀o i,subscripted b Q2 o i=operate [o,i] (getItem o i)
def IxR (X:Cx) (r:R2):Prop:=
 ∀(d a:Sf) (b:List (QX×Obj)) (s:Q0) (e:St) (H:Hp) (x y:V) (v u:QT) (Q:VK),Inv X b e H s->RelV x v->RelV y u->r x y H Q->
  subscripted a Q2 v u=operate [v,u] (getItem v u)->wpAny (model X.prog X.w) X.A (subscriptTail d a v u) (EP X b e Q) X.xe s
def PK (X:Cx) (e:String) (r:V->List V->Hp->VK->Prop):Prop:=
 ∀(a:List (QX×Obj)) (s:Q0) (b:St) (H:Hp) (x:V) (xs:List V) (v:QT) (d:List QT) (Q:VK),Inv X a b H s->RelV x v->Vals xs d->r x xs H Q->
  wpAny (model X.prog X.w) X.A (call (.builtin e) (v::d)) (EP X a b Q) X.xe s
section
variable {X:Cx} {a b:Sf} {ta tb:TE} {pos:Pos}
theorem IxR.or (h:IxR X r) (h':IxR X r'):IxR X (fun x y H Q=>r x y H Q\/r' x y H Q):=by
 intro d e f s g H x y v u Q I j i q l;rcases q with q|q
 .exact h d e f s g H x y v u Q I j i q l
 .exact h' d e f s g H x y v u Q I j i q l
theorem bM {r:R2} (l:IxR X r) (ha:PE X a ta) (m:PE X b tb) (j:JE b):PE X (.Subscript a b pos) (Nm r ta tb):=by intro d s e H Q I h;exact Subscript_ (Md ha m I h fun v u f x y o n i g q=>l a b d f e o x y v u Q n i g q (j _ _))
def OJ (K:QR):R2:=fun x y H Q=>∃p xs i v,x= .ref p/\y= .int i/\VR K H p xs/\lx xs i=lD v/\Q v H
def OP (K:QR):R2:=fun x y H Q=>∃p xs i v,x= .ref p/\y= .int i/\Vo K H p xs/\lx xs i=lD v/\Q v H
def NU:R2:=fun x y H Q=>∃z i c,x= .str z/\y= .int i/\z.length<=Q8/\lx z.cps.toList i=lD c/\Q (.str ⟨#[c]⟩) H
theorem Jo:IxR X (OJ X.K):=by
 intro g l d s B H x y v u Q I E C h n;obtain⟨p,xs,i,z,rfl,rfl,F,J,q⟩:=h;cases E;obtain⟨t,rfl⟩:=C;obtain⟨P,r,pl,R⟩:=I.list F;obtain⟨j,f,N,S,M,L⟩:=vN J;obtain⟨w,A,O⟩:=r.get N;have G:=r.length;have hn:=vA;have e:EP X d B Q w s:=⟨z,H,I,O,q⟩;by_cases o:0<=i
 .have m:i.toNat=j:=by
   rw[seqIndex_of o L] at f;exact Rm f
  exact item_listR pl.isList o (by omega) (by rw[m];simpa using A) e n
 .have m:(i+(P.toArray.size:Int)).toNat=j:=by
   rw[seqIndex_neg (by omega) M] at f;rw[Q9,<-G];exact Rm f
  exact subscriptTail_builtinR pl.isList.typeIs acX.lookup
   (wpAny_getItem_list_neg pl.isList (by omega) (by rw[Q9]<;>omega) (by omega) (by rw[m];simpa using A) ⟨rfl,e⟩) n
theorem Nb:IxR X (OP X.K):=by
 intro e f d s l H x y v u Q I n m h o;obtain⟨p,xs,i,z,rfl,rfl,A,C,q⟩:=h;cases n;obtain⟨t,rfl⟩:=m;obtain⟨P,r,pl,L⟩:=I.tuple A;obtain⟨j,F,E,O,N,M⟩:=vN C;obtain⟨w,G,J⟩:=r.get E;have B:=r.length;have hn:=vA;have g:EP X d l Q w s:=⟨z,H,I,J,q⟩;exact subscriptTail_builtinR pl.typeIs slot_tuple_getitem.lookup
  (getItem_tuple pl (by omega) (by omega) (by rw[Q9,<-B];exact F) (by simpa using G) ⟨rfl,g⟩) o
theorem Ng:IxR X NU:=by
 intro d e f s E H x y v u Q I m l h n;obtain⟨z,i,c,rfl,rfl,G,p,q⟩:=h;obtain⟨t,rfl⟩:=m;obtain⟨F,rfl⟩:=l;obtain⟨j,g,A,J,w,r⟩:=vN p;have o:z.cps.toList.length=z.length:=by simp[Str.length]
 rw[o] at g w r;have hn:=vA;exact tail_any (typeIs_str s z t) slot_str_getitem.lookup (getItem_str (by have C:decide (i< -(2^63:Int))=Q2:=decide_eq_false (by omega);have B:decide (i≥2^63)=Q2:=decide_eq_false (by omega);rw[C,B,YD]) (by rw[g];simpa using A) ⟨.str ⟨#[c]⟩,H,I.tok _,⟨_,rfl⟩,q⟩) n
def Px (K:QR):R2:=fun x y H Q=>OJ K x y H Q\/OP K x y H Q\/NU x y H Q
theorem bh:IxR X (Px X.K):=Jo.or (Nb.or Ng)
theorem vI (lo hi:Option Int) (n:Nat):(sliceBounds lo hi QS n).1=((HT.sIx n 0 lo:Nat):Int)/\(sliceBounds lo hi QS n).2.1=((HT.sIx n n hi:Nat):Int)/\(sliceBounds lo hi QS n).2.2=1:=by
 refine⟨?_,?_,rfl⟩
 .cases lo with
  |none=>simp[sliceBounds,HT.sIx]
  |some i=>
   simp only[sliceBounds,HT.sIx,aar,show(1:Int)>0 by decide,if_true];by_cases h:i<0
   .simp only[h,if_true]<;>omega
   .simp only[h,if_false]<;>omega
 .cases hi with
  |none=>simp[sliceBounds,HT.sIx]
  |some i=>
   simp only[sliceBounds,HT.sIx,aar,show(1:Int)>0 by decide,if_true];by_cases h:i<0
   .simp only[h,if_true]<;>omega
   .simp only[h,if_false]<;>omega
theorem tP (d:List QT) (lo hi:Option Int):slicePick d.toArray lo hi QS=((d.drop (HT.sIx d.length 0 lo)).take (HT.sIx d.length d.length hi - HT.sIx d.length 0 lo)).toArray:=by obtain⟨g,f,e⟩:=vI lo hi d.toArray.size;unfold slicePick;rw[g,f,e];simp only[sliceRange_one,pick_run,Q9]<;>rfl
def OX (K:QR):V->Option Int->Option Int->Hp->VK->Prop:=fun x lo hi H Q=>∃a xs,x= .ref a/\VR K H a xs/\∀p,H p=QS->Q (.ref p) (bC H p (.lst (CA xs lo hi)))
theorem HV:NL X (OX X.K):=by intro e s n H x v p o lo hi t Q I g m pl i h;obtain⟨a,xs,rfl,l,q⟩:=h;cases g;obtain⟨w,r,f,j⟩:=I.list l;have d:=r.length;refine⟨"list",_,acX.lookup,f.isList.typeIs,?_⟩;refine wpAny_getItem_list_slice f.isList m pl i .none (by simp) ?_ (by rw[Q9]<;>omega);rw[tP,<-d];refine⟨.ref s.heap.objs.size,_,I.laid (fun b u q=>Heap.get?_push_of_some _ q) (Q4 _) ?_,rfl,q _ (I.Su.fresh (Q4 _))⟩;exact⟨RO (pf xs lo hi) j,_,0,(r.drop (HT.sIx xs.length 0 lo)).take (HT.sIx xs.length xs.length hi - HT.sIx xs.length 0 lo),Heap.get?_push_size _ rfl⟩
theorem Us.or (h:Us X f r) (h':Us X f r'):Us X f (fun xs H Q=>r xs H Q\/r' xs H Q):=by
 intro d s e H xs g Q I i q;rcases q with q|q
 .exact h d s e H xs g Q I i q
 .exact h' d s e H xs g Q I i q
theorem uK:Us X (.type "list") (fun xs H Q=>∃p ys,xs=[.ref p]/\(VR X.K H p ys\/Vo X.K H p ys)/\∀l,H l=QS->Q (.ref l) (bC H l (.lst ys))):=by
 intro j s E H xs G Q I r h;obtain⟨p,ys,rfl,v,q⟩:=h;obtain⟨u,rfl,F⟩:=kM r;cases F
 have z:∀(f:List QT),Vals ys f->ys.length<=Q8->∀(d:Heap) (i:Nat),(∀b o',s.heap.get? b=lD o'->d.get? b=lD o')->
   d.get? s.heap.objs.size=lD {cls:= .type "list",dict:=QS,data:= .seq f.toArray i,slots:= #[]}->EP X j E Q (.ref s.heap.objs.size) {s with heap:=d}:=fun f g t d i m e=>
  ⟨.ref s.heap.objs.size,_,I.laid m (Q4 _) (show ObjOk X.prog X.w _ d _ (.lst ys) from⟨t,f,i,g,e⟩),rfl,q _ (I.Su.fresh (Q4 _))⟩
 rcases v with v|v
 .obtain⟨f,g,pl,t⟩:=I.list v;have y:=g.length;obtain⟨o,A,C,n,B⟩:=pl.isList;exact ahA p (.inl rfl) A C B (fun d i m e=>z f g t d i m e) (by simp only[Q9]<;>omega)
 .obtain⟨f,g,pl,t⟩:=I.tuple v;have y:=g.length;obtain⟨o,A,C,n,B⟩:=pl;exact ahA p (.inr rfl) A C B (fun d i m e=>z f g t d i m e) (by simp only[Q9]<;>omega)
theorem gq:Us X (.type "tuple") (fun xs H Q=>∃p ys,xs=[.ref p]/\((VR X.K H p ys/\∀l,H l=QS->Q (.ref l) (bC H l (.tup ys)))\/(Vo X.K H p ys/\Q (.ref p) H))):=by
 intro g s A H xs B Q I r h;obtain⟨p,ys,rfl,h⟩:=h;obtain⟨u,rfl,t⟩:=kM r;cases t;rcases h with⟨f,q⟩|⟨f,q⟩
 .obtain⟨m,d,pl,i⟩:=I.list f
  have j:=d.length;refine call_tuple_list pl.isList (fun y v=> ?_) (by simp only[Q9]<;>omega);have n:=I.kept (t':=s.toks) v
  have z:=
   n.laid (t':=s.toks) (fun b o e=>Heap.get?_push_of_some _ e) (Q4 _) (show ObjOk X.prog X.w _ _ _ (.tup ys) from⟨i,m,d,Xn.new _ _⟩)
  exact⟨.ref y.objs.size,_,z,rfl,q _ (n.Su.fresh (Q4 _))⟩
 .obtain⟨m,d,pl,i⟩:=I.tuple f;exact call_tuple_same pl ⟨.ref p,H,I,rfl,q⟩
def P2 (K:QR) (T:String) (x:V) (H:Hp):Prop:=match x with
 | .str _=>T= "str"
 | .int _=>T= "int"
 | .ref p=>(T= "list"/\∃xs,VR K H p xs)\/(T= "tuple"/\∃o,K.lookup p=lD o/\o.cls= .type "tuple"/\o.dict=QS)\/
   (T= "dict"/\((∃Rz,H p=lD (.dK Rz))\/∃Rz,H p=lD (.dT Rz)))\/(T= "set"/\∃S n,H p=lD (.set S n))
 |_=>False
theorem Ho (I:Inv X pins σ H s) (r:RelV x v) (ty:P2 X.K T x H):
  s.TypeIs v T/\∀a,v= .ref a->∃ob,s.heap.get? a=lD ob/\ob.dict=QS:=by
 cases x with
 |str z=>obtain⟨t,rfl⟩:=r;cases(show T= "str" from ty);exact⟨typeIs_str s z t,fun _ e=>nomatch e⟩
 |int i=>obtain⟨t,rfl⟩:=r;cases(show T= "int" from ty);exact⟨XQ s i t,fun _ e=>nomatch e⟩
 |ref p=>
  cases r;rcases ty with⟨rfl,xs,j⟩|⟨rfl,o,d,l,g⟩|⟨rfl,d⟩|⟨rfl,S,n,d⟩
  .obtain⟨m,_,pl,_⟩:=I.list j;refine⟨pl.isList.typeIs,fun a e=> ?_⟩;cases e;obtain⟨o,n,e,c,g,_⟩:=pl;exact⟨o,e,g⟩
  .refine⟨⟨o,I.XB p o d,l⟩,fun a e=> ?_⟩;cases e;exact⟨o,I.XB _ o d,g⟩
  .have z:∃o,s.heap.get? p=lD o/\o.ExactDict:=by
    rcases d with⟨Rz,d⟩|⟨Rz,d⟩
    .obtain⟨_,_,_,_,o,_,_,e,f,_⟩:=I.Su p _ d;exact⟨o,e,f⟩
    .obtain⟨_,_,_,_,o,_,_,e,f,_⟩:=I.Su p _ d;exact⟨o,e,f⟩
   obtain⟨o,e,f⟩:=z;refine⟨⟨o,e,f.1⟩,fun a h=> ?_⟩;cases h;exact⟨o,e,f.2.1⟩
  .obtain⟨o,_,_,_,e,f,_⟩:=I.Su p _ d;refine⟨⟨o,e,f.1⟩,fun a h=> ?_⟩;cases h;exact⟨o,e,f.2.1⟩
 |_=>exact False.elim ty
def Oo (K:QR) (T:String) (r:V->List V->Hp->VK->Prop) (to:TE):TE:=fun e H Q=>to e H fun x d=>P2 K T x d/\r x [] d Q
def Qh (K:QR) (T:String) (r:V->List V->Hp->VK->Prop) (to:TE) (t:TA):TE:=fun d H Q=>to d H fun x e=>P2 K T x e/\t d e fun xs f=>r x xs f Q
variable {o e:Sf} {S:List Sf} {to:TE} {t:TA} {name:Str} {Z Y:Pos} {T U:String} {r:V->List V->Hp->VK->Prop}
theorem Hi (pa:PlainAttrs T) (f:Slot T name U) (g:typeOf (.builtin U)=pure (.type "method_descriptor")) (hm:PK X U r) (q:PE X o to)
  (y:attributeBase o name X.env (eval o X.env)=eval o X.env:=by rfl) (i:(Z.endLine==Y.line)=QW:=by rfl):PE X (.Call (.Attribute o name Z) [] [] Y) (Oo X.K T r to):=by
 intro d s j H Q I h;refine wpAny_Call_method0_late y i (cB (q d s j H _ I h) fun v n ⟨x,z,m,l,ty,p⟩=> ?_);obtain⟨w,u⟩:=Ho m l ty;exact⟨T,U,pa,f,g,w,u,Calls.callWith_builtin rfl (PySem.evalArgs_none (hm d n j z x [] v [] Q m l .nil p))⟩
theorem A7 (pa:PlainAttrs T) (f:Slot T name U) (i:typeOf (.builtin U)=pure (.type "method_descriptor")) (hm:PK X U r) (C:PE X o to) (ha:PA X (e::S) t)
  (J:attributeBase o name X.env (eval o X.env)=eval o X.env:=by rfl)
  (j:((backTo Y (Ru (e::S) X.env)).all (fun x=> !x.1)&&(backToKw Y (keywordEach [] X.env)).all (fun x=>x.1.isSome)
   &&decide ((e::S).length+([]:List X8).length+(if([]:List X8).isEmpty then 0 else 1)<30))=QW:=by rfl)
  (l:(Z.endLine==Y.line)=QW:=by rfl) (B:Ru (e::S) X.env=(Q2,eval e X.env)::Ru S X.env:=by rfl) (G:(backTo Y (Ru S X.env)).any (·.1)=Q2:=by rfl):
  PE X (.Call (.Attribute o name Z) (e::S) [] Y) (Qh X.K T r to t):=by
 intro d s g H Q I h;refine wpAny_Call_method_late J j l rfl (cB (C d s g H _ I h) fun v w ⟨x,N,p,m,ty,A⟩=> ?_);obtain⟨F,E⟩:=Ho p m ty;refine⟨T,U,pa,f,i,F,E,?_⟩;have n:=ha Y d w g N _ p A;rw[B] at n⊢;refine Calls.callWith_builtin (by show(Q2||(backTo Y (Ru S X.env)).any (·.1))=Q2;rw[G]<;>rfl) (Calls.evalArgs_plain ?_);exact cB n fun q u ⟨vs,M,L,y,z⟩=>hm d u g M x vs v q Q L m y z
end
def Qz (X:Cx) (e:String) (r:V->List V->Hp->VK->Prop):Prop:=
 ∀(a:List (QX×Obj)) (s:Q0) (b:St) (H:Hp) (x:V) (xs:List V) (v:QT) (d:List QT) (Q:VK),Inv X a b H s->RelV x v->Vals xs d->r x xs H Q->
  wpAny (model X.prog X.w) X.A (call (.builtin e) (v::d)) (EP X a b Q) X.xe s
theorem Vals.one:∀{x:V} {us:List QT},Vals [x] us->∃u,us=[u]/\RelV x u
 |_,_,.cons r .nil=>⟨_,rfl,r⟩
theorem Vals.rep (h:Vals xs us):∀k:Nat,Vals (Q6 k xs).flatten (Q6 k us).flatten
 |0=> .nil
 |k+1=>by rw[Si,Si,Tr,Tr];exact Vals.append h (Vals.rep h k)
theorem og (b:List QT):∀(k:Nat) (a:List QT),
  VU (fun x1 x2=>x1++x2) a.toArray (Q6 k b.toArray)=(a++(Q6 k b).flatten).toArray
 |0,a=>by simp
 |k+1,a=>by
  have e:a.toArray++b.toArray=(a++b).toArray:=by simp
  have d:(a++b)++(Q6 k b).flatten=a++(Q6 (k+1) b).flatten:=by rw[Si,Tr,RJ]
  rw[<-d,<-og b k (a++b),<-e,Si,VY]
section
variable {X:Cx} {Z:List (QX×Obj)} {Y:St} {H:Hp} {s:Q0} {l b:QX} {xs U zs:List V}
theorem Inv.agV {d a:List QT} (I:Inv X Z Y H s) (m:H l=lD (.lst xs))
  (e:s.heap.get? l=lD {cls:= .type "list",data:= .seq d.toArray n}) (i:f d.toArray=a.toArray) (g:Vals U a) (hz:U.length<=Q8):
  Inv X Z Y (bC H l (.lst U)) {s with heap:=s.heap.update l (Obj.mapSeq f),toks:=t'}:=by
 have q:=aiQ e f;rw[i] at q;refine I.write (by rw[m];exact trivial) (.inl rfl) (fun o u j h=>(Heap.get?_update_other s.heap (Obj.mapSeq f) (Ne.symm j)).trans h) ⟨_,q⟩ ?_;exact⟨hz,a,_,g,q⟩
theorem Inv.aeb (I:Inv X Z Y H s) (a:Vals U RQ) (hz:U.length<=Q8):
  Inv X Z Y (bC H s.heap.objs.size (.lst U)) {s with heap:=s.heap.push {cls:= .type "list",data:= .seq RQ.toArray},toks:=t'}:=
 I.laid (fun _ _ q=>Heap.get?_push_of_some _ q) (Q4 _) ⟨hz,RQ,0,a,Heap.get?_push_size _ rfl⟩
theorem Inv.fresh (I:Inv X Z Y H s):H s.heap.objs.size=QS:=I.Su.fresh (Q4 _)
theorem Inv.adZ (I:Inv X Z Y H s) (d:H l=lD (.lst xs)):xs.length<=Q8/\∃(a:List QT) (n:Nat),Vals xs a/\xs.length=a.length/\s.heap.get? l=lD {cls:= .type "list",data:= .seq a.toArray n}:=by obtain⟨z,a,n,r,e⟩:=I.Su l _ d;exact⟨z,a,n,r,r.length,e⟩
theorem Et (h:n<=Q8):Builtin.List.listTooLong n=Q2:=by unfold Builtin.List.listTooLong;exact decide_eq_false (by omega)
end
section
variable {X:Cx}
def uR:V->List V->Hp->VK->Prop:=fun x vs H Q=>∃l xs y,x= .ref l/\vs=[y]/\H l=lD (.lst xs)/\xs.length<Q8/\Q .TL (bC H l (.lst (xs++[y])))
theorem jr:Qz X "list.append" uR:=by intro a s i H x vs v j Q I d rv h;obtain⟨l,xs,y,rfl,rfl,b,m,q⟩:=h;cases d;obtain⟨u,rfl,f⟩:=rv.one;obtain⟨z,g,n,r,o,e⟩:=I.adZ b;refine WE F.slot_list_append ⟨_,e,rfl⟩ F.entry_list_append (F.args_list_append_2 _ _) (PySem.list_append l g.toArray n u (by rw[Q9];omega)) ⟨e,?_⟩;refine⟨.TL,_,I.agV b e (by simp) (r.append (.cons f .nil)) ?_,rfl,q⟩;rw[Q3,TQ];omega
theorem Bk (xs:List α) (k:Nat):(Q6 k xs).flatten.length=k*xs.length:=by
 induction k with
 |zero=>simp
 |succ k a=>rw[Si,Tr,Q3,a,adA,Zd]
end
section
variable {prog:Rt} {w:RM} {A:RG} {E:QT->Q0->Prop} {s:Q0}
set_option maxRecDepth 100000 in
end
end L2
namespace Att
open PySem PySem.W PySem.Calls PyProof.Rows
theorem pH:∀(d:List Int) (vs:List QT),WellAll P h vs (d.map WData.int)->IntsAre vs d:=by
 intro d
 induction d with
 |nil=>intro vs w;rw[T7] at w;cases w;exact .nil
 |cons n d e=>
  intro vs w;rw[Ri] at w;cases w with
  |cons a b=>cases a;exact .cons _ _ (e _ b)
theorem Dh {l:OpenLaw} (hn:l.most=lD n)
  (e:l.row.toRowW.claim.pre args=QW) (i:WellAll P h vals args):
  ∃a vs ns,vals=[QT.ref a]/\args=[WData.list (ns.map WData.int)]/\h.get? a=lD {cls:= .type "list",data:= .seq vs.toArray}/\IntsAre vs ns/\ns.length<=n:=by
 have j:=(pre_splitW e).1;have o:l.pre.holds [] {args:=args}=QW:=(pre_splitW e).2;obtain⟨d,r,rfl,z,y⟩:=hasAllW_cons j;obtain rfl:=hasAllW_nil y;obtain⟨xs,rfl,w⟩:=hasW_list z;obtain⟨ns,rfl⟩:=items_int w;have b:ns.length<=n:=by
  unfold OpenLaw.pre at o;have g:(WTm.not (.lt (.lit (.int (n:Int))) (.len (.arg 0)))).holds [] {args:=[.list (ns.map .int)]}=QW:=by have g:=(holds_andW o).1;rw[hn] at g;exact g
  have f:=condW_of g (w_not (w_lt w_lit (w_len_list (w_arg rfl))));rw[QV] at f;refine Nat.le_of_not_lt fun q=> ?_;have u:(n:Int)<((ns.length:Nat):Int):=by omega
  first
   |(rw[decide_eq_true u] at f;exact absurd f (by decide))
   |(simp at f;omega)
 cases i with
 |cons t p=>
  cases p;cases t with
  |list v m=>exact⟨_,_,ns,rfl,rfl,v,pH ns _ m,b⟩
theorem CH (l:OpenLaw) (args:List WData):l.row.toRowW.claim.post args (.bool QW) args=QW:=
 postW_of
  (show WShape.has [] (.bool QW) .bool=QW by first|rfl|decide|simp[WShape.has,WShape.arms,WShape.armsAll])
  (show(WTm.eq .res (.lit (.bool QW))).value [] {args:=args,res:=lD (.bool QW),after:=args}=lD (.bool (QW==QW)) from w_eq_bool (w_res rfl) w_lit) rfl
theorem attach_call {l:OpenLaw} {n:Nat} {q:Rt} {e:List Str} {H:(Str->Option QT)->Heap->Prop} {F:RM->Heap->Prop} {d:DefRec}
  (hn:l.most=lD n) (y:d.params.defaults=[])
  (call:∀(w:RM) (s₀ b:Q0) (mg t:Str->Option QT) (fa:QX) (o:Obj) (p m h:QT) (a:QX) (vs:List QT) (j:List Int),
   Ground q e [] H w s₀ mg t b.heap->F w b.heap->
   b.heap.get? fa=lD o->o.data= .func (docDef d.name d.params d.body d.scope p m h)->b.heap.CodeRec m d.name->mg d.name=lD (.ref fa)->
   b.heap.get? a=lD {cls:= .type "list",data:= .seq vs.toArray}->IntsAre vs j->j.length<=n->b.gens= #[]->
   codeAny (model l.prog w) callerA (.call (.ref fa) ⟨[.ref a],[]⟩) (fun r s'=>r= .ok (.ret (.bool QW))/\OldK b.heap s'.heap/\s'.os=b.os/\AllBare s'.gens) b):
  WalkO q e H F l.row.toRowW d [] (fun f vs=>adB f vs):=by
 intro w s₀ b mg t G Y fa o p m h dV kV K N S C v M E B T A R I u L;obtain rfl:dV= .none:=Dflts.none C y;obtain rfl:kV= .none:=Dflts.noKw C;obtain⟨a,vs,j,rfl,rfl,z,g,i⟩:=Dh hn A u;refine enter_call (WB (call w s₀ b mg t fa o p m h a vs j G Y K (fd_plain N) S v z g i M) fun r s' J=> ?_);obtain⟨rfl,Q,P,O⟩:=J;exact⟨.inl ⟨.bool QW,.bool QW,[],rfl,fun _=>rfl,.bool QW,CH l _,fun _=>⟨VZ,fun _ hm=>(nomatch hm)⟩⟩,Q,P,O⟩
end Att
namespace L2
open PySem PySem.Spec PyProof.Rows
theorem i9:∀{vs:List QT} {a:List Int},IntsAre vs a->Vals (a.map V.int) vs
 |_,_,.nil=> .nil
 |_,_,.cons n t h=> .cons ⟨t,rfl⟩ (i9 h)
def OU (H:Hp):Prop:=∀b,H b=QS\/∃o xs,H b=lD (.frz o (.lst xs))
theorem E3 {P:Rt} {w:RM} {K:QR} {mg G:Str->Option QT} {CX:vX} {k:Nat} {fa a:QX} {fd:Sj} {x:Str} {sp:Sp} {f:Q0} {vs:List QT} {p:List Int}
  (Z:K.In f.heap) (t:f.heap.Ns Rk mg) (g:f.heap.Ns builtinsNs G) (J:∀x:Str,x≠ "__name__"->G x=Sr x) (Q:f.heap.NoLimit) (hg:f.gens= #[])
  (ha:f.heap.get? a=lD {cls:= .type "list",data:= .seq vs.toArray}) (hi:IntsAre vs p) (S:p.length<=Q8) (hr:Tt k callerA)
  (F:∀base:Heap,K.In base->base.Ns Rk mg->FnOk P w K mg base CX k fa fd [x] sp) (R:∀(s:Q0) (u:QT),Wz s fd ⟨[u],[]⟩ [(x,u)])
  (I:∀H:Hp,OU H->VR K H a (p.map V.int)->sp [.ref a] H (fun v _=>v= .bl QW) fun _ _ _=>False)
  (L:∀H e s',CX [] H f (fun _ _ _=>False) e s'->False):
  codeAny (model P w) callerA (.call (.ref fa) ⟨[.ref a],[]⟩) (fun r s'=>r= .ok (.ret (.bool QW))/\OldK f.heap s'.heap/\s'.os=f.os/\AllBare s'.gens) f:=by
 have rv:=i9 hi;have N:=hi.length
 have j:∀H:Hp,OU H->VR K H a (p.map V.int)->Wi P w H f.heap->(∀b,H b≠QS->b=a)->(H a≠QS->K.lookup a=QS)->
   codeAny (model P w) callerA (.call (.ref fa) ⟨[.ref a],[]⟩) (fun r s'=>r= .ok (.ret (.bool QW))/\OldK f.heap s'.heap/\s'.os=f.os/\AllBare s'.gens) f:=by
  intro H T hS Su U hK;have Y:∀{b:QX} {o:Obj},f.heap.get? b=lD o->H b=QS->(vW f.heap H).get? b=lD o:=fun e n=>Fa e n;have E:∀{b:QX} {o:Obj} {A:Array UH} {B:Nat},f.heap.get? b=lD o->o.data= .dict A B->H b=QS:=fun{b o A B} e d=>by
   cases q:H b with
   |none=>rfl
   |some u=>have M:b=a:=U b (by rw[q];simp);subst M;rw[ha] at e;cases e;have d':Data.seq vs.toArray _=Data.dict A B:=d;cases d'
  have i:∀{b:QX} {m:Str->Option QT},f.heap.Ns b m->(vW f.heap H).Ns b m:=fun{b m} ⟨o,A,B,e,d,r⟩=>⟨o,A,B,Y e (E e d),d,r⟩;have y:K.In (vW f.heap H):=fun b o e=>Y (Z b o e) (by
   cases q:H b with
   |none=>rfl
   |some u=>have M:b=a:=U b (by rw[q];simp);subst M;rw[hK (by rw[q];simp)] at e;cases e)
  have hM:Mod K mg (vW f.heap H):=⟨y,i t,⟨G,i g,J⟩,let⟨mc,h1,h2⟩:=Q;⟨mc,i h1,h2⟩⟩;have e0:Env0 P w K mg (vW f.heap H) callerA [] f H:=⟨rfl,hM,fun b o e=>Iw e,ady (Db _ _),trivial,fun b g=>absurd (show b∈([]:List QX) from g) (by simp),Su,.of_eq hg⟩;refine WB ((F _ y (i t)).run callerA [] f H ⟨[.ref a],[]⟩ [.ref a] [.ref a] _ _ hr e0 (R f (.ref a)) (.cons rfl .nil) (I H T hS)) fun r s' h=> ?_;cases r with
  |error e=>exact(L H e s' h).elim
  |ok fl=>
   cases fl with
   |next=>exact False.elim h
   |brk=>exact False.elim h
   |cont=>exact False.elim h
   |ret u=>
    obtain⟨v,H',os,C,un,O,r',q⟩:=h;have q':v= .bl QW:=q;subst q';obtain rfl:u=QT.bool QW:=r';refine⟨rfl,OldK.of_keep fun b o e=> ?_,os,C⟩;cases q:H b with
    |none=>exact un.keep b o e q (by intro z;exact absurd (show b∈([]:List QX) from z) (by simp)) (by simp)
    |some u=>
     rcases T b with z|⟨ob,xs,z⟩
     .rw[q] at z;cases z
     .have z2:=un.XD b ob _ z;obtain⟨X,_⟩:=Su b _ z;obtain⟨e2,_⟩:=O b _ z2;rw[e] at X;cases X;exact e2
 cases hk:K.lookup a with
 |some o=>have e:=Z a o hk;rw[ha] at e;cases e;refine j (fun _=>QS) (fun _=> .inl rfl) (.inr ⟨_,vs.toArray,_,hk,rfl,rfl,rfl,by rw[Q9,N];exact S,by simpa using rv⟩) (fun b u z=>by have l:(QS:Option HO)=lD u:=z;cases l) (fun b z=>absurd rfl z) fun z=>absurd rfl z
 |none=>
  refine j (fun b=>if b=a then lD (.frz {cls:= .type "list",data:= .seq vs.toArray} (.lst (p.map V.int))) else QS) (fun b=> ?_) (.inl (.inr ⟨{cls:= .type "list",data:= .seq vs.toArray},if_pos rfl⟩)) (fun b u z=> ?_) (fun b z=> ?_) fun _=>hk
  .by_cases g:b=a
   .exact .inr ⟨_,_,if_pos g⟩
   .exact .inl (if_neg g)
  .by_cases g:b=a
   .have l:=(if_pos g).symm.trans z;cases l;subst g;exact⟨ha,by rw[QV];exact S,vs,_,rv,ha⟩
   .have l:=(if_neg g).symm.trans z;cases l
  .by_cases g:b=a
   .exact g
   .exact absurd (if_neg g) z
def bf (s:Ts) (j:Nat):Ts:=match s with
 | .ClassDef _ _ _ body _ _ _ _ _ _ _=>body.getD j (.Pass ⟨0,0,0,0⟩)
 |_=> .Pass ⟨0,0,0,0⟩
def fO (s:Ts):Arguments:=match s with
 | .FunctionDef _ a _ _ _ _ _ _ _ _=>a
 |_=>{posonlyargs:=[],args:=[],vararg:=QS,kwonlyargs:=[],kw_defaults:=[],kwarg:=QS,defaults:=[]}
def cr (s:Ts):List Ts:=match s with
 | .FunctionDef _ _ b _ _ _ _ _ _ _=>b
 |_=>[]
def aG (s:Ts):UQ:=match s with
 | .FunctionDef _ _ _ _ _ _ sc _ _ _=>sc
 |_=>{kind:= .function,names:=[],isGenerator:=Q2,isCoroutine:=Q2}
abbrev dm:vX:=fun _ _ _ _ _ _=>False
abbrev E0:XK:=fun _ _ _=>False
theorem BW:fW dm X E0:=fun _ _ _ _ _ _ _ h=>h.elim
structure Ut (K:QR) (x qual:Str) (st:Ts) (f:QX) (fd:Sj):Prop where
 ex:∃(oc:QT) (od:Option QX) (kV doc pm:QT) (an:Option QX) (SE ct:QT) (Y8:Array (Option QT)),
  fd=SN x qual (fO st) (cr st) (aG st) .none kV doc pm an SE ct/\K.lookup f=lD ⟨oc,od,.func fd,Y8⟩/\U5 K SE qual=QW
 kp:SX K (.ref f)=QW
section
variable {P:Rt} {w:RM} {K:QR} {mg:Str->Option QT} {base:Heap}
theorem Ut.ok {x a:Str} {b:Ts} {f:QX} {fd:Sj} {N ps:List Str} {k:Nat} {sp:Sp} (F:Ut K x a b f fd) (S:TN N ps (aG b)) (len:∀vs H Q E,sp vs H Q E->vs.length=ps.length)
  (m:∀(d:QT) (A:RG) (outer:List Env) (s:Q0) (H:Hp) (vs:List V) (Q:VK) (E:XK),Tt k (A.deeper (envOfC a (aG b) s.heap.objs.size f d))->sp vs H Q E->
   ∃t,Xi (fV dm P w K mg base N a (aG b) f d A outer s H E).nox (cr b) t/\t {nx:=fun _ H'=>Q .TL H',rt:=Q} (start N vs) H):FnOk P w K mg base dm (k+1) f fd ps sp:=by
 obtain⟨p,o,kV,j,n,r,d,ct,u,rfl,g,l⟩:=F.ex;refine G0 g l S len fun A outer s H vs Q E i e=> ?_;obtain⟨t,h,q⟩:=m d A outer s H vs Q E i e;exact⟨t,h.nox,q⟩
theorem Ut.binds {x a:Str} {d:Ts} {f:QX} {fd:Sj} {ps:List Str} (F:Ut K x a d f fd)
  (h:∀(kV b e:QT) (g:Option QX) (i ct:QT) (us:List QT),us.length=ps.length->bindArgs (SN x a (fO d) (cr d) (aG d) .none kV b e g i ct) ⟨us,[]⟩=pure (ps.zip us)):Binds K fd ps []:=by
 obtain⟨l,j,kV,b,e,g,i,ct,o,rfl,m,n⟩:=F.ex;exact .all (h kV b e g i ct)
theorem GN {a:Ts} {kV b e d ct:QT} (l:K.lookup f=lD ⟨oc,od,.func (SN x qual (fO a) (cr a) (aG a) .none kV b e an d ct),Y8⟩)
  (c:U5 K d qual=QW) (k:SX K (.ref f)=QW):Ut K x qual a f (SN x qual (fO a) (cr a) (aG a) .none kV b e an d ct):=⟨⟨oc,od,kV,b,e,an,d,ct,Y8,rfl,l,c⟩,k⟩
end
theorem AN (a:Tt k A):A.units+1<cLine:=aaF (Nat.add_le_add_left (by decide:1<=64) _) a.units
section
variable {X:Cx}
theorem pv (i:Nat) (b:X.N[i]? =lD x:=by rfl) (a:Pg X.env.scope x:=by first|exact Or.inl rfl|exact Or.inr (Or.inl rfl)|exact Or.inr (Or.inr rfl)) (hd:(x==("__debug__":Str))=Q2:=by decide)
  (d:(x==("__classdict__":Str))=Q2:=by decide):PE X (.Name x pos) (yh i):=NA b a hd d
end
def S6 (H H':Hp):Prop:=∀b o,H b=lD o->H' b=lD o
theorem S6.refl (H:Hp):S6 H H:=fun _ _ h=>h
theorem S6.trans (a:S6 H H1) (b:S6 H1 H2):S6 H H2:=fun c o h=>b c o (a c o h)
theorem S6.free (e:S6 H H') (h:H' l=QS):H l=QS:=by
 cases q:H l with
 |none=>rfl
 |some o=>rw[e l o q] at h;cases h
end L2
set_option maxHeartbeats 4000000
namespace L2
open PySem PySem.Spec PyProof.Rows
section
variable {X:Cx} {Z:List (QX×Obj)} {σ:St} {H:Hp} {s:Q0} {h':Heap}
theorem Inv.ZL {ch:List QX} (I:Inv X Z σ H s) (h:∀b∈ch,mS X Z H b)
  (k:∀b u,b∉ch->s.heap.get? b=lD u->h'.get? b=lD u) (j:s.heap.objs.size<=p)
  (new:ObjOk X.prog X.w (bC H p o) h' p o):Inv X Z σ (bC H p o) {s with heap:=h',toks:=t'}:=by
 have hn:=I.Su.fresh j;have d:∀b u,H b=lD u->b∉ch:=fun b u e z=>by rw[(h b z).1] at e;cases e
 have g:∀b u,s.heap.get? b=lD u->b≠p:=fun b u e=>Rr (Rq (Heap.lt_size e) j);refine I.step (fun b f=> ?_) (fun b u _ _ a e _=>k b u a e) (fun b u _ _ a e _=>⟨u.slots,k b u a e⟩)
  (fun b u _ e n=>by rw[aH (g b u e)];exact n) (fun b u a e=>⟨u,k b u a e⟩) (fun b xs e=>by rw[aH (b8 e hn)];exact e)
  (fun b u xs e=>by rw[aH (b8 e hn)];exact e) (fun b ps e=>⟨#[],by rw[aH (b8 e hn),e];simp⟩) (fun m hm=> ?_) (fun b u e=> ?_) I.bare
 .obtain⟨_,B,_,A,y,t⟩:=h b f;exact⟨A,B,y,t⟩
 .obtain⟨i,C,E,l,r⟩:=hm;exact⟨i,C,E,k _ i (fun z=>(h _ z).2.1 rfl) l,r⟩
 .by_cases f:b=p
  .subst f;rw[aM] at e;cases e;exact new
  .rw[aH f] at e
   refine(I.Su b u e).Wb (fun c v a q=>k c v ?_ q) (fun c q=>by rw[aH (b8 q hn)];exact q) fun c xs q=>by rw[aH (b8 q hn)];exact q
   rcases a with z|z
   .rw[z];exact d b u e
   .exact d c _ z
end
mutual
inductive DV (K:QR) (H:Hp):V->QZ->Prop
 |TL:DV K H .TL .none
 |bl (b:Bool):DV K H (.bl b) (.bool b)
 |int (i:Int):DV K H (.int i) (.int i)
 |str (x:Str):DV K H (.str x) (.str x)
 |tup {a:QX} {xs:List V} {ds:List QZ}:Vo K H a xs->S0 K H xs ds->DV K H (.ref a) (.tuple ds)
 |lst {a:QX} {xs:List V} {ds:List QZ}:VR K H a xs->S0 K H xs ds->DV K H (.ref a) (.list ds)
inductive S0 (K:QR) (H:Hp):List V->List QZ->Prop
 |nil:S0 K H [] []
 |cons {v:V} {vs:List V} {d:QZ} {ds:List QZ}:DV K H v d->S0 K H vs ds->S0 K H (v::vs) (d::ds)
end
section
variable {X:Cx} {Z:List (QX×Obj)} {σ:St} {H:Hp} {s:Q0}
mutual
theorem DV.reads (I:Inv X Z σ H s):∀{v:V} {d:QZ} {u:QT},DV X.K H v d->RelV v u->∃as,abp s.heap u d as
 |_,_,_,.TL,r=>by cases r;exact⟨_,.none⟩
 |_,_,_,.bl b,r=>by cases r;exact⟨_,.bool b⟩
 |_,_,_,.int i,r=>by obtain⟨t,rfl⟩:=r;exact⟨_,.int i t⟩
 |_,_,_,.str x,r=>by obtain⟨t,rfl⟩:=r;exact⟨_,.str x t⟩
 |_,_,_,.tup h hs,r=>by cases r;obtain⟨a,rv,⟨o,e,c,n,d⟩,_⟩:=I.tuple h;obtain⟨as,q⟩:=S0.reads I hs rv;exact⟨_,.tuple e c d (by simpa using q)⟩
 |_,_,_,.lst h hs,r=>by cases r;obtain⟨a,rv,⟨o,n,e,c,_,d⟩,_⟩:=I.list h;obtain⟨as,q⟩:=S0.reads I hs rv;exact⟨_,.list e c d (by simpa using q)⟩
theorem S0.reads (I:Inv X Z σ H s):∀{vs:List V} {ds:List QZ} {us:List QT},S0 X.K H vs ds->Vals vs us->∃as,Ze s.heap us ds as
 |_,_,_,.nil,r=>by cases r;exact⟨_,.nil⟩
 |_,_,_,.cons h hs,r=>by
  cases r with
  |cons b a=>obtain⟨as,q⟩:=DV.reads I h b;obtain⟨bs,d⟩:=S0.reads I hs a;exact⟨_,.cons q d⟩
end
end
def Jl (K:QR) (neg:Bool):R2:=fun x y H Q=>∃dx dy,DV K H x dx/\DV K H y dy/\dx.canLay0=QW/\dy.canLay0=QW/\dx.depth<=64/\Q (.bl (if neg then !QZ.eqv dx dy else QZ.eqv dx dy)) H
section
variable {X:Cx}
theorem kG (n:X.A.units+64<cLine):OpR X (Tf .Eq) (Jl X.K Q2):=by intro a s m H x y v u Q I d b h;obtain⟨dx,p,l,j,i,g,o,q⟩:=h;obtain⟨r,f⟩:=l.reads I d;obtain⟨bs,e⟩:=j.reads I b;exact afF f e i g (by omega) ⟨.bl _,H,I,rfl,q⟩
theorem sO (n:X.A.units+64<cLine):OpR X (Tf .NotEq) (Jl X.K QW):=by intro a s m H x y v u Q I d b h;obtain⟨dx,p,l,j,i,g,o,q⟩:=h;obtain⟨r,f⟩:=l.reads I d;obtain⟨bs,e⟩:=j.reads I b;exact afG f e i g (by omega) ⟨.bl _,H,I,rfl,q⟩
theorem FR:OpR X (SY .FloorDiv) (rI (fun _ j=>0<j/\j.natAbs.log2<9000) fun i j=> .int (i/j)):=NS fun i j _ _ _ _ _ a q=>by have b:(0:Int)<j:=a.1;exact floordiv_int (by omega) (by rw[Yn i (by omega)];exact q) (.inl (PyProof.noPylong_of_log2 a.2))
end
def ir (env:Env):List (Str×RI)->List (Str×QX)->List (Str×QX)
 |[],acc=>acc
 |(n,k)::r,acc=>if(k==RI.free)=QW then(match env.cells.lookup n with|some c=>ir env r ((n,c)::acc)|none=>ir env r acc) else ir env r acc
theorem mq {f:Str×RI->List (Str×QX)->Sem (ForInStep (List (Str×QX)))}
  (d:∀n k a,(k==RI.free)=Q2->f (n,k) a=pure (.yield a)) (b:∀n c a,env.cells.lookup n=lD c->f (n,.free) a=pure (.yield ((n,c)::a))):
  ∀(names:List (Str×RI)) (a:List (Str×QX)),(∀y∈names,y.2= .free->∃c,env.cells.lookup y.1=lD c)->forIn names a f=pure (ir env names a)
 |[],a,_=>rfl
 |(n,k)::r,a,h=>by
  have g:=fun y j=>h y (Rf _ j);rw[U2];cases hk:(k==RI.free) with
  |false=>rw[d n k a hk,pure_bind];show forIn r a f=_;rw[mq d b r a g];simp only[ir,hk,TJ,if_false]
  |true=>
   have e:k= .free:=by simpa using hk
   subst e;obtain⟨c,i⟩:=h _ Rh rfl;rw[b n c a i,pure_bind];show forIn r ((n,c)::a) f=_;rw[mq d b r _ g];have l:=i;simp only[ir,hk,if_true,l]
theorem rJ (h:∀y∈scope.names,y.2= .free->∃c,env.cells.lookup y.1=lD c):closureFor scope env=pure (ir env scope.names []):=by simp only[closureFor];rw[mq (fun n k a b=>by simp only[b,TJ,if_false]) (fun n c a d=>by simp only[beq_self_eq_true,if_true,cellOf,d,pure_bind]) scope.names [] h,pure_bind]
theorem kE:∀(names:List (Str×RI)) (a:List (Str×QX)),(∀x c,a.lookup x=lD c->env.cells.lookup x=lD c)->∀x c,(ir env names a).lookup x=lD c->env.cells.lookup x=lD c
 |[],_,h,x,c,e=>h x c e
 |(n,k)::r,a,h,x,c,e=>by
  unfold ir at e;split at e
  .split at e
   .rename_i g f
    refine kE r _ (fun y d q=> ?_) x c e;rw[Rn] at q;split at q
    .rename_i b;cases q;rw[eq_of_beq b];exact f
    .exact h y d q
   .exact kE r a h x c e
  .exact kE r a h x c e
theorem k8:∀(names:List (Str×RI)) (a:List (Str×QX)) (x:Str),(a.lookup x).isSome=QW->((ir env names a).lookup x).isSome=QW
 |[],_,_,h=>h
 |(n,k)::r,a,x,h=>by
  unfold ir;split
  .split
   .refine k8 r _ x ?_
    rw[Rn];split
    .rfl
    .exact h
   .exact k8 r a x h
  .exact k8 r a x h
theorem m9:∀(names:List (Str×RI)) (a:List (Str×QX)) (x:Str) (c:QX),(x,RI.free)∈names->env.cells.lookup x=lD c->((ir env names a).lookup x).isSome=QW
 |[],_,_,_,h,_=>by cases h
 |(n,k)::r,a,x,c,h,hc=>by
  rcases Rv.mp h with z|h
  .cases z;simp only[ir,beq_self_eq_true,if_true,hc];exact k8 r _ _ (by simp[Rn])
  .unfold ir
   split
   .split
    .exact m9 r _ x c h hc
    .exact m9 r a x c h hc
   .exact m9 r a x c h hc
theorem yu (h:(x,RI.free)∈names) (a:env.cells.lookup x=lD c):(ir env names []).lookup x=lD c:=by
 have q:=m9 names [] x c h a;cases e:(ir env names []).lookup x with
 |none=>rw[e] at q;cases q
 |some d=>have z:=kE names [] (fun y d q=>by cases q) x d e;rw[a] at z;exact z.symm
theorem wM {env:Env} {a:UQ} {x:Str} {k:RI} (h:(relabel a env).names.lookup x=lD k):∃k0,(x,k0)∈a.names/\(k=k0\/(k0= .free/\k= .cell)):=by
 obtain⟨⟨n,k0⟩,hm,e⟩:=RA.mp (S5 h);simp only at e;split at e
 .rename_i b
  cases e;have d:(k0==RI.free)=QW:=by rw[Rx,Rx] at b;exact b.1.1
  exact⟨k0,hm,.inr ⟨by simpa using d,rfl⟩⟩
 .cases e;exact⟨_,hm,.inl rfl⟩
theorem jG {env:Env}:∀{names:List (Str×RI)} {x:Str},names.lookup x=lD .free->
  (names.map fun(n,k)=>if(k==RI.free&&env.scope.kind== .function&&env.kindOf n==lD .cell) then(n,RI.cell) else(n,k)).lookup x=lD .cell\/
  (names.map fun(n,k)=>if(k==RI.free&&env.scope.kind== .function&&env.kindOf n==lD .cell) then(n,RI.cell) else(n,k)).lookup x=lD .free
 |[],_,h=>by cases h
 |(n,k)::r,x,h=>by
  rw[Rn] at h;rw[Ri];dsimp only;by_cases a:(k==RI.free&&env.scope.kind== .function&&env.kindOf n==lD .cell)=QW
  .rw[if_pos a,Rn]
   cases hx:x==n with
   |true=>exact .inl rfl
   |false=>rw[hx] at h;exact jG h
  .rw[if_neg a,Rn]
   cases hx:x==n with
   |true=>rw[hx] at h;exact .inr h
   |false=>rw[hx] at h;exact jG h
def fR (own:List Str) (a:List (Str×Nat)):List Str:=own++a.map (·.1)
def iY (own:List Str) (b:List (Str×Nat)) (a:St):St:=own.map (fun _=>QS)++b.map fun p=>(a[p.2]?).join
def Zr (X:Cx) (a:UQ):List (Str×Nat)->Prop
 |[]=>True
 |p::r=>(X.N[p.2]? =lD p.1/\a.names.lookup p.1=lD .free/\(X.env.scope.names.lookup p.1=lD .cell\/X.env.scope.names.lookup p.1=lD .free))/\Zr X a r
theorem Zr.mem:∀{a:List (Str×Nat)},Zr X scope a->∀p∈a,X.N[p.2]? =lD p.1/\scope.names.lookup p.1=lD .free/\(X.env.scope.names.lookup p.1=lD .cell\/X.env.scope.names.lookup p.1=lD .free)
 |[],_,p,hp=>by cases hp
 |q::r,h,p,hp=>by
  rcases Rv.mp hp with z|hp
  .rw[z];exact h.1
  .exact h.2.mem p hp
def wx (X:Cx) (a:UQ) (C:QX):List (Str×QX):=Tg (C+1) a.names (ir X.env a.names [])
theorem rM:∀(names:List (Str×RI)) (n:Nat) (b:List (Str×QX)) (x:Str) (c:QX),(Tg n names b).lookup x=lD c->(n<=c/\(x,RI.cell)∈names)\/b.lookup x=lD c
 |[],_,_,_,_,h=> .inr h
 |(y,k)::r,n,b,x,c,h=>by
  unfold Tg at h;by_cases d:(k==RI.cell)=QW
  .rw[if_pos d] at h
   have e:k= .cell:=by simpa using d
   rcases rM r _ _ x c h with⟨a,f⟩|a
   .exact .inl ⟨VG a,Rf _ f⟩
   .rw[Rn] at a
    split at a
    .rename_i g;cases a;exact .inl ⟨Q4 _,by rw[eq_of_beq g,e];exact Rh⟩
    .exact .inr a
  .rw[if_neg d] at h
   rcases rM r _ _ x c h with⟨a,f⟩|a
   .exact .inl ⟨a,Rf _ f⟩
   .exact .inr a
theorem FK:∀(names:List (Str×RI)) (n:Nat) (a:List (Str×QX)) (x:Str),(x,RI.cell)∉names->(Tg n names a).lookup x=a.lookup x
 |[],_,_,_,_=>rfl
 |(y,k)::r,n,a,x,h=>by
  have d:=fun z=>h (Rf _ z);unfold Tg;by_cases b:(k==RI.cell)=QW
  .have e:k= .cell:=by simpa using b
   rw[if_pos b,FK r _ _ x d,Rn];have f:(x==y)=Q2:=by refine beq_eq_false_iff_ne.mpr fun z=>h ?_;rw[z,e];exact Rh
   rw[f]
  .rw[if_neg b];exact FK r _ _ x d
theorem sg:∀(names:List (Str×RI)) (h:Heap) (b:List (Str×QX)) (x:Str) (c:QX),(Tg h.objs.size names b).lookup x=lD c->(h.objs.size<=c/\(pushCells h names).IsCell c QS)\/b.lookup x=lD c
 |[],_,_,_,_,e=> .inr e
 |(y,k)::r,h,b,x,c,e=>by
  unfold Tg at e;unfold pushCells;by_cases d:(k==RI.cell)=QW
  .rw[if_pos d] at e⊢
   rw[<-Heap.size_push h {cls:= .type "cell",data:= .cell QS}] at e;rcases sg r _ _ x c e with⟨a,f⟩|a
   .rw[Heap.size_push] at a;exact .inl ⟨VG a,f⟩
   .rw[Rn] at a
    split at a
    .cases a;exact .inl ⟨Q4 _,_,YM _ _ _ _ (Heap.get?_push_size _ rfl),rfl⟩
    .exact .inr a
  .rw[if_neg d] at e⊢;exact sg r _ _ x c e
theorem Ab:∀(names:List (Str×RI)) (n:Nat) (e:List (Str×QX)),(∀x c,e.lookup x=lD c->c<n)->(∀x y c,e.lookup x=lD c->e.lookup y=lD c->x=y)->∀x y c,(Tg n names e).lookup x=lD c->(Tg n names e).lookup y=lD c->x=y
 |[],_,_,_,h2,x,y,c,e1,e2=>h2 x y c e1 e2
 |(z,k)::r,n,e,h1,h2,x,y,c,e1,e2=>by
  unfold Tg at e1 e2;by_cases h:(k==RI.cell)=QW
  .rw[if_pos h] at e1 e2
   refine Ab r (n+1) ((z,n)::e) (fun a d q=> ?_) (fun a b d g f=> ?_) x y c e1 e2
   .rw[Rn] at q
    split at q
    .cases q;exact UR _
    .exact VH (h1 a d q)
   .rw[Rn] at g f
    split at g
    .rename_i ha
     split at f
     .rename_i i;rw[eq_of_beq ha,eq_of_beq i]
     .cases g;exact absurd (h1 b _ f) (Sy _)
    .split at f
     .cases f;exact absurd (h1 a _ g) (Sy _)
     .exact h2 a b d g f
  .rw[if_neg h] at e1 e2;exact Ab r n e h1 h2 x y c e1 e2
theorem Ae:∀{names:List (Str×RI)} {x:Str} {k a:RI},(names.map (·.1)).Nodup->names.lookup x=lD k->(x,a)∈names->k=a
 |[],_,_,_,_,h,_=>by cases h
 |(y,j)::r,x,k,a,hn,h,hm=>by
  rw[Ri,Sz] at hn;rw[Rn] at h;rcases Rv.mp hm with e|hm'
  .cases e;rw[beq_self_eq_true] at h;exact(Rm h).symm
  .cases hx:x==y with
   |true=>rw[eq_of_beq hx] at hm';exact absurd (RA.mpr ⟨_,hm',rfl⟩) hn.1
   |false=>rw[hx] at h;exact Ae hn.2 h hm'
def dU (X:Cx) (s:Q0) (H:Hp) (a:UQ) (C:QX) (N:List Str) (fp:List QX):Cx:=
 {X with N:=N,s₀:=s,H₀:=H,env:=compEnvC a (wx X a C) C X.env,outer:=X.stack,stack:=X.stack,ex:=fp,fn:=fun x=>((ir X.env a.names []).lookup x).isNone,pn:=[],xe:=fun _ _=>False}
section
variable {X:Cx} {Z:List (QX×Obj)} {Y:St} {H:Hp} {s:Q0}
theorem uj {a:UQ} (I:Inv X Z Y H s) (e:(ir X.env a.names []).lookup x=lD c):X.env.cells.lookup x=lD c/\c<s.heap.objs.size:=by have h:=kE _ _ (fun _ _ q=>by cases q) x c e;obtain⟨v,o,z,_⟩:=I.cell x c h;exact⟨h,Heap.lt_size z⟩
theorem Cn (I:Inv X Z Y H s) (L:scope.kind= .function) (j:(scope.names.map (·.1)).Nodup)
  (G:∀y∈scope.names,y.2= .free->∃c,X.env.cells.lookup y.1=lD c) (f:s.heap.objs.size<=C) (i:∀b∈fp,mS X Z H b) (d:∀b∈fp,b<s.heap.objs.size):(dU X s H scope C N fp).Ok where
 mod:=I.ok.mod
 kind:=L
 glob:=I.ok.glob
 blt:=I.ok.blt
 above:=f
 inj:=Ab _ _ _ (fun x c e=>VH (Rq (uj I e).2 f)) fun x y c u t=>I.ok.inj x y c (uj I u).1 (uj I t).1
 has:=fun x A=>by
  have J:∃k,(relabel scope X.env).names.lookup x=lD k/\(k= .cell\/k= .free):=by
   rcases A with z|z
   .exact⟨_,z,.inl rfl⟩
   .exact⟨_,z,.inr rfl⟩
  obtain⟨k,E,K⟩:=J;obtain⟨v,hm,m⟩:=wM E;have e:v= .free\/v= .cell:=by
   rcases m with z|⟨z,_⟩
   .subst z
    rcases K with z|z
    .exact .inr z
    .exact .inl z
   .exact .inl z
  have q:((wx X scope C).lookup x).isSome=QW:=by
   rcases e with e|e
   .subst e;obtain⟨c,F⟩:=G _ hm rfl;exact Uq _ _ _ (.inr (by rw[yu hm F];rfl))
   .subst e
    refine Uq _ _ _ (.inl ?_);cases z:scope.names.lookup x with
    |none=>exact absurd hm (fun hm=>by
      have:∀{l:List (Str×RI)},l.lookup x=QS->(x,RI.cell)∉l:=fun{l}=>by
       induction l with
       |nil=>exact fun _=>by simp
       |cons p r w=>
        intro h q;rw[Rn] at h;rcases Rv.mp q with q|q
        .rw[<-q,beq_self_eq_true] at h;cases h
        .split at h
         .cases h
         .exact w h q
      exact this z hm)
    |some M=>rw[Ae j z hm]
  exact Yh.mp q
 cab:=fun x c u t=>by
  have g:((ir X.env scope.names []).lookup x).isNone=QW:=u;have n:=t;rcases rM _ _ _ x c n with⟨z,_⟩|z
  .exact RO f (VG z)
  .rw[z] at g;cases g
 hd:=I.ok.hd
 frames:=I.ok.frames
 stk:= .inl rfl
 exf:=fun b a=>⟨Rr (Rq (d b a) f),fun x c e=>by
  rcases rM _ _ _ x c e with⟨z,_⟩|z
  .exact So (Rq (Rq (d b a) f) (VG z))
  .exact(i b a).2.2.2.2.1 x c (uj I z).1⟩
 bs:=I.bs
 bsz:=RO I.ok.bsz I.sz
 YZ:=fun b o e a=>by
  rcases(i b a).2.2.2.1 with z|z
  .exact I.ok.YZ b o e z
  .exact absurd (Rq (Heap.lt_size e) (RO I.ok.bsz z)) (Sy _)
 YV:=fun b a B=>by
  rcases Rv.mp (I.Xr b B) with z|z
  .exact(i b a).2.1 z
  .exact(i b a).2.2.1 z
 WO:=I.stack
 frf:=I.XN
theorem En (I:Inv X Z Y H s) (Vi:scope.kind= .function) (hnd:(scope.names.map (·.1)).Nodup)
  (ZV:∀y∈scope.names,y.2= .free->∃c,X.env.cells.lookup y.1=lD c) (hfv:Zr X scope fv) (hD:s.heap.objs.size<=D) (hDC:D<C) (hC:s.heap.objs.size<=C) (hf:∀b∈fp,mS X Z H b) (hfl:∀b∈fp,b<s.heap.objs.size)
  (hns:h1.Ns C m) (hoc:∀x c,(wx X scope C).lookup x=lD c->C<c->∃v,h1.IsCell c v) (hk:∀b o,s.heap.get? b=lD o->h1.get? b=lD o) (hd:∃n,h1.get? D=lD {cls:= .type "list",data:= .seq #[] n}):
  Inv (dU X s H scope C (fR own fv) fp) [] (iY own fv Y) (bC H D (.lst [])) {s with heap:=h1,toks:=t1}:=by
 have hn:=I.Su.fresh hD;obtain⟨n,hd⟩:=hd;have hCD:=So hDC;have hcs:∀x c,(wx X scope C).lookup x=lD c->C<c\/(X.env.cells.lookup x=lD c/\c<s.heap.objs.size):=fun x c e=>by
  rcases rM _ _ _ x c e with⟨z,_⟩|z
  .exact .inl z
  .exact .inr (uj I z)
 refine⟨Cn I Vi hnd ZV hC hf hfl,rfl,I.bare,Un.laid hk hD hn,⟨m,hns,fun i x v e1 e2 e3=> ?_⟩,fun x c e=> ?_,?_,fun x c e=> ?_,fun p hp=>absurd (show p∈([]:List (QX×Obj)) from hp) (by simp),?_,?_⟩
 .
  have e1':(own++fv.map (·.1))[i]? =lD x:=e1;have e2':(own.map (fun _=>(QS:Option V))++fv.map fun p=>(Y[p.2]?).join)[i]? =lD (lD v):=e2;have hi:own.length<=i:=by
   by_cases hi:i<own.length
   .rw[Ra (by simpa using hi),Q7] at e2'
    cases q:own[i]? with
    |none=>rw[q] at e2';cases e2'
    |some _=>rw[q] at e2';cases e2'
   .omega
  rw[RE hi,Q7] at e1';rw[RE (by simpa using hi),Q7,QV] at e2';cases q:fv[i - own.length]? with
  |none=>rw[q] at e1';cases e1'
  |some p=>
   rw[q] at e1' e2';have ex:=Rm e1';subst ex;have ev:(Y[p.2]?).join=lD v:=Rm e2';obtain⟨g1,g2,g3⟩:=hfv.mem p (Ro q);have ev2:Y[p.2]? =lD (lD v):=by
    cases z:Y[p.2]? with
    |none=>rw[z] at ev;cases ev
    |some y=>rw[z] at ev;exact congrArg lD ev
   obtain⟨m0,_,hl⟩:=I.loc;obtain⟨u,r,l⟩:=hl p.2 p.1 v g1 ev2 (.inr g3);refine⟨u,r,?_⟩;have l2:∃c,X.env.cells.lookup p.1=lD c/\s.heap.IsCell c (lD u):=by
    rcases l with⟨k,_⟩|⟨_,c,e,z⟩
    .have k':X.env.scope.names.lookup p.1=lD .local:=k
     rcases g3 with z|z
     .rw[z] at k';cases k'
     .rw[z] at k';cases k'
    .exact⟨c,e,z⟩
   obtain⟨c,e,o,ho,hdc⟩:=l2;refine .inr ⟨?_,c,?_,o,hk c o ho,hdc⟩
   .exact jG g2
   .show(wx X scope C).lookup p.1=lD c;unfold wx;rw[FK _ _ _ _ fun z=>by cases Ae hnd g2 z];exact yu (S5 g2) e
 .rcases hcs x c e with z|⟨z,_⟩
  .exact hoc x c e z
  .obtain⟨v,o,ho,hdc⟩:=I.cell x c z;exact⟨v,o,hk c o ho,hdc⟩
 .show bC H D (.lst []) C=QS;rw[aH hCD];exact I.Su.fresh hC
 .show bC H D (.lst []) c=QS
  rcases hcs x c e with z|⟨z1,z2⟩
  .rw[aH (So (UD hDC z))];exact I.Su.fresh (RO hC (VV z))
  .rw[aH (Rr (Rq z2 hD))];exact I.UX x c z1
 .exact I.Su.laid hk hD ⟨by show 0<=Q8;exact RZ _,[],n,.nil,hd⟩
 .show(own.map (fun _=>(QS:Option V))++fv.map fun p=>(Y[p.2]?).join).length=(own++fv.map (·.1)).length;simp
end
def Gx (X:Cx) (d:List Sf) (t:TT):Prop:=
 ∀(a:List (QX×Obj)) (s:Q0) (b:St) (H:Hp) (Q:Bool->Hp->Prop),Inv X a b H s->t b H Q->
  wpAny (model X.prog X.w) X.A (forIn d QW fun c r=>if r=QW then do let ok<-isTrue c X.env (eval c X.env);pure (ForInStep.yield ok) else pure (ForInStep.yield r)) (TP X a b Q) X.xe s
def DY:TT:=fun _ H Q=>Q QW H
theorem d8:Gx X [] DY:=fun _ _ _ H _ I h=>wpAny_tests_nil ⟨H,I,h⟩
theorem nv (h:PT X c tc):Gx X [c] tc:=fun a s b H Q I d=>wpAny_tests_one (h a s b H Q I d)
def DG (J:It) (D:QX) (d:St) (g:TG) (j:TT) (h:TE) (n:Hp) (Fin:Hp->Prop):Prop:=
 ∃W:Nat->Nat->St->Hp->Prop,(∃m,W 0 m d (bC n D (.lst [])))/\∀i m σ H,W i m σ H->
  (J.stop i H/\Fin H)\/(J.go i H/\∃N:St->Hp->Prop,(∀σ' H',N σ' H'->∃m',m'<m/\W (i+1) m' σ' H')/\
   ∀x H',J.yld i H x H'->g x σ H' fun a l=>j a l fun b f=>if b=QW then h a f fun y e=>∃ys,e D=lD (.lst ys)/\ys.length<Q8/\N a (bC e D (.lst (ys++[y]))) else N a f)
section
variable {prog:Rt} {w:RM} {A:RG} {s:Q0}
theorem CF {g l d:Sf} {f:List Sf} {b:UQ} {j:Pos} {it i:QT} {env:Env} {R:Xj->Q0->Prop} {XE:QT->Q0->Prop} (y:∀x s1,XE x s1->notedBy (model prog w) A env (fun e s2=>R (.error e) s2) x s1) (I:Nat->Q0->Prop)
  (turn:∀n s,I n s->wpAny (model prog w) A (pyNext it) (fun r s1=>match r with
   |none=>R (.ok .next) s1
   |some v=>wpAny (model prog w) A (letOwnedTupleGo l it v) (fun _ s2=>wpAny (model prog w) A (assign l env v) (fun _ s3=>
     wpAny (model prog w) A (forIn f QW fun c r=>if r=QW then do let ok<-isTrue c env (eval c env);pure (ForInStep.yield ok) else pure (ForInStep.yield r)) (fun ok s4=>
      if ok=QW then wpAny (model prog w) A (eval g env) (fun x s5=>
       wpAny (model prog w) A (call (.builtin "list.append") [i,x]) (fun _ s6=>∃m,m<n/\I m s6) (fun _ _=>False) s5) XE s4
      else∃m,m<n/\I m s4) (fun _ _=>False) s3) (fun _ _=>False) s2) (fun _ _=>False) s1) (fun _ _=>False) s)
  (n:Nat) (h:I n s):codeAny (model prog w) A (.compLoop (.ListComp g [⟨l,d,f,0⟩] b j) 0 it i env) R s:=by
 refine codeAny_loop rfl I (fun n s B=> ?_) n h;show wpAny _ A (Sem.onRaise (compTurn (.ListComp g [⟨l,d,f,0⟩] b j) 0 it i env) (fun x=>do noteFrame x env;theTreesLotGoes x)) _ _ s;refine wpAny_noted ?_;rw[compTurn_list]
 have no:∀{α:Type} {t:Sem α} {Q u:α->Q0->Prop} {E:QT->Q0->Prop} {s:Q0},wpAny (model prog w) A t Q (fun _ _=>False) s->(∀a s',Q a s'->u a s')->wpAny (model prog w) A t u E s:=
  fun o p=>wpAny_mono o p fun _ _ z=>False.elim z
 refine Ld (TC (Ld (no (turn n s B) fun r s1 o=> ?_)));cases r with
 |none=>exact Q1 o
 |some v=>
  refine Ld (no o fun _ s2 p=>Ld (no p fun _ s3 G=>Ld (no G fun ok s4 q=> ?_)));cases ok with
  |false=>exact Q1 ⟨rfl,q⟩
  |true=>exact Ld (Ld (wpAny_mono q (fun x s5 F=>Ld (no F fun _ s6 C=>Q1 (Q1 ⟨rfl,C⟩))) y))
end
section
variable {X:Cx} {Z:List (QX×Obj)} {Y:St} {H:Hp} {s:Q0}
theorem vR
  (h:Q (newEnv scope s.heap.objs.size globals (Tg (s.heap.objs.size+1) scope.names closure) qual QS .none (lD env) builtinsNs) {s with heap:=pushCells (s.heap.push {cls:= .type "dict",data:= .dict #[]}) scope.names}):
  wpAny M A (newFunctionEnv scope globals closure [] qual QS .none (lD env)) Q E s:=by
 simp only[newFunctionEnv,ZN,if_true];refine Ld (wpAny_alloc ?_);refine Ld (wpAny_layCells _ (fun d a b=>by cases hkc:a==RI.cell<;>simp[hkc]) _ _ _ _ ?_);rw[show({s with heap:=s.heap.push {cls:= .type "dict",data:= .dict #[]}}:Q0).heap.objs.size=s.heap.objs.size+1 from Heap.size_push ..];rw[Wt];exact Ld (Q1 (Q1 h))
theorem sU {P tg q:Sf} {F:List Sf} {scope:UQ} {pos:Pos} {own:List Str} {h:List (Str×Nat)} {g:TG} {tc:TT} {te:TE} {E:QT->Q0->Prop} {it:QX} {fp:List QX} {tn:Nat->Heap->Prop} {J:It} {Fin:QX->Hp->Prop}
  {RR:QT->QX->Xj->Q0->Prop} (I:Inv X Z Y H s) (hc:X.calm=QW) (Vi:scope.kind= .function) (hnd:(scope.names.map (·.1)).Nodup) (ZV:∀y∈scope.names,y.2= .free->∃c,X.env.cells.lookup y.1=lD c) (hfv:Zr X scope h)
  (T:Turn X.prog X.w X.K tg J fp it tn) (st:tn 0 s.heap) (L:∀b∈fp,mS X Z H b)
  (hg:∀C,PG (dU X s H scope C (fR own h) fp) tg g) (ht:∀C,Gx (dU X s H scope C (fR own h) fp) F tc) {W:QX->QT->Q0->Prop} (he:∀C,PE ((dU X s H scope C (fR own h) fp).WU (W C)) P te) (hEE:∀D C x s1,s.heap.objs.size<=C->W C x s1->notedBy (model X.prog X.w) X.A (compEnvC scope (wx X scope C) C X.env) (fun e s2=>RR (.ref D) C (.error e) s2) x s1)
  (hR:∀D,H D=QS->DG J D (iY own h Y) g tc te H (Fin D))
  (hRR:∀D C H' s',Inv X Z Y H' s'->Fin D H'->(∃m,s'.heap.Ns C m)->s.heap.objs.size<=C->H' C=QS->RR (.ref D) C (.ok .next) s'):
  wpAny (model X.prog X.w) X.A (newList []) (fun acc s3=>wpAny (model X.prog X.w) X.A (newFunctionEnv scope X.env.globals (ir X.env scope.names []) [] X.env.qual QS .none (lD X.env)) (fun adN s4=>
   codeAny (model X.prog X.w) X.A (.compStart (.ListComp P [⟨tg,q,F,0⟩] scope pos) 0 (.ref it) acc {adN with scope:=relabel scope X.env}) (RR acc adN.locals) s4) E s3) E s:=by
 refine Sb ?_;generalize hH2:s.heap.push {cls:= .type "list",dict:=QS,data:= .seq ([]:List QT).toArray}=h2;have hz:h2.objs.size=s.heap.objs.size+1:=by rw[<-hH2,Heap.size_push]
 refine vR (s:={s with heap:=h2}) ?_;have M:s.heap.objs.size<h2.objs.size:=by rw[hz];exact UR _
 have hC:s.heap.objs.size<=h2.objs.size:=VV M;generalize hH1:pushCells (h2.push {cls:= .type "dict",data:= .dict #[]}) scope.names=h1;have kp2:∀b o,h2.get? b=lD o->h1.get? b=lD o:=fun b o e=>by rw[<-hH1];exact YM _ _ b o (Heap.get?_push_of_some _ e)
 have kp:∀b o,s.heap.get? b=lD o->h1.get? b=lD o:=fun b o e=>kp2 b o (by rw[<-hH2];exact Heap.get?_push_of_some _ e);have hns:h1.Ns h2.objs.size (fun _=>QS):=by rw[<-hH1];exact(Heap.Ns.new h2 (.type "dict")).keeps (YM _ _)
 have hoc:∀x c,(wx X scope h2.objs.size).lookup x=lD c->h2.objs.size<c->∃v,h1.IsCell c v:=fun x c e Va=>by
  have e':(Tg (h2.push {cls:= .type "dict",data:= .dict #[]}).objs.size scope.names (ir X.env scope.names [])).lookup x=lD c:=by rw[Heap.size_push];exact e
  rcases sg _ _ _ x c e' with⟨_,z⟩|z
  .exact⟨QS,by rw[<-hH1];exact z⟩
  .exact absurd (UD (uj I z).2 (UD M Va)) (Sy _)
 have hd:∃n,h1.get? s.heap.objs.size=lD {cls:= .type "list",data:= .seq #[] n}:=⟨0,kp2 _ _ (by rw[<-hH2];exact Heap.get?_push_size _ rfl)⟩;have G:∀b∈fp,b<s.heap.objs.size:=fun b f=>by obtain⟨o,e,_⟩:=T.obj 0 _ st b f;exact Heap.lt_size e
 have hn:H s.heap.objs.size=QS:=I.Su.fresh (Q4 _);obtain⟨W,⟨m0,w0⟩,turn⟩:=hR s.heap.objs.size hn;have O:∀{pl:List (QX×Obj)} {H':Hp},(∀b∈fp,H' b=QS)->(∀p∈pl,p.1∉fp)->∀b∈fp,mS (dU X s H scope h2.objs.size (fR own h) fp) pl H' b:=fun{pl H'} hn' XM b f=>by have ok:=Cn (C:=h2.objs.size) (N:=fR own h) I Vi hnd ZV hC L G;exact⟨hn' b f,(ok.exf b f).1,ok.YV b f,.inl f,(ok.exf b f).2,fun p hp=>by have hp':p∈([]:List (QX×Obj))++pl:=hp;intro z;exact XM p (by simpa using hp') (by rw[z];exact f)⟩
 have l:∀s4:Q0,s4={s with heap:=h1}->
   codeAny (model X.prog X.w) X.A (.compLoop (.ListComp P [⟨tg,q,F,0⟩] scope pos) 0 (.ref it) (.ref s.heap.objs.size) (compEnvC scope (wx X scope h2.objs.size) h2.objs.size X.env)) (RR (.ref s.heap.objs.size) h2.objs.size) s4:=by
  rintro s4 rfl
  have I0:Inv (dU X s H scope h2.objs.size (fR own h) fp) [] (iY own h Y) (bC H s.heap.objs.size (.lst [])) {s with heap:=h1}:=
   En I Vi hnd ZV hfv (Q4 _) M hC L G hns hoc kp hd
  have st0:tn 0 h1:=T.keep 0 _ _ st fun b _ o e=>kp b o e;have fr0:∀b∈fp,(bC H s.heap.objs.size (.lst [])) b=QS:=fun b f=>by rw[aH (Rr (G b f))];exact(L b f).1
  refine CF (fun x s1 z=>hEE _ _ x s1 hC z) (fun n s'=>∃i σ' H',Inv (dU X s H scope h2.objs.size (fR own h) fp) [] σ' H' s'/\tn i s'.heap/\(∀b∈fp,H' b=QS)/\W i n σ' H') ?_ m0 ⟨0,_,_,I0,st0,fr0,w0⟩;rintro n s5 ⟨i,j,H5,I5,st5,fr5,w5⟩;rcases turn i n j H5 w5 with⟨stop,fin⟩|⟨go,N,hN,step⟩
  .refine cB (T.done (dU X s H scope h2.objs.size (fR own h) fp) rfl rfl rfl hc i [] s5 j H5 (fun _ _=>False) I5 (O fr5 (by simp)) st5 stop) fun r s6 ⟨hr,S⟩=> ?_;subst hr;obtain⟨mm,hm,_⟩:=S.loc;refine hRR _ _ H5 s6 ?_ fin ⟨mm,hm⟩ hC S.free;exact I.aaX (ch:=fp) S.os S.base S.Su S.bare fun b f=>⟨(L b f).2.2.2.1,(L b f).2.1,(L b f).2.2.2.2.1,(L b f).2.2.2.2.2⟩
  .refine cB (T.item (dU X s H scope h2.objs.size (fR own h) fp) rfl rfl rfl hc i [] s5 j H5 (fun _ _=>False) I5 (O fr5 (by simp)) st5 go) fun r s6 ⟨u,hr,h6⟩=> ?_
   subst hr;refine cB h6 fun _ s7 ⟨x,H7,I7,r7,y7,B,fr7⟩=> ?_;have I7':=I7.pinned (fp:=fp) (O fr7 (by simp)) (T.obj _ _ B);have t:∀{a:St} {Q:Hp} {R:Q0},Inv (dU X s H scope h2.objs.size (fR own h) fp) ([]++rG fp s7.heap) a Q R->N a Q->∃m,m<n/\∃i σ' H',Inv (dU X s H scope h2.objs.size (fR own h) fp) [] σ' H' R/\tn i R.heap/\(∀b∈fp,H' b=QS)/\W i m σ' H':=fun{a Q R} I8 n8=>by obtain⟨m',hm,w8⟩:=hN a Q n8;refine⟨m',hm,i+1,a,Q,I8.W8,T.keep _ _ _ B fun b f o e=>(I8.pin (b,o) (RY _ (RY _ (jS f e)))).1,fun b f=> ?_,w8⟩;obtain⟨o,e,d⟩:=T.obj _ _ B b f;exact(I8.pin (b,o) (RY _ (RY _ (jS f e)))).2.1
   refine cB (hg _ _ s7 j H7 x u _ I7' r7 (step x H7 y7)) fun _ R ⟨a,Q,I8,q8⟩=> ?_;refine cB (ht _ _ R a Q _ I8 q8) fun ok s9 ⟨H9,I9,q9⟩=> ?_;cases ok with
   |false=>rw[if_neg Rc] at q9⊢;exact t I9 q9
   |true=>rw[if_pos rfl] at q9⊢;refine cB (he _ _ s9 a H9 _ (I9.WU _) q9) fun y s10 ⟨U,H10,afV,r10,ys,hy,hl,q10⟩=> ?_;have I10:=afV.U8;refine cB (jr _ s10 a H10 (.ref s.heap.objs.size) [U] (.ref s.heap.objs.size) [y] (fun _ H11=>N a H11) I10 rfl (.cons r10 .nil) ⟨_,ys,U,rfl,rfl,hy,hl,q10⟩) fun _ s11 ⟨v11,H11,I11,_,q11⟩=> ?_;exact t I11 q11
 exact codeAny_compStart_list (l _ rfl) (T.self _ 0 _ _ _ (T.keep 0 _ _ st fun b _ o e=>kp b o e) (l _ rfl))
def yw (own:List Str) (f:List (Str×Nat)) (b:TI) (g:TG) (e:TT) (d:TE):TE:=fun Y H Q=>b Y H fun J a=>∀D,a D=QS->DG J D (iY own f Y) g e d a fun h=>Q (.ref D) h
theorem p9 {a:UQ} (ok:X.Ok) (h:∀y∈a.names,y.2= .free->(X.env.scope.names.lookup y.1=lD .cell\/X.env.scope.names.lookup y.1=lD .free)):∀y∈a.names,y.2= .free->∃c,X.env.cells.lookup y.1=lD c:=
 fun y b e=>ok.has y.1 (h y b e)
theorem Lf {a b:UQ} (h:(a.names.all fun y=> !(y.2==RI.free)||(b.names.lookup y.1==lD RI.cell)||(b.names.lookup y.1==lD RI.free))=QW):
  ∀y∈a.names,y.2= .free->(b.names.lookup y.1=lD .cell\/b.names.lookup y.1=lD .free):=fun y d e=>by
 have q:=T8.mp h y d;rw[e] at q
 simpa using q
theorem fu {elt tg iter:Sf} {ifs:List Sf} {scope:UQ} {pos:Pos} (own:List Str) (fv:List (Str×Nat)) {wi:TI} {g:TG} {tc:TT} {te:TE} (hc:X.calm=QW) (hi:PI X tg iter wi)
  (hg:∀s H C fp,PG (dU X s H scope C (fR own fv) fp) tg g) (ht:∀s H C fp,Gx (dU X s H scope C (fR own fv) fp) ifs tc) (he:∀s H C fp,PE (dU X s H scope C (fR own fv) fp) elt te) (hfv:Zr X scope fv)
  (acM:(scope.names.all fun y=> !(y.2==RI.free)||(X.env.scope.names.lookup y.1==lD RI.cell)||(X.env.scope.names.lookup y.1==lD RI.free))=QW)
  (Vi:scope.kind= .function:=by rfl) (hnd:(scope.names.map (·.1)).Nodup:=by left)
  (Zp:∀y∈scope.names,y.2= .local->scope.names.lookup y.1=lD .local:=by left) (hs:∀x,foldedSetIterable iter X.env x=pure x:=by intro _;rfl):
  PE X (.ListComp elt [⟨tg,iter,ifs,0⟩] scope pos) (yw own fv wi g tc te):=by
 intro Z s Y H Q I h;have ZV:=Lf acM;rw[eval_ListComp];refine Z9 (use:=QS) rfl hs (rJ (p9 I.ok ZV)) Vi Zp (cB (hi Z s Y H _ I h) fun xv s1 h1=>cB h1 fun itv s2 h2=> ?_);obtain⟨it,fp,tn,J,H2,e,I2,T,st2,f2,R⟩:=h2;subst e;refine sU I2 hc Vi hnd (p9 I.ok ZV) hfv T st2 f2 (fun C=>hg _ _ C _) (fun C=>ht _ _ C _) (W:=fun _ _ _=>False) (fun C=>he _ _ C _) (fun _ _ _ _ _ z=>z.elim) (Fin:=fun D H'=>Q (.ref D) H') R ?_;intro D C H' s' I' fin hm hC hn;obtain⟨m,hm⟩:=hm;refine⟨m,hm,fun h' hs'=>⟨.ref D,H',?_,rfl,fin⟩⟩;obtain⟨f0,f1,_,f3,f4,f5⟩:=I2.YY hC hn;exact I'.turned (t':=s'.toks) (fun b o hb q=>(hs'.2 b hb).trans q) f0 f1 f3 f4 f5
theorem pZ {elt tg iter:Sf} {ifs:List Sf} {scope:UQ} {pos adK py:Pos} {i:Nat} {x:Str} (own:List Str) (fv:List (Str×Nat)) {wi:TI} {g:TG} {tc:TT} {te:TE} (hN:X.N.Nodup) (hi':X.N[i]? =lD x) (hx:X.env.scope.names.lookup x=lD .local)
  (hc:X.calm=QW) (hi:PI X tg iter wi)
  (hg:∀s H C fp,PG (dU X s H scope C (fR own fv) fp) tg g) (ht:∀s H C fp,Gx (dU X s H scope C (fR own fv) fp) ifs tc) (he:∀s H C fp,PE (dU X s H scope C (fR own fv) fp) elt te) (hfv:Zr X scope fv)
  (acM:(scope.names.all fun y=> !(y.2==RI.free)||(X.env.scope.names.lookup y.1==lD RI.cell)||(X.env.scope.names.lookup y.1==lD RI.free))=QW)
  (hsw:SU (.ListComp elt [⟨tg,iter,ifs,0⟩] scope pos) (lD (.Name x py)) adK.line X.env=pure QW:=by rfl)
  (Vi:scope.kind= .function:=by rfl) (hnd:(scope.names.map (·.1)).Nodup:=by left)
  (Zp:∀y∈scope.names,y.2= .local->scope.names.lookup y.1=lD .local:=by left) (hs:∀x,foldedSetIterable iter X.env x=pure x:=by intro _;rfl):
  PS X (.Assign [.Name x py] (.ListComp elt [⟨tg,iter,ifs,0⟩] scope pos) adK) (CK (yw own fv wi g tc te) (ug i)):=by
 intro Z s Y H D I h;have ZV:=Lf acM;rw[exec_Assign_Name_used _ _ _ _ hsw];refine Ld (TC (Ld ?_));show wpAny _ _ (do let _<-comprehension (.ListComp elt [⟨tg,iter,ifs,0⟩] scope pos) scope X.env _ (newList []) Q2 (eval iter X.env) (lD (assign (.Name x py) X.env))) _ _ s;refine Ld (cB (Z9 (use:=lD (assign (.Name x py) X.env)) (Q:=fun _ s'=>SP X Z D .next s') rfl hs (rJ (p9 I.ok ZV)) Vi Zp
  (cB (hi Z s Y H _ I h) fun xv s1 h1=>cB h1 fun itv s2 h2=> ?_)) fun _ s' q=>Q1 (Q1 q))
 obtain⟨it,fp,tn,J,H2,e,I2,T,st2,f2,R⟩:=h2;subst e;refine sU I2 hc Vi hnd (p9 I.ok ZV) hfv T st2 f2 (fun C=>hg _ _ C _) (fun C=>ht _ _ C _) (W:=fun _ _ _=>False) (fun C=>he _ _ C _) (fun _ _ _ _ _ z=>z.elim) (Fin:=fun L H'=>D.nx (Y.set i (lD (.ref L))) H') R ?_;intro L C H' s' I' fin hm hC hn;obtain⟨m,hm⟩:=hm;obtain⟨f0,f1,f2',f3,f4,f5⟩:=I2.YY hC hn;show wpAny _ _ (assign (.Name x py) X.env (.ref L)) _ _ s';refine acV (uy I' hN hi' (.inl hx) (v:= .ref L) rfl (fun s'' I'' ⟨a,sb,ha⟩=> ?_) (.inr hx));have hCa:C≠a:=by
  rcases ha with z|z
  .rw[z];exact f1
  .exact fun q=>f4 x a z q.symm
 refine⟨m,hm.sameBut sb hCa,fun h' hs'=>⟨_,H',?_,fin⟩⟩;exact I''.turned (t':=s''.toks) (fun b o hb q=>(hs'.2 b hb).trans q) f0 f1 f3 f4 f5
end
def xk (P:Rt) (w:RM) (K:QR) (mg:Str->Option QT) (base:Heap) (k:Nat) (x:Str) (ps:List Str) (sp:Sp):Prop:=
 ∃(f:QX) (a:Sj),FnOk P w K mg base dm k f a ps sp/\Binds K a ps []/\SX K (.ref f)=QW/\mg x=lD (.ref f)
theorem c9 (C:xk X.prog X.w X.K X.mg X.base k x ps sp) (g:Tt j X.A) (ha:PA X (e::es) t) (a:k<=j:=by decide) (h:Gl X x:=by rfl)
  (l:(x==("__debug__":Str))=Q2:=by decide) (i:Ru (e::es) X.env=(Q2,eval e X.env)::Ru es X.env:=by rfl) (n:(backTo pos (Ru es X.env)).any (·.1)=Q2:=by rfl):
  PE X (.Call (.Name x p) (e::es) [] pos) (ng sp [] E0 t):=by
 obtain⟨f,o,F,b,d,m⟩:=C;exact Cp F (g.mono a) h m d b .nil BW ha l i n
section
variable {Z:St} {H:Hp} {Q:VK} {D:Ends}
theorem M3 (h:t {D with nx:=u D} Z H):HH t u D Z H:=h
theorem ND (h:te Z H fun x H1=>g x Z H1 D.nx):CK te g D Z H:=h
theorem Ih {Q:St->Hp->Prop} (h:Q (Z.set i (lD v)) H):ug i v Z H Q:=h
theorem Qd (h:Q v H):tC v Z H Q:=h
theorem Ja (h:te Z H fun _ H1=>D.nx Z H1):Bq te D Z H:=h
end
theorem Lo {α:Type} {xs:List α} {i:Int} {v:α} (a:0<=i) (h:xs[i.toNat]? =lD v):lx xs i=lD v:=by have q:=BQ h;rwa [W4 a] at q
theorem S6.tup {K:QR} (e:S6 H H') (h:Vo K H a xs):Vo K H' a xs:=by
 rcases h with(h|⟨o,h⟩)|h
 .exact .inl (.inl (e _ _ h))
 .exact .inl (.inr ⟨o,e _ _ h⟩)
 .exact .inr h
theorem b4 (h:H p=QS) (o:HO):S6 H (bC H p o):=fun b u q=>by rw[aH (b8 q h)];exact q
theorem K2:Sr "max"=lD (.builtin "max"):=by left
theorem ie:Sr "len"=lD (.builtin "len"):=by left
theorem wN:Sr "sorted"=lD (.builtin "sorted"):=by left
theorem Hh:Sr "all"=lD (.builtin "all"):=by left
theorem KY:Sr "any"=lD (.builtin "any"):=by left
theorem zA:Sr "list"=lD (.type "list"):=by left
theorem qC:Sr "tuple"=lD (.type "tuple"):=by left
section
variable {X:Cx}
theorem xQ:Us X (.builtin "sorted") (fun xs H Q=>∃(p:QX) (f:List Int),xs=[.ref p]/\VR X.K H p (f.map V.int)/\f.length<64/\∀(l:QX) (a:List Int),H l=QS->a.Perm f->a.Pairwise (·<=·)->Q (.ref l) (bC H l (.lst (a.map V.int)))):=by
 intro i s C H xs E Q I r h;obtain⟨p,f,rfl,t,y,q⟩:=h;obtain⟨u,rfl,m⟩:=kM r;cases m;obtain⟨B,rv,pl,G⟩:=I.list t;have v:=rv.length;rw[QV] at v;refine sorted_ints pl.isList (l8 rv) (by omega) fun d a hi j n=> ?_;obtain⟨e,w⟩:=sortedAll_at s.heap B d;have g:a.length=f.length:=j.length_eq;have A:d.toList.length=a.length:=hi.length;refine⟨.ref (s.heap.objs.size+1),_,I.laid (t':=s.toks) (o:= .lst (a.map V.int)) (fun b F z=>sortedAll_old z) (X5 _) ?_,rfl,q _ a (I.Su.fresh (X5 _)) j n⟩;refine⟨?_,d.toList,e,i9 hi,w⟩;rw[QV,g];have:(64:Nat)<=Q8:=by decide
 omega
end
end L2
namespace L3
open PySem L2
abbrev D:=QZ
inductive PV where
 |fz (d:D)
 |ow (ds:List D)
 |pl (i:Nat)
abbrev bt:=List (Option PV)
structure Xc where
 cls:Str
 fs:List (Str×D)
inductive Res (α:Type) where
 |ok (a:α)
 |er (x:Xc)
 |bad
namespace Res
def bind (r:Res α) (f:α->Res β):Res β:=match r with
 | .ok a=>f a
 | .er x=> .er x
 | .bad=> .bad
def Sh:Option α->Res α
 |some a=> .ok a
 |none=> .bad
theorem bind_ok (a:α) (f:α->Res β):(Res.ok a).bind f=f a:=rfl
end Res
abbrev ci:=QX->Prop
def cj (O:ci) (p:QX):ci:=fun b=>O b\/b=p
def GQ (O:ci) (p:QX):ci:=fun b=>O b/\b≠p
def Y9:ci:=fun _=>False
def Ev (O:ci) (H:Hp) (a:ci) (H':Hp):Prop:=∀b o,H b=lD o->¬O b->H' b=lD o/\¬a b
theorem Ev.refl:Ev O H O H:=fun _ _ h n=>⟨h,n⟩
theorem Ev.trans (a:Ev O H O1 H1) (b:Ev O1 H1 O2 H2):Ev O H O2 H2:=fun p o h n=>let⟨h1,n1⟩:=a p o h n;b p o h1 n1
theorem Ev.grow (s:S6 H H'):Ev O H O H':=fun b o h n=>⟨s b o h,n⟩
theorem Ev.add (s:S6 H H') (a:H p=QS):Ev O H (cj O p) H':=fun b o h n=>⟨s b o h,fun z=>z.elim n fun e=>by subst e;rw[h] at a;cases a⟩
theorem Ev.sub (h:∀b,O' b->O b):Ev O H O' H:=fun b o e n=>⟨e,fun z=>n (h b z)⟩
theorem Ev.mut (a:O p) (u:HO):Ev O H O (bC H p u):=fun b o h n=>⟨by rw[aH (fun e=>n (by rw[e];exact a))];exact h,n⟩
def Vb (K:QR) (H:Hp) (a:QX) (xs:List V):Prop:=Rd H a (.lst xs)\/∃(b:List QT) (n:Nat),K.lookup a=lD {cls:= .type "list",data:= .seq b.toArray n}/\xs.length<=Q8/\Vals xs b
theorem Vb.sq (h:Vb K H a xs):VR K H a xs:=by
 rcases h with h|⟨RQ,n,h1,h2,h3⟩
 .exact .inl h
 .exact .inr ⟨_,RQ.toArray,n,h1,rfl,rfl,rfl,by rw[Q9,<-h3.length];exact h2,by simpa using h3⟩
theorem Vb.of (h:H a=lD (.lst xs)):Vb K H a xs:= .inl (.inl h)
theorem Vb.same (e:S6 H H') (h:Vb K H a xs):Vb K H' a xs:=by
 rcases h with(h|⟨o,h⟩)|h
 .exact .inl (.inl (e _ _ h))
 .exact .inl (.inr ⟨o,e _ _ h⟩)
 .exact .inr h
theorem lj (H:Hp):S6 (fun _=>QS) H:=fun _ _ h=>by cases h
def XF (O:ci) (K:QR) (H:Hp) (a:QX) (xs:List V):Prop:=Vb K H a xs/\(O a->Vb K (fun _=>QS) a xs)
def V2 (O:ci) (K:QR) (H:Hp) (a:QX) (xs:List V):Prop:=Vo K H a xs/\(O a->Vo K (fun _=>QS) a xs)
section
variable {O Z:ci} {K:QR} {H H':Hp} {a:QX} {xs:List V}
theorem XF.ev (h:XF O K H a xs) (e:Ev O H Z H'):XF Z K H' a xs:=by
 obtain⟨h,k⟩:=h;by_cases z:O a
 .exact⟨Vb.same (lj H') (k z),fun _=>k z⟩
 .rcases h with(h|⟨o,h⟩)|h
  .obtain⟨d,b⟩:=e a _ h z;exact⟨.inl (.inl d),fun y=>absurd y b⟩
  .obtain⟨d,b⟩:=e a _ h z;exact⟨.inl (.inr ⟨o,d⟩),fun y=>absurd y b⟩
  .exact⟨.inr h,fun _=> .inr h⟩
theorem V2.ev (h:V2 O K H a xs) (e:Ev O H Z H'):V2 Z K H' a xs:=by
 obtain⟨h,k⟩:=h;by_cases z:O a
 .exact⟨(lj H').tup (k z),fun _=>k z⟩
 .rcases h with(h|⟨o,h⟩)|h
  .obtain⟨d,b⟩:=e a _ h z;exact⟨.inl (.inl d),fun y=>absurd y b⟩
  .obtain⟨d,b⟩:=e a _ h z;exact⟨.inl (.inr ⟨o,d⟩),fun y=>absurd y b⟩
  .exact⟨.inr h,fun _=> .inr h⟩
end
mutual
inductive DV (O:ci) (K:QR) (H:Hp):V->D->Prop
 |TL:DV O K H .TL .none
 |bl (b:Bool):DV O K H (.bl b) (.bool b)
 |int (i:Int):DV O K H (.int i) (.int i)
 |str (x:Str):DV O K H (.str x) (.str x)
 |tup {a:QX} {xs:List V} {ds:List D}:V2 O K H a xs->S0 O K H xs ds->DV O K H (.ref a) (.tuple ds)
 |lst {a:QX} {xs:List V} {ds:List D}:XF O K H a xs->S0 O K H xs ds->DV O K H (.ref a) (.list ds)
inductive S0 (O:ci) (K:QR) (H:Hp):List V->List D->Prop
 |nil:S0 O K H [] []
 |cons {v:V} {vs:List V} {d:D} {ds:List D}:DV O K H v d->S0 O K H vs ds->S0 O K H (v::vs) (d::ds)
end
section
variable {O Z:ci} {K:QR} {H H':Hp}
mutual
theorem DV.ev (e:Ev O H Z H'):∀{v:V} {d:D},DV O K H v d->DV Z K H' v d
 |_,_,.TL=> .TL
 |_,_,.bl b=> .bl b
 |_,_,.int i=> .int i
 |_,_,.str x=> .str x
 |_,_,.tup h hs=> .tup (h.ev e) (S0.ev e hs)
 |_,_,.lst h hs=> .lst (h.ev e) (S0.ev e hs)
theorem S0.ev (e:Ev O H Z H'):∀{vs:List V} {ds:List D},S0 O K H vs ds->S0 Z K H' vs ds
 |_,_,.nil=> .nil
 |_,_,.cons h hs=> .cons (DV.ev e h) (S0.ev e hs)
end
theorem S0.length:∀{vs:List V} {ds:List D},S0 O K H vs ds->vs.length=ds.length
 |_,_,.nil=>rfl
 |_,_,.cons _ t=>by rw[Rg,Rg,t.length]
theorem S0.get:∀{vs:List V} {ds:List D} {i:Nat} {d:D},S0 O K H vs ds->ds[i]? =lD d->∃v,vs[i]? =lD v/\DV O K H v d
 |_,_,_,_,.nil,e=>by simp at e
 |_,_,0,_,.cons h _,e=>by simp at e;subst e;exact⟨_,rfl,h⟩
 |_,_,i+1,d,.cons _ t,e=>by obtain⟨v,b,a⟩:=S0.get t (by simpa using e);exact⟨v,by simpa using b,a⟩
theorem S0.acT:∀{vs:List V} {ds:List D} {i:Nat} {v:V},S0 O K H vs ds->vs[i]? =lD v->∃d,ds[i]? =lD d/\DV O K H v d
 |_,_,_,_,.nil,e=>by simp at e
 |_,_,0,_,.cons h _,e=>by simp at e;subst e;exact⟨_,rfl,h⟩
 |_,_,i+1,v,.cons _ t,e=>by obtain⟨d,b,a⟩:=S0.acT t (by simpa using e);exact⟨d,by simpa using b,a⟩
theorem S0.append:∀{vs ws:List V} {ds a:List D},S0 O K H vs ds->S0 O K H ws a->S0 O K H (vs++ws) (ds++a)
 |_,_,_,_,.nil,h=>h
 |_,_,_,_,.cons h t,g=> .cons h (S0.append t g)
theorem S0.take:∀{vs:List V} {ds:List D} (n:Nat),S0 O K H vs ds->S0 O K H (vs.take n) (ds.take n)
 |_,_,0,_=> .nil
 |_,_,_+1,.nil=> .nil
 |_,_,n+1,.cons h t=> .cons h (S0.take n t)
theorem S0.drop:∀{vs:List V} {ds:List D} (n:Nat),S0 O K H vs ds->S0 O K H (vs.drop n) (ds.drop n)
 |_,_,0,h=>h
 |_,_,_+1,.nil=> .nil
 |_,_,n+1,.cons _ t=>S0.drop n t
theorem S0.flat (h:S0 O K H vs ds):∀n:Nat,S0 O K H (Q6 n vs).flatten (Q6 n ds).flatten
 |0=> .nil
 |n+1=>by rw[Si,Si,Tr,Tr];exact h.append (S0.flat h n)
mutual
theorem DV.plain:∀{v:V} {d:D},DV O K H v d->L2.DV K H v d
 |_,_,.TL=> .TL
 |_,_,.bl b=> .bl b
 |_,_,.int i=> .int i
 |_,_,.str x=> .str x
 |_,_,.tup h hs=> .tup h.1 (S0.plain hs)
 |_,_,.lst h hs=> .lst h.1.sq (S0.plain hs)
theorem S0.plain:∀{vs:List V} {ds:List D},S0 O K H vs ds->L2.S0 K H vs ds
 |_,_,.nil=> .nil
 |_,_,.cons h hs=> .cons (DV.plain h) (S0.plain hs)
end
end
def DX (O:ci) (K:QR) (H:Hp) (v:V):D->Prop
 | .list ds=>∃a xs,v= .ref a/\Vb K H a xs/\S0 O K H xs ds
 |d=>DV O K H v d
theorem DV.x (h:DV O K H v d):DX O K H v d:=by
 cases h with
 |lst h a=>exact⟨_,_,rfl,h.1,a⟩
 |TL=>exact .TL
 |bl b=>exact .bl b
 |int i=>exact .int i
 |str x=>exact .str x
 |tup h a=>exact .tup h a
theorem DX.plain (h:DX O K H v d):L2.DV K H v d:=by
 cases d with
 |list ds=>obtain⟨a,xs,rfl,f,e⟩:=h;exact .lst f.sq e.plain
 |none=>exact DV.plain h
 |bool b=>exact DV.plain h
 |int i=>exact DV.plain h
 |str x=>exact DV.plain h
 |tuple ds=>exact DV.plain h
 |dict Rz=>exact DV.plain h
def Yv (K:QR) (b:Hp) (O:ci) (H:Hp) (v:V):PV->Prop
 | .fz d=>DV O K H v d
 | .ow ds=>∃a vs,v= .ref a/\O a/\b a=QS/\H a=lD (.lst vs)/\S0 O K H vs ds
 | .pl _=>False
structure Rl (K:QR) (B:ci) (H0:Hp) (O:ci) (σ:St) (H:Hp) (ρ:bt):Prop where
 same:S6 H0 H
 bo:∀a,B a->O a
 bd:∀a,B a->H0 a≠QS
 od:∀a,H a=QS->¬O a
 len:σ.length=ρ.length
 slot:∀(i:Nat) (x:PV),ρ[i]? =lD (lD x)->∃v,σ[i]? =lD (lD v)/\Yv K H0 O H v x
 one:∀(i j:Nat) (ds es:List D) (v:V),ρ[i]? =lD (lD (.ow ds))->ρ[j]? =lD (lD (.ow es))->σ[i]? =lD (lD v)->σ[j]? =lD (lD v)->i=j
def Wd (K:QR) (f:Hp) (O:ci) (b:St) (H:Hp) (ρ:bt) (v:V):PV->Prop
 | .fz d=>DV O K H v d
 | .ow ds=>∃a vs,v= .ref a/\O a/\f a=QS/\H a=lD (.lst vs)/\S0 O K H vs ds/\∀(i:Nat) (e:List D),ρ[i]? =lD (lD (.ow e))->b[i]?≠lD (lD (.ref a))
 | .pl i=>b[i]? =lD (lD v)
def kQ:PV->Prop
 | .ow _=>False
 |_=>True
def dB:PV->PV
 | .ow ds=> .fz (.list ds)
 |p=>p
section
variable {K:QR} {B O X:ci} {Z H H':Hp} {Y:St} {ρ ρ':bt} {v:V}
theorem Yv.grow (s:S6 H H') (h:Yv K Z O H v x):Yv K Z O H' v x:=by
 cases x with
 |fz d=>exact DV.ev (Ev.grow s) h
 |ow ds=>obtain⟨a,vs,e,j,g,f,b⟩:=h;exact⟨a,vs,e,j,g,s _ _ f,b.ev (Ev.grow s)⟩
 |pl i=>exact h
theorem Rl.grow (R:Rl K B Z O Y H ρ) (s:S6 H H'):Rl K B Z O Y H' ρ:=
 ⟨R.same.trans s,R.bo,R.bd,fun a h=>R.od a (s.free h),R.len,fun i x h=>let⟨v,h1,h2⟩:=R.slot i x h;⟨v,h1,h2.grow s⟩,R.one⟩
theorem Rl.ab5 (R:Rl K B Z O Y H ρ) (h:H p=QS):Z p=QS:=R.same.free h
theorem Rl.add (R:Rl K B Z O Y H ρ) (s:S6 H H') (f:H p=QS) (g:H' p≠QS):Rl K B Z (cj O p) Y H' ρ:=by
 refine⟨R.same.trans s,fun a h=> .inl (R.bo a h),R.bd,fun a h z=>z.elim (R.od a (s.free h)) fun e=>g (by rw[<-e];exact h),R.len,fun i x h=> ?_,R.one⟩;obtain⟨v,j,b⟩:=R.slot i x h;refine⟨v,j,?_⟩;cases x with
 |fz d=>exact DV.ev (Ev.add s f) b
 |ow ds=>obtain⟨a,vs,e,o,n,m,l⟩:=b;exact⟨a,vs,e,.inl o,n,s _ _ m,l.ev (Ev.add s f)⟩
 |pl i=>exact b
theorem Rl.abA (R:Rl K B Z O Y H ρ) (h:Z a=QS):¬B a:=fun z=>R.bd a z h
theorem Rl.sub (R:Rl K B Z O Y H ρ) {a:QX} (m:Z a=QS) (h:∀(i:Nat) (r:List D),ρ[i]? =lD (lD (.ow r))->Y[i]?≠lD (lD (.ref a))):Rl K B Z (GQ O a) Y H ρ:=by
 refine⟨R.same,fun b f=>⟨R.bo b f,fun e=>R.abA m (e▸f)⟩,R.bd,fun b f z=>R.od b f z.1,R.len,fun i x j=> ?_,R.one⟩;obtain⟨v,l,g⟩:=R.slot i x j;refine⟨v,l,?_⟩;cases x with
 |fz d=>exact DV.ev (Ev.sub fun b z=>z.1) g
 |ow ds=>obtain⟨b,vs,e,q,p,o,n⟩:=g;subst e;exact⟨b,vs,rfl,⟨q,fun e=>h i ds j (by rw[l,e])⟩,p,o,n.ev (Ev.sub fun b z=>z.1)⟩
 |pl i=>exact g
theorem vK (h:H a=lD (.lst vs)) (n:¬O a) (hd:S0 O K H vs ds):DV O K H (.ref a) (.list ds):= .lst ⟨Vb.of h,fun z=>absurd z n⟩ hd
theorem jv {pv:PV} (R:Rl K B Z O Y H ρ) (h:Wd K Z O Y H ρ v pv):∃X,Ev O H X H/\Rl K B Z X Y H ρ/\Wd K Z X Y H ρ v (dB pv):=by
 cases pv with
 |fz d=>exact⟨O,.refl,R,h⟩
 |pl i=>exact⟨O,.refl,R,h⟩
 |ow ds=>obtain⟨a,vs,rfl,l,j,g,f,e⟩:=h;exact⟨GQ O a,Ev.sub fun b z=>z.1,R.sub j e,vK g (fun z=>z.2 rfl) (f.ev (Ev.sub fun b z=>z.1))⟩
theorem qJ (pv:PV):kQ (dB pv):=by cases pv<;>trivial
theorem Wd.keep {pv:PV} (a:kQ pv) (e:Ev O H X H') (h:Wd K Z O Y H ρ v pv):Wd K Z X Y H' ρ' v pv:=by
 cases pv with
 |fz d=>exact DV.ev e h
 |pl i=>exact h
 |ow ds=>exact a.elim
def Qv:Option (Option PV)->Option D
 |some (lD (.fz d))=>lD d
 |some (lD (.ow ds))=>lD (.list ds)
 |_=>QS
def yF (ρ:bt):PV->Option D
 | .fz d=>lD d
 | .ow ds=>lD (.list ds)
 | .pl i=>Qv ρ[i]?
theorem pA {pv:PV} (R:Rl K B Z O Y H ρ) (h:Wd K Z O Y H ρ v pv) (e:yF ρ pv=lD d):DX O K H v d:=by
 cases pv with
 |fz t=>cases e;exact DV.x h
 |ow ds=>cases e;obtain⟨a,vs,rfl,C,A,p,n,z⟩:=h;exact⟨a,vs,rfl,Vb.of p,n⟩
 |pl i=>
  have b:Qv ρ[i]? =lD d:=e;have r:=h;cases q:ρ[i]? with
  |none=>rw[q] at b;cases b
  |some o=>
   cases o with
   |none=>rw[q] at b;cases b
   |some x=>
    obtain⟨u,g,f⟩:=R.slot i x q;rw[r] at g;cases g;rw[q] at b;cases x with
    |fz t=>cases b;exact DV.x f
    |ow ds=>cases b;obtain⟨a,vs,rfl,y,w,m,l⟩:=f;exact⟨a,vs,rfl,Vb.of m,l⟩
    |pl j=>exact f.elim
def toS (ρ:bt) (i:Nat):Option (Option PV)->Option (D×bt)
 |some (lD (.fz d))=>lD (d,ρ)
 |some (lD (.ow ds))=>lD (.list ds,ρ.set i (lD (.fz (.list ds))))
 |_=>QS
def xi (ρ:bt):PV->Option (D×bt)
 | .fz d=>lD (d,ρ)
 | .ow ds=>lD (.list ds,ρ)
 | .pl i=>toS ρ i ρ[i]?
theorem cA {l:List α} (h:(l.set i x)[j]? =lD y):(j=i/\y=x)\/(j≠i/\l[j]? =lD y):=by
 rw[Sq] at h;by_cases e:i=j
 .rw[if_pos e] at h
  split at h
  .cases h;exact .inl ⟨e.symm,rfl⟩
  .cases h
 .rw[if_neg e] at h;exact .inr ⟨fun z=>e z.symm,h⟩
theorem t8 {pv:PV} (R:Rl K B Z O Y H ρ) (h:Wd K Z O Y H ρ v pv) (e:xi ρ pv=lD (d,ρ')):∃X,Ev O H X H/\Rl K B Z X Y H ρ'/\DV X K H v d:=by
 cases pv with
 |fz d'=>cases e;exact⟨O,.refl,R,h⟩
 |ow ds=>cases e;obtain⟨a,vs,rfl,h1,h2,h3,U,T⟩:=h;exact⟨GQ O a,Ev.sub fun b z=>z.1,R.sub h2 T,vK h3 (fun z=>z.2 rfl) (U.ev (Ev.sub fun b z=>z.1))⟩
 |pl i=>
  have f:toS ρ i ρ[i]? =lD (d,ρ'):=e;have y:=h;cases q:ρ[i]? with
  |none=>rw[q] at f;cases f
  |some o=>
   cases o with
   |none=>rw[q] at f;cases f
   |some x=>
    obtain⟨u,E,A⟩:=R.slot i x q;rw[y] at E;cases E;rw[q] at f;cases x with
    |fz d'=>cases f;exact⟨O,.refl,R,A⟩
    |pl j=>exact A.elim
    |ow ds=>
     cases f;obtain⟨a,vs,rfl,k1,S,Q,P⟩:=A;have n:Ev O H (GQ O a) H:=Ev.sub fun b z=>z.1;have F:=vK Q (fun z=>z.2 rfl) (P.ev n);refine⟨GQ O a,n,⟨R.same,fun b m=>⟨R.bo b m,fun e=>R.abA S (e▸m)⟩,R.bd,fun b m z=>R.od b m z.1,by rw[Sg];exact R.len,fun j x l=> ?_,fun j k xs G w t r=> ?_⟩,F⟩
     .rcases cA l with⟨rfl,g⟩|⟨Wr,l⟩
      .cases g;exact⟨_,y,F⟩
      .obtain⟨u,C,p⟩:=R.slot j x l
       refine⟨u,C,?_⟩;cases x with
       |fz d=>exact DV.ev n p
       |pl i=>exact p
       |ow xs=>obtain⟨b,I,rfl,N,M,L,J⟩:=p;exact⟨b,I,rfl,⟨N,fun z=>Wr (R.one j i xs ds (.ref a) l q (by rw[C,z]) y)⟩,M,L,J.ev n⟩
     .rcases cA t with⟨rfl,g⟩|⟨_,t⟩
      .cases g
      .rcases cA r with⟨rfl,g⟩|⟨_,r⟩
       .cases g
       .exact R.one j k xs G w t r
end
def XOk (K:QR) (B:ci) (H:Hp) (c:QT) (dx:Option QX) (x:Xc):Prop:=
 (∃a,c= .ref a/\Rp K Rk x.cls=lD (lD (.ref a)))/\∃fs,(∀p,dx=lD p->H p=lD (.xd fs))/\∀f d,x.fs.lookup f=lD d->dx≠QS/\∃v,fs.lookup f=lD v/\DV B K H v d
def XE (K:QR) (B:ci) (a:Hp) (E:XK) (x:Xc):Prop:=∀c dx H',S6 a H'->XOk K B H' c dx x->E c dx H'
def WR (K:QR) (E:XK) (B:ci) (b:Hp) (P:α->Prop):Res α->Prop
 | .ok a=>P a
 | .er x=>XE K B b E x
 | .bad=>False
section
variable {K:QR} {E:XK} {B:ci} {Z:Hp}
theorem WR.bind (h:WR K E B Z P (r.bind k)):WR K E B Z (fun a=>WR K E B Z P (k a)) r:=by cases r<;>exact h
theorem WR.Sh (h:WR K E B Z P ((Res.Sh o).bind k)):∃a,o=lD a/\WR K E B Z P (k a):=by
 cases o with
 |none=>exact h.elim
 |some a=>exact⟨a,rfl,h⟩
theorem WR.imp (h:WR K E B Z P r) (g:∀a,P a->P' a):WR K E B Z P' r:=by
 cases r with
 |ok a=>exact g a h
 |er x=>exact h
 |bad=>exact h
end
abbrev FE:=bt->Res (PV×bt)
abbrev FT:=bt->Res (Bool×bt)
abbrev FA:=bt->Res (List PV×bt)
def EO (K:QR) (E:XK) (t:TE) (f:FE):Prop:=
 ∀(B:ci) (b:Hp) (O:ci) (a:St) (H:Hp) (ρ:bt) (Q:VK),Rl K B b O a H ρ->WR K E B b (fun r=>∀O' v H',Ev O H O' H'->Rl K B b O' a H' r.2->Wd K b O' a H' r.2 v r.1->Q v H') (f ρ)->t a H Q
def Zw (K:QR) (E:XK) (t:TT) (f:FT):Prop:=
 ∀(B:ci) (b:Hp) (O:ci) (a:St) (H:Hp) (ρ:bt) (Q:Bool->Hp->Prop),Rl K B b O a H ρ->WR K E B b (fun r=>∀O' H',Ev O H O' H'->Rl K B b O' a H' r.2->Q r.1 H') (f ρ)->t a H Q
def AO (K:QR) (E:XK) (t:TA) (f:FA):Prop:=
 ∀(B:ci) (b:Hp) (O:ci) (a:St) (H:Hp) (ρ:bt) (Q:List V->Hp->Prop),Rl K B b O a H ρ->WR K E B b (fun r=>∀O' vs H',Ev O H O' H'->Rl K B b O' a H' r.2->Paired (fun v pv=>Wd K b O' a H' r.2 v pv/\kQ pv) vs r.1->Q vs H') (f ρ)->t a H Q
inductive RV where
 |fz (d:D)
 |ow (ds:List D)
def RV.pv:RV->PV
 | .fz d=> .fz d
 | .ow ds=> .ow ds
def Fin (O:ci) (K:QR) (H:Hp) (Q:VK):RV->Prop
 | .fz d=>∀v H',S6 H H'->DV O K H' v d->Q v H'
 | .ow ds=>∀p vs H',S6 H H'->H p=QS->H' p=lD (.lst vs)->S0 (cj O p) K H' vs ds->Q (.ref p) H'
def ph (O:ci) (H:Hp):Prop:=∀a,H a=QS->¬O a
section
variable {K:QR} {E:XK} {B O X:ci} {Y H H':Hp} {Z:St} {ρ ρ':bt} {v:V}
theorem mi (R:Rl K B Y O Z H ρ) (h:∀X v H',Ev O H X H'->Rl K B Y X Z H' ρ->Wd K Y X Z H' ρ v rv.pv->Q v H'):Fin O K H Q rv:=by
 cases rv with
 |fz d=>exact fun v H' s f=>h O v H' (Ev.grow s) (R.grow s) f
 |ow ds=>intro p vs H' s b e f;refine h (cj O p) (.ref p) H' (Ev.add s b) (R.add s b (by rw[e];simp)) ⟨p,vs,rfl,.inr rfl,R.ab5 b,e,f,fun i r hi z=> ?_⟩;obtain⟨u,g,a,m,l,q,o,j,n⟩:=R.slot i _ hi;rw[z] at g;cases g;cases l;rw[b] at j;cases j
theorem Fin.new (hd:S0 O K H vs ds) (h:Fin O K H Q (.ow ds)):∀p,H p=QS->Q (.ref p) (bC H p (.lst vs)):=fun p a=>
 h p vs _ (b4 a _) a aM (hd.ev (Ev.add (b4 a _) a))
theorem Fin.aan (hd:S0 O K H vs ds) (b:ph O H) (h:Fin O K H Q (.fz (.tuple ds))):∀p,H p=QS->Q (.ref p) (bC H p (.tup vs)):=fun p a=>
 h (.ref p) _ (b4 a _) (.tup ⟨Vo.of aM,fun z=>absurd z (b p a)⟩ (hd.ev (Ev.grow (b4 a _))))
theorem Fin.at (h:Fin O K H Q (.fz d)) (a:DV O K H v d):Q v H:=h v H (S6.refl H) a
def AW (ρ:bt) (i:Nat):Option (Option PV)->Res (PV×bt)
 |some (lD (.fz d))=> .ok (.fz d,ρ)
 |some (lD (.ow _))=> .ok (.pl i,ρ)
 |_=> .bad
def aa (i:Nat):FE:=fun ρ=>AW ρ i ρ[i]?
theorem aq:EO K E (yh i) (aa i):=by
 intro B Y O Z H ρ Q R w;unfold aa at w;cases q:ρ[i]? with
 |none=>rw[q] at w;exact w.elim
 |some o=>
  cases o with
  |none=>rw[q] at w;exact w.elim
  |some x=>
   rw[q] at w;obtain⟨v,a,b⟩:=R.slot i x q;cases x with
   |fz d=>exact⟨v,a,w O v H .refl R b⟩
   |ow ds=>exact⟨v,a,w O v H .refl R a⟩
   |pl j=>exact w.elim
def pC (d:D):FE:=fun ρ=> .ok (.fz d,ρ)
theorem yB (h:∀O H,DV O K H v d):EO K E (tC v) (pC d):=fun B Y O Z H ρ Q R w=>w O v H .refl R (h O H)
theorem aN:EO K E (tC (.int i)) (pC (.int i)):=yB fun _ _=> .int i
theorem Ay:EO K E (tC (.bl b)) (pC (.bool b)):=yB fun _ _=> .bl b
theorem iL:EO K E (tC (.str x)) (pC (.str x)):=yB fun _ _=> .str x
theorem ic:EO K E (tC .TL) (pC .none):=yB fun _ _=> .TL
def mw (K:QR) (r:R2) (f:D->D->Option RV):Prop:=∀(O:ci) (H:Hp) (x y:V) (dx a:D) (rv:RV) (Q:VK),ph O H->DX O K H x dx->DX O K H y a->f dx a=lD rv->Fin O K H Q rv->r x y H Q
def aJ (f:D->D->Option RV) (fa fb:FE):FE:=fun ρ=>(fa ρ).bind fun a=>(fb a.2).bind fun b=>(Res.Sh (yF b.2 (dB a.1))).bind fun dx=>(Res.Sh (yF b.2 b.1)).bind fun d=>(Res.Sh (f dx d)).bind fun rv=> .ok (rv.pv,b.2)
theorem bj (t:mw K r f) (ha:EO K E ta fa) (u:EO K E tb fb):EO K E (Nm r ta tb) (aJ f fa fb):=by intro B Y O Z H ρ Q R w;refine ha B Y O Z H ρ _ R (w.bind.imp fun a i T x S C I q=> ?_);obtain⟨M,A,R2,p⟩:=jv I q;refine u B Y M Z S a.2 _ R2 (i.bind.imp fun b d L y P h e o=> ?_);have g:=p.keep (qJ a.1) h (ρ':=b.2);obtain⟨dx,l,d⟩:=d.Sh;obtain⟨F,j,d⟩:=d.Sh;obtain⟨rv,m,d⟩:=d.Sh;refine t L P x y dx F rv Q e.od (pA e g l) (pA e o j) m (mi e fun J v N z G n=> ?_);exact d J v N (C.trans (A.trans (h.trans z))) G n
def OH (f:D->Option RV) (fa:FE):FE:=fun ρ=>(fa ρ).bind fun a=>(Res.Sh (yF a.2 a.1)).bind fun dx=>(Res.Sh (f dx)).bind fun rv=> .ok (rv.pv,a.2)
def P0:D->Option Bool
 | .bool b=>lD b
 |_=>QS
theorem Nq (h:DX O K H x d) (e:P0 d=lD b):x= .bl b:=by cases d<;>cases e;cases h;rfl
def aK (fa:FE):bt->Res (Bool×bt):=fun ρ=>(fa ρ).bind fun a=>(Res.Sh (yF a.2 a.1)).bind fun d=>(Res.Sh (P0 d)).bind fun b=> .ok (b,a.2)
theorem cZ (ha:EO K E ta fa):Zw K E (FC ta) (aK fa):=by intro B Y O Z H ρ Q R w;refine ha B Y O Z H ρ _ R (w.bind.imp fun a e l x m j f i=> ?_);obtain⟨d,g,e⟩:=e.Sh;obtain⟨b,h,e⟩:=e.Sh;exact⟨b,Nq (pA f i g) h,e l m j f⟩
theorem KK (ha:EO K E ta fa):Zw K E (tB ta) (aK fa):=cZ ha
def tO (fa fb:FT):FT:=fun ρ=>(fa ρ).bind fun a=>if a.1=QW then fb a.2 else .ok (Q2,a.2)
def IH (fa fb:FT):FT:=fun ρ=>(fa ρ).bind fun a=>if a.1=QW then .ok (QW,a.2) else fb a.2
theorem Zw.next (h:Zw K E t f) (R:Rl K B Y O1 Z H1 ρ) (a:Ev O H O1 H1) (w:WR K E B Y (fun r=>∀X H',Ev O H X H'->Rl K B Y X Z H' r.2->Q r.1 H') (f ρ)):t Z H1 Q:=
 h B Y O1 Z H1 ρ Q R (w.imp fun r q X H' b d=>q X H' (a.trans b) d)
theorem EO.next (h:EO K E t f) (R:Rl K B Y O1 Z H1 ρ) (b:Ev O H O1 H1) (w:WR K E B Y (fun r=>∀X v H',Ev O H X H'->Rl K B Y X Z H' r.2->Wd K Y X Z H' r.2 v r.1->Q v H') (f ρ)):t Z H1 Q:=
 h B Y O1 Z H1 ρ Q R (w.imp fun r q X v H' d e a=>q X v H' (b.trans d) e a)
theorem Ck (l:Zw K E t f) (j:Zw K E u g):Zw K E (Ml t u) (tO f g):=by
 intro B Y O Z H ρ Q R w;refine l B Y O Z H ρ _ R (w.bind.imp fun a d m n e h=> ?_);obtain⟨b,i⟩:=a;cases b with
 |true=>exact j.next h e d
 |false=>exact d m n e h
theorem yW (l:Zw K E t f) (j:Zw K E u g):Zw K E (Qi t u) (IH f g):=by
 intro B Y O Z H ρ Q R w;refine l B Y O Z H ρ _ R (w.bind.imp fun a d m n e h=> ?_);obtain⟨b,i⟩:=a;cases b with
 |true=>exact d m n e h
 |false=>exact j.next h e d
def fH:FT:=fun ρ=> .ok (QW,ρ)
theorem fC:Zw K E DY fH:=fun B Y O Z H ρ Q R w=>w O H .refl R
def Dk (fa fb:FE):FE:=fun ρ=>(aK fa ρ).bind fun a=>if a.1=QW then fb a.2 else .ok (.fz (.bool Q2),a.2)
def GC (fa:FE):FE:=fun ρ=>(aK fa ρ).bind fun a=> .ok (.fz (.bool (!a.1)),a.2)
theorem yV (ha:EO K E ta fa) (i:EO K E tb fb):EO K E (Hd ta tb) (Dk fa fb):=by
 intro B Y O Z H ρ Q R w;refine cZ ha B Y O Z H ρ (fun c d=>if c=QW then tb Z d Q else Q (.bl Q2) d) R (w.bind.imp fun a e j d f g=> ?_);obtain⟨b,h⟩:=a;cases b with
 |true=>exact i.next g f e
 |false=>exact e j _ d f g (.bl Q2)
theorem GB (ha:EO K E ta fa):EO K E (Lc ta) (GC fa):=by intro B Y O Z H ρ Q R w;exact cZ ha B Y O Z H ρ (fun c b=>Q (.bl (!c)) b) R (w.bind.imp fun a d g b e f=>d g _ b e f (.bl _))
def aw:FA:=fun ρ=> .ok ([],ρ)
def ae (fa:FE) (d:FA):FA:=fun ρ=>(fa ρ).bind fun a=>(d a.2).bind fun b=> .ok (dB a.1::b.1,b.2)
theorem a8:AO K E pQ aw:=fun B Y O Z H ρ Q R w=>w O [] H .refl R .nil
theorem aB (ha:EO K E ta fa) (l:AO K E tr fr):AO K E (jW ta tr) (ae fa fr):=by intro B Y O Z H ρ Q R w;refine ha B Y O Z H ρ _ R (w.bind.imp fun a g y x u n p j=> ?_);obtain⟨r,m,R2,i⟩:=jv p j;refine l B Y r Z u a.2 _ R2 (g.bind.imp fun b f q e t d o h=> ?_);exact f q (x::e) t (n.trans (m.trans d)) o (.cons ⟨i.keep (qJ a.1) d,qJ a.1⟩ h)
def wX (ρ:bt):List PV->Option (List D)
 |[]=>lD []
 |p::r=>match yF ρ p with
  |some d=>(match wX ρ r with
   |some ds=>lD (d::ds)
   |none=>QS)
  |none=>QS
theorem zW (R:Rl K B Y O Z H ρ):∀{vs:List V} {ps:List PV} {ds:List D},Paired (fun v pv=>Wd K Y O Z H ρ v pv/\kQ pv) vs ps->wX ρ ps=lD ds->Paired (DX O K H) vs ds
 |_,_,_,.nil,e=>by cases e;exact .nil
 |_,_,_,.cons (l₂:=ps) (b:=p) h t,e=>by
  unfold wX at e;cases q:yF ρ p with
  |none=>rw[q] at e;cases e
  |some d=>
   rw[q] at e;dsimp only at e;cases q2:wX ρ ps with
   |none=>rw[q2] at e;cases e
   |some a=>rw[q2] at e;cases e;exact .cons (pA R h.1 q) (zW R t q2)
def pV (ρ:bt):List PV->Option (List D×bt)
 |[]=>lD ([],ρ)
 |p::r=>match xi ρ p with
  |some (d,ρ1)=>(match pV ρ1 r with
   |some (ds,ρ2)=>lD (d::ds,ρ2)
   |none=>QS)
  |none=>QS
theorem rZ:∀{vs:List V} {ps:List PV} {ds:List D} {O:ci} {ρ ρ':bt},Rl K B Y O Z H ρ->Paired (fun v pv=>Wd K Y O Z H ρ v pv/\kQ pv) vs ps->pV ρ ps=lD (ds,ρ')->∃X,Ev O H X H/\Rl K B Y X Z H ρ'/\S0 X K H vs ds
 |_,_,_,O,_,_,R,.nil,e=>by cases e;exact⟨O,.refl,R,.nil⟩
 |_,_,_,O,ρ,ρ',R,.cons (l₁:=vs) (l₂:=ps) (b:=p) h t,e=>by
  unfold pV at e;cases q:xi ρ p with
  |none=>rw[q] at e;cases e
  |some r=>
   obtain⟨d,a⟩:=r;rw[q] at e;dsimp only at e;cases q2:pV a ps with
   |none=>rw[q2] at e;cases e
   |some m=>obtain⟨o,j⟩:=m;rw[q2] at e;cases e;obtain⟨A,i,y,w⟩:=t8 R h.1 q;have l:Paired (fun v pv=>Wd K Y A Z H a v pv/\kQ pv) vs ps:=Paired.Vn t fun v pv ⟨n,f⟩=>⟨n.keep f i,f⟩;obtain⟨z,g,R2,u⟩:=rZ y l q2;exact⟨z,i.trans g,R2,.cons (w.ev g) u⟩
abbrev FN:=List D->Res RV
def nz (K:QR) (n:Nat) (F:FN):Sp:=fun vs H Q E=>vs.length=n/\∃(B:ci) (ds:List D),(∀a,B a->H a≠QS)/\S0 B K H vs ds/\WR K E B H (Fin B K H Q) (F ds)
def bQ (fa:FA):FE:=fun ρ=>(fa ρ).bind fun a=>(Res.Sh (pV a.2 a.1)).bind fun b=>if b.1.length<=1000 then .ok (.fz (.tuple b.1),b.2) else .bad
def df (fa:FA):FE:=fun ρ=>(fa ρ).bind fun a=>(Res.Sh (pV a.2 a.1)).bind fun b=>if b.1.length<=1000 then .ok (.ow b.1,b.2) else .bad
theorem zR (h:n<=1000):n<=Q8:=RO h (by decide)
theorem gD (ha:AO K E ta fa):EO K E (Mc ta) (bQ fa):=by
 intro B Y O Z H ρ Q R w;refine ha B Y O Z H ρ _ R (w.bind.imp fun a f t vs u l n h=> ?_);obtain⟨⟨ds,e⟩,q,b⟩:=f.Sh;obtain⟨r,j,R2,d⟩:=rZ n h q;dsimp only at b;by_cases hn:ds.length<=1000
 .rw[if_pos hn] at b;refine⟨by rw[d.length];exact zR hn,Fin.aan d R2.od (mi R2 fun o v p i m g=>b o v p (l.trans (j.trans i)) m g)⟩
 .rw[if_neg hn] at b;exact b.elim
theorem mE (ha:AO K E ta fa):EO K E (Ot ta) (df fa):=by
 intro B Y O Z H ρ Q R w;refine ha B Y O Z H ρ _ R (w.bind.imp fun a f t vs u l n h=> ?_);obtain⟨⟨ds,e⟩,q,b⟩:=f.Sh;obtain⟨r,j,R2,d⟩:=rZ n h q;dsimp only at b;by_cases hn:ds.length<=1000
 .rw[if_pos hn] at b;refine⟨by rw[d.length];exact zR hn,Fin.new d (mi R2 fun o v p i m g=>b o v p (l.trans (j.trans i)) m g)⟩
 .rw[if_neg hn] at b;exact b.elim
def EB (K:QR) (r:List V->Hp->VK->Prop) (f:List D->Option RV):Prop:=∀(O:ci) (H:Hp) (xs:List V) (ds:List D) (rv:RV) (Q:VK),ph O H->Paired (DX O K H) xs ds->f ds=lD rv->Fin O K H Q rv->r xs H Q
def g8 (f:List D->Option RV) (fa:FA):FE:=fun ρ=>(fa ρ).bind fun a=>(Res.Sh (wX a.2 a.1)).bind fun ds=>(Res.Sh (f ds)).bind fun rv=> .ok (rv.pv,a.2)
theorem ib (j:EB K r f) (ha:AO K E ta fa):EO K E (KL r ta) (g8 f fa):=by intro B Y O Z H ρ Q R w;refine ha B Y O Z H ρ _ R (w.bind.imp fun a e p vs u m d i=> ?_);obtain⟨ds,q,b⟩:=e.Sh;obtain⟨rv,g,b⟩:=b.Sh;exact j p u vs ds rv Q d.od (zW d i q) g (mi d fun o v t l n h=>b o v t (m.trans l) n h)
def PX:D->Option Int
 | .int i=>lD i
 |_=>QS
theorem L8 (h:DX O K H x d) (e:PX d=lD i):x= .int i:=by cases d<;>cases e;cases h;rfl
abbrev FO:=bt->Res (Option Int×bt)
def Pr (K:QR) (E:XK) (t:TO) (f:FO):Prop:=
 ∀(B:ci) (Y:Hp) (O:ci) (Z:St) (H:Hp) (ρ:bt) (Q:Option Int->Hp->Prop),Rl K B Y O Z H ρ->WR K E B Y (fun r=>∀X H',Ev O H X H'->Rl K B Y X Z H' r.2->Q r.1 H') (f ρ)->t Z H Q
def tW:FO:=fun ρ=> .ok (QS,ρ)
def rc (fa:FE):FO:=fun ρ=>(fa ρ).bind fun a=>(Res.Sh (yF a.2 a.1)).bind fun d=>(Res.Sh (PX d)).bind fun i=> .ok (lD i,a.2)
theorem qX:Pr K E AZ tW:=fun B Y O Z H ρ Q R w=>w O H .refl R
theorem sI (ha:EO K E ta fa):Pr K E (FV ta) (rc fa):=by intro B Y O Z H ρ Q R w;refine ha B Y O Z H ρ _ R (w.bind.imp fun a f l x m j e h=> ?_);obtain⟨d,q,b⟩:=f.Sh;obtain⟨i,g,b⟩:=b.Sh;exact⟨i,L8 (pA e h q) g,b l m j e⟩
def PM (K:QR) (r:V->Option Int->Option Int->Hp->VK->Prop) (f:D->Option Int->Option Int->Option RV):Prop:=∀(O:ci) (H:Hp) (x:V) (lo hi:Option Int) (dx:D) (rv:RV) (Q:VK),ph O H->DX O K H x dx->f dx lo hi=lD rv->Fin O K H Q rv->r x lo hi H Q
def NC (f:D->Option Int->Option Int->Option RV) (fa:FE) (b d:FO):FE:=fun ρ=>(fa ρ).bind fun a=>(b a.2).bind fun l=>(d l.2).bind fun h=>(Res.Sh (yF h.2 (dB a.1))).bind fun dx=>(Res.Sh (f dx l.1 h.1)).bind fun rv=> .ok (rv.pv,h.2)
theorem FD (t:PM K r f) (ha:EO K E ta fa) (u:Pr K E tl fl) (y:Pr K E th fh):EO K E (Qp r ta tl th) (NC f fa fl fh):=by intro B Y O Z H ρ Q R w;refine ha B Y O Z H ρ _ R (w.bind.imp fun a j O1 x U C I q=> ?_);obtain⟨N,A,R2,p⟩:=jv I q;refine u B Y N Z U a.2 _ R2 (j.bind.imp fun l i M T g G=> ?_);refine y B Y M Z T l.2 _ G (i.bind.imp fun h b L S e d=> ?_);obtain⟨dx,m,b⟩:=b.Sh;obtain⟨rv,n,b⟩:=b.Sh;exact t L S x l.1 h.1 dx rv Q d.od (pA d (p.keep (qJ a.1) (g.trans e)) m) n (mi d fun J v P z F o=>b J v P (C.trans (A.trans (g.trans (e.trans z)))) F o)
end
theorem uM {l:List α} (h:(l.set i x)[i]? =lD y):i<l.length:=by
 rw[Sq] at h;rw[if_pos rfl] at h;split at h
 .assumption
 .cases h
section
variable {K:QR} {E:XK} {B O U:ci} {Z H H':Hp} {Y:St} {ρ ρ':bt} {v:V}
theorem Rl.mut {i:Nat} {ds g:List D} {a:QX} {f:List V} (R:Rl K B Z O Y H ρ) (hi:ρ[i]? =lD (lD (.ow ds))) (G:Y[i]? =lD (lD (.ref a))) (I:O a) (J:Z a=QS) (hd:S0 O K H f g):
  Rl K B Z O Y (bC H a (.lst f)) (ρ.set i (lD (.ow g))):=by
 have ev:Ev O H O (bC H a (.lst f)):=Ev.mut I _;refine⟨fun b o e=>by rw[aH (b8 e J)];exact R.same b o e,R.bo,R.bd,fun b m=> ?_,by rw[Sg];exact R.len,fun j x l=> ?_,fun j k xs C w T S t YK=> ?_⟩
 .by_cases e:b=a
  .rw[e,aM] at m;cases m
  .rw[aH e] at m;exact R.od b m
 .rcases cA l with⟨rfl,X⟩|⟨Wr,l⟩
  .cases X;exact⟨_,G,a,f,rfl,I,J,aM,hd.ev ev⟩
  .obtain⟨u,F,q⟩:=R.slot j x l
   refine⟨u,F,?_⟩;cases x with
   |fz d=>exact DV.ev ev q
   |pl i=>exact q
   |ow xs=>obtain⟨b,L,rfl,Q,P,N,M⟩:=q;have A:b≠a:=fun z=>Wr (R.one j i xs ds (.ref a) l hi (by rw[F,z]) G);exact⟨b,L,rfl,Q,P,by rw[aH A];exact N,M.ev ev⟩
 .have own:∀{j:Nat} {xs:List D},(ρ.set i (lD (.ow g)))[j]? =lD (lD (.ow xs))->∃C,ρ[j]? =lD (lD (.ow C)):=fun{j xs} h=>by
   rcases cA h with⟨rfl,_⟩|⟨_,h⟩
   .exact⟨_,hi⟩
   .exact⟨_,h⟩
  obtain⟨p,y⟩:=own T;obtain⟨n,r⟩:=own S;exact R.one j k p n w y r t YK
theorem uG (h:n<1000000):n<Q8:=Rq h (by decide)
def Gf:Option (Option PV)->Option (List D)
 |some (lD (.ow ds))=>lD ds
 |_=>QS
theorem AJ (h:Gf o=lD ds):o=lD (lD (.ow ds)):=by
 unfold Gf at h;split at h
 .cases h;rfl
 .cases h
def zU (i:Nat) (fe:FE):FE:=fun ρ=>(Res.Sh (Gf ρ[i]?)).bind fun _=>(fe ρ).bind fun a=>(Res.Sh (xi a.2 a.1)).bind fun b=>(Res.Sh (Gf b.2[i]?)).bind fun ds=>
 if ds.length<1000000 then .ok (.fz .none,b.2.set i (lD (.ow (ds++[b.1])))) else .bad
theorem Gh (z:EO K E te fe):EO K E (Qh K "list" uR (yh i) (jW te pQ)) (zU i fe):=by
 intro B Z O Y H ρ Q R w;obtain⟨J,q,w⟩:=w.Sh;obtain⟨v,j,a,vs,rfl,T,S,A,P⟩:=R.slot i _ (AJ q);refine⟨_,j,.inl ⟨rfl,_,VR.of A⟩,?_⟩;refine z B Z O Y H ρ _ R (w.bind.imp fun b e O1 y H1 F L r=> ?_);obtain⟨⟨d,o⟩,p,e⟩:=e.Sh;obtain⟨M,C,R2,I⟩:=t8 L r p;obtain⟨ds,f,e⟩:=e.Sh;have f:=AJ f;obtain⟨N,n,X,g,G,m,u,t,l⟩:=R2.slot i _ f;subst G;rw[j] at n;cases n;dsimp only at e;by_cases h:ds.length<1000000
 .rw[if_pos h] at e;refine⟨a,g,y,rfl,rfl,t,uG (by rw[l.length];exact h),?_⟩;exact e M .TL _ (F.trans (C.trans (Ev.mut m _))) (R2.mut f j m u (l.append (.cons I .nil))) .TL
 .rw[if_neg h] at e;exact e.elim
abbrev FG:=PV->bt->Res bt
abbrev Oe:=List D->bt->Res bt
def GO (K:QR) (E:XK) (g:TG) (f:FG):Prop:=
 ∀(B:ci) (Z:Hp) (O:ci) (Y:St) (H:Hp) (ρ:bt) (v:V) (pv:PV) (Q:St->Hp->Prop),Rl K B Z O Y H ρ->Wd K Z O Y H ρ v pv->WR K E B Z (fun ρ'=>∀U σ' H',Ev O H U H'->Rl K B Z U σ' H' ρ'->Q σ' H') (f pv ρ)->g v Y H Q
def Pu (K:QR) (E:XK) (g:Mq) (f:Oe):Prop:=
 ∀(B:ci) (Z:Hp) (O:ci) (Y:St) (H:Hp) (ρ:bt) (vs:List V) (ds:List D) (Q:St->Hp->Prop),Rl K B Z O Y H ρ->S0 O K H vs ds->WR K E B Z (fun ρ'=>∀U σ' H',Ev O H U H'->Rl K B Z U σ' H' ρ'->Q σ' H') (f ds ρ)->g vs Y H Q
theorem Rl.ad5 (R:Rl K B Z O Y H ρ) (h:DV O K H v d):Rl K B Z O (Y.set i (lD v)) H (ρ.set i (lD (.fz d))):=by
 refine⟨R.same,R.bo,R.bd,R.od,by rw[Sg,Sg];exact R.len,fun j x b=> ?_,fun j k xs n w g f a m=> ?_⟩
 .rcases cA b with⟨rfl,e⟩|⟨t,b⟩
  .cases e;have:=uM b;exact⟨v,by rw[Sq,if_pos rfl,if_pos (by rw[R.len];exact this)],h⟩
  .obtain⟨u,r,q⟩:=R.slot j x b;exact⟨u,by rw[Sq,if_neg (fun z=>t z.symm)];exact r,q⟩
 .rcases cA g with⟨rfl,l⟩|⟨p,g⟩
  .cases l
  .rcases cA f with⟨rfl,l⟩|⟨o,f⟩
   .cases l
   .rw[Sq,if_neg (fun z=>p z.symm)] at a;rw[Sq,if_neg (fun z=>o z.symm)] at m;exact R.one j k xs n w g f a m
theorem Rl.ahd (R:Rl K B Z O Y H ρ) (h:Wd K Z O Y H ρ v (.ow ds)):Rl K B Z O (Y.set i (lD v)) H (ρ.set i (lD (.ow ds))):=by
 obtain⟨a,vs,rfl,G,F,C,A,o⟩:=h;refine⟨R.same,R.bo,R.bd,R.od,by rw[Sg,Sg];exact R.len,fun j x l=> ?_,fun j k xs n w y f b g=> ?_⟩
 .rcases cA l with⟨rfl,e⟩|⟨L,l⟩
  .cases e;have:=uM l;exact⟨.ref a,by rw[Sq,if_pos rfl,if_pos (by rw[R.len];exact this)],a,vs,rfl,G,F,C,A⟩
  .obtain⟨u,r,q⟩:=R.slot j x l;exact⟨u,by rw[Sq,if_neg (fun z=>L z.symm)];exact r,q⟩
 .rcases cA y with⟨rfl,J⟩|⟨p,d⟩
  .rcases cA f with⟨rfl,I⟩|⟨m,f⟩
   .rfl
   .rw[Sq,if_neg (fun z=>m z.symm)] at g
    rcases cA b with⟨_,e⟩|⟨z,_⟩
    .cases e;exact absurd g (o k n f)
    .exact absurd rfl z
  .have t:=d
   rw[Sq,if_neg (fun z=>p z.symm)] at b;rcases cA f with⟨rfl,J⟩|⟨m,f⟩
   .rcases cA g with⟨_,e⟩|⟨z,_⟩
    .cases e;exact absurd b (o j xs d)
    .exact absurd rfl z
   .rw[Sq,if_neg (fun z=>m z.symm)] at g;exact R.one j k xs n w d f b g
def gN (i:Nat):FG:=fun pv ρ=>match pv with
 | .ow ds=> .ok (ρ.set i (lD (.ow ds)))
 | .fz d=> .ok (ρ.set i (lD (.fz d)))
 | .pl j=>(Res.Sh (xi ρ (.pl j))).bind fun b=> .ok (b.2.set i (lD (.fz b.1)))
theorem ck:GO K E (ug i) (gN i):=by
 intro B Z O Y H ρ v pv Q R p w;cases pv with
 |ow ds=>exact w O _ H .refl (R.ahd p)
 |fz d=>exact w O _ H .refl (R.ad5 p)
 |pl j=>obtain⟨⟨d,a⟩,q,w⟩:=WR.Sh (show WR K E B Z _ ((Res.Sh (xi ρ (.pl j))).bind fun b=> .ok (b.2.set i (lD (.fz b.1)))) from w);obtain⟨g,e,R2,f⟩:=t8 R p q;exact w g _ H e (R2.ad5 f)
def OB:Oe:=fun ds ρ=>match ds with
 |[]=> .ok ρ
 |_=> .bad
def Ht (f:FG) (g:Oe):Oe:=fun ds ρ=>match ds with
 |[]=> .bad
 |d::r=>(f (.fz d) ρ).bind fun a=>g r a
theorem G3:Pu K E Nd OB:=by
 intro B Z O Y H ρ vs ds Q R a w;cases a with
 |nil=>exact⟨rfl,w O Y H .refl R⟩
 |cons _ _=>exact w.elim
theorem wq (o:GO K E t f) (n:Pu K E u g):Pu K E (El t u) (Ht f g):=by
 intro B Z O Y H ρ vs ds Q R r w;cases r with
 |nil=>exact w.elim
 |cons m l=>rename_i v vs d ds;refine⟨_,_,rfl,o B Z O Y H ρ _ (.fz d) _ R m (WR.imp (WR.bind w) fun e j A b F h y=> ?_)⟩;exact n B Z A b F e _ _ Q y (l.ev h) (j.imp fun i q z a C p R2=>q z a C (h.trans p) R2)
def Qs:D->Option (List D)
 | .tuple ds=>lD ds
 |_=>QS
theorem DB (h:DX O K H x d) (e:Qs d=lD ds):∃a xs,x= .ref a/\V2 O K H a xs/\S0 O K H xs ds:=by
 cases d<;>cases e;cases h with
 |tup h b=>exact⟨_,_,rfl,h,b⟩
def gT (n:Nat) (f:Oe):FG:=fun pv ρ=>(Res.Sh (yF ρ pv)).bind fun d=>(Res.Sh (Qs d)).bind fun ds=>if ds.length=n then f ds ρ else .bad
theorem Fx (h:Pu K E t f):GO K E (Nj K n t) (gT n f):=by
 intro B Z O Y H ρ v pv Q R p w;obtain⟨d,g,w⟩:=w.Sh;obtain⟨ds,e,w⟩:=w.Sh;obtain⟨a,xs,rfl,i,b⟩:=DB (pA R p g) e;by_cases hn:ds.length=n
 .rw[if_pos hn] at w;exact⟨a,xs,rfl,i.1,b.length.trans hn,h B Z O Y H ρ xs ds Q R b w⟩
 .rw[if_neg hn] at w;exact w.elim
inductive Fl where
 |nx (ρ:bt)
 |rt (rv:RV)
 |bk (ρ:bt)
 |ct (ρ:bt)
abbrev FS:=bt->Res Fl
def aac (K:QR) (B:ci) (Z:Hp) (O:ci) (H:Hp) (D:Ends):Fl->Prop
 | .nx ρ'=>∀U σ' H',Ev O H U H'->Rl K B Z U σ' H' ρ'->D.nx σ' H'
 | .bk ρ'=>∀U σ' H',Ev O H U H'->Rl K B Z U σ' H' ρ'->D.bk σ' H'
 | .ct ρ'=>∀U σ' H',Ev O H U H'->Rl K B Z U σ' H' ρ'->D.ct σ' H'
 | .rt rv=>Fin B K Z D.rt rv
def SO (K:QR) (E:XK) (t:TS) (g:FS):Prop:=
 ∀(B:ci) (Z:Hp) (O:ci) (Y:St) (H:Hp) (ρ:bt) (D:Ends),Rl K B Z O Y H ρ->WR K E B Z (aac K B Z O H D) (g ρ)->t D Y H
theorem aac.ev {D:Ends} (e:Ev O H O1 H1) (h:aac K B Z O H D fl):aac K B Z O1 H1 D fl:=by
 cases fl with
 |nx ρ'=>exact fun U a H' b d=>h U a H' (e.trans b) d
 |bk ρ'=>exact fun U a H' b d=>h U a H' (e.trans b) d
 |ct ρ'=>exact fun U a H' b d=>h U a H' (e.trans b) d
 |rt rv=>exact h
def dr:FS:=fun ρ=> .ok (.nx ρ)
def bG (f g:FS):FS:=fun ρ=>(f ρ).bind fun a=>match a with
 | .nx ρ1=>g ρ1
 |a=> .ok a
def pz (f:FE):FS:=fun ρ=>(f ρ).bind fun a=> .ok (.nx a.2)
def eZ (f:FE) (g:FG):FS:=fun ρ=>(f ρ).bind fun a=>(g a.1 a.2).bind fun b=> .ok (.nx b)
def ka (c:FT) (f g:FS):FS:=fun ρ=>(c ρ).bind fun a=>if a.1=QW then f a.2 else g a.2
def Dp (ρ:bt):PV->Option RV
 | .fz d=>lD (.fz d)
 | .ow ds=>lD (.ow ds)
 | .pl i=>match ρ[i]? with
  |some (lD (.fz d))=>lD (.fz d)
  |some (lD (.ow ds))=>lD (.ow ds)
  |_=>QS
def cW (f:FE):FS:=fun ρ=>(f ρ).bind fun a=>(Res.Sh (Dp a.2 a.1)).bind fun rv=> .ok (.rt rv)
theorem HY:SO K E FQ dr:=fun B Z O Y H ρ D R w=>w O Y H .refl R
theorem bV (i:SO K E t f) (h:SO K E u g):SO K E (HH t u) (bG f g):=by
 intro B Z O Y H ρ D R w;refine i B Z O Y H ρ {D with nx:=u D} R (WR.imp (WR.bind w) fun e b=> ?_);cases e with
 |nx a=>exact fun m d n j l=>h B Z m d n a D l (WR.imp b fun e q=>q.ev j)
 |rt rv=>exact b
 |bk a=>exact b
 |ct a=>exact b
theorem Cf (h:EO K E t f):SO K E (Bq t) (pz f):=by intro B Z O Y H ρ D R w;exact h B Z O Y H ρ _ R (w.bind.imp fun a b g x i d e j=>b g Y i d e)
theorem lX (h:EO K E t f) (l:GO K E g fg):SO K E (CK t g) (eZ f fg):=by intro B Z O Y H ρ D R w;refine h B Z O Y H ρ _ R (w.bind.imp fun a i q x u n o j=> ?_);exact l B Z q Y u a.2 x a.1 _ o j (i.bind.imp fun d e p b r m R2=>e p b r (n.trans m) R2)
theorem NZ (m:Zw K E c fc) (o:SO K E t f) (n:SO K E u g):SO K E (Nw c t u) (ka fc f g):=by
 intro B Z O Y H ρ D R w;refine m B Z O Y H ρ _ R (w.bind.imp fun a e j l h i=> ?_);obtain⟨b,d⟩:=a;cases b with
 |true=>exact o B Z j Y l d D i (WR.imp e fun p q=>q.ev h)
 |false=>exact n B Z j Y l d D i (WR.imp e fun p q=>q.ev h)
theorem MF {pv:PV} (R:Rl K B Z O Y H ρ) (p:Wd K Z O Y H ρ v pv) (e:Dp ρ pv=lD rv) (w:Fin B K Z Q rv):Q v H:=by
 have ow:∀{a:QX} {vs:List V} {ds:List D},O a->Z a=QS->H a=lD (.lst vs)->S0 O K H vs ds->Fin B K Z Q (.ow ds)->Q (.ref a) H:=fun{a vs ds} m l g f w=>
  w a vs H R.same l g (f.ev (Ev.sub fun b z=>z.elim (R.bo b) fun e=>by rw[e];exact m))
 have fz:∀{d:D},DV O K H v d->Fin B K Z Q (.fz d)->Q v H:=fun{d} h w=>w v H R.same (h.ev (Ev.sub R.bo));cases pv with
 |fz d=>cases e;exact fz p w
 |ow ds=>cases e;obtain⟨a,vs,rfl,m,l,g,f,y⟩:=p;exact ow m l g f w
 |pl i=>
  have t:=p;unfold Dp at e;dsimp only at e;cases q:ρ[i]? with
  |none=>rw[q] at e;cases e
  |some o=>
   cases o with
   |none=>rw[q] at e;cases e
   |some x=>
    obtain⟨u,r,n⟩:=R.slot i x q;rw[t] at r;cases r;rw[q] at e;cases x with
    |fz d=>cases e;exact fz n w
    |ow ds=>cases e;obtain⟨a,vs,rfl,m,l,g,f⟩:=n;exact ow m l g f w
    |pl j=>exact n.elim
theorem io (h:EO K E t f):SO K E (LL t) (cW f):=by intro B Z O Y H ρ D R w;refine h B Z O Y H ρ _ R (w.bind.imp fun a b i x j g e d=> ?_);obtain⟨rv,q,b⟩:=b.Sh;exact MF e d q b
def yQ (K:QR) (J:It) (O:ci) (H:Hp) (ds:List D):Prop:=∀U H',Ev O H U H'->ph U H'->
 (∀i,i<ds.length->J.go i H'/\∀x H'',J.yld i H' x H''->S6 H' H''/\∃d,ds[i]? =lD d/\DV U K H'' x d)/\J.stop ds.length H'
abbrev FI:=bt->Res (List D×bt)
def IO (K:QR) (E:XK) (b:TI) (d:FI):Prop:=
 ∀(B:ci) (Z:Hp) (O:ci) (Y:St) (H:Hp) (ρ:bt) (a:It->Hp->Prop),Rl K B Z O Y H ρ->WR K E B Z (fun r=>∀U J H',Ev O H U H'->Rl K B Z U Y H' r.2->yQ K J U H' r.1->a J H') (d ρ)->b Y H a
def pI (gt:FG) (b:FS):List D->FS
 |[],ρ=> .ok (.nx ρ)
 |d::r,ρ=>(gt (.fz d) ρ).bind fun a=>(b a).bind fun e=>match e with
  | .nx ρ2=>pI gt b r ρ2
  | .ct ρ2=>pI gt b r ρ2
  | .bk ρ2=> .ok (.nx ρ2)
  | .rt rv=> .ok (.rt rv)
def oE (d:FI) (gt:FG) (b:FS):FS:=fun ρ=>(d ρ).bind fun a=>pI gt b a.1 a.2
theorem yX (hi:IO K E wi fi) (hg:GO K E g gt) (hb:SO K E tb b):SO K E (Lx wi g tb) (oE fi gt b):=by
 intro B Z O Y H ρ D R w;refine hi B Z O Y H ρ _ R (w.bind.imp fun a N G J X S T Q=> ?_);obtain⟨ds,F⟩:=a;dsimp only at N Q T;refine⟨fun i m f H'=>m=ds.length - i/\i<=ds.length/\∃O2 ρ2,Ev G X O2 H'/\Rl K B Z O2 f H' ρ2/\WR K E B Z (aac K B Z O H D) (pI gt b (ds.drop i) ρ2),⟨_,rfl,RZ _,G,F,.refl,T,N⟩,?_⟩;rintro i m n M ⟨rfl,hi,O2,ρ2,e2,R2,w2⟩;obtain⟨go,o⟩:=Q O2 M e2 R2.od;by_cases z:i<ds.length
 .obtain⟨g1,g2⟩:=go i z
  refine .inr ⟨g1,fun f H'=>i+1<=ds.length/\∃O2 ρ2,Ev G X O2 H'/\Rl K B Z O2 f H' ρ2/\WR K E B Z (aac K B Z O H D) (pI gt b (ds.drop (i+1)) ρ2),fun f H' ⟨h1,h2⟩=>⟨ds.length - (i+1),by omega,rfl,h1,h2⟩,fun x L y=> ?_⟩;obtain⟨P,d,hd,dv⟩:=g2 x L y;have ed:ds.drop i=d::ds.drop (i+1):=by obtain⟨_,q⟩:=QU.mp hd;rw[Ua z,q]
  rw[ed] at w2;have e3:Ev O2 M O2 L:=Ev.grow P;refine hg B Z O2 n L ρ2 x (.fz d) _ (R2.grow P) dv (WR.imp (WR.bind w2) fun C w3 O4 A H4 e4 R4=> ?_);have l:=e2.trans (e3.trans e4);refine hb B Z O4 A H4 C _ R4 (WR.imp (WR.bind w3) fun fl u=> ?_);cases fl with
  |nx h=>exact fun t j I p r=>⟨z,t,h,l.trans p,r,u⟩
  |ct h=>exact fun t j I p r=>⟨z,t,h,l.trans p,r,u⟩
  |bk h=>exact fun t j I p r=>u t j I (S.trans (l.trans p)) r
  |rt rv=>exact u
 .have e:i=ds.length:=by omega
  subst e;rw[Uy (Q4 _)] at w2;exact .inl ⟨o,w2 O2 n M (S.trans e2) R2⟩
def eY:D->Option (List D)
 | .tuple ds=>lD ds
 | .list ds=>lD ds
 |_=>QS
def Hb (K:QR) (d:TE):TI:=fun Y H R=>d Y H fun x b=>∃a,x= .ref a/\(((∃xs,VR K b a xs)/\R (Qb K a) b)\/((∃xs,Vo K b a xs)/\R (PF K a) b))
theorem fJ (w:PE X l tl):PI X tg l (Hb X.K tl):=by
 intro g s Y H R I h;refine cB (w g s Y H _ I h) fun v f ⟨x,n,d,r,t⟩=> ?_;obtain⟨a,e,q⟩:=t;subst e;cases r;rcases q with⟨⟨xs,i⟩,q⟩|⟨⟨xs,i⟩,q⟩
 .obtain⟨m,rv,p,u⟩:=d.list i
  refine Uu p.isList ?_;refine⟨f.heap.objs.size,[f.heap.objs.size],_,_,n,rfl,d.kept fun b o e=>Heap.get?_push_of_some _ e,Dj a _,⟨_,Heap.get?_push_size _ rfl,rfl,rfl⟩,fun b j=> ?_,q⟩;have e:b=f.heap.objs.size:=by simpa using j
  subst e;exact d.YY (Q4 _) (d.Su.fresh (Q4 _))
 .obtain⟨m,rv,p,u⟩:=d.tuple i
  refine W5 (show f.heap.IsTuple a m.toArray from p) ?_;refine⟨f.heap.objs.size,[f.heap.objs.size],_,_,n,rfl,d.kept fun b o e=>Heap.get?_push_of_some _ e,Aa a _,⟨_,Heap.get?_push_size _ rfl,rfl,rfl⟩,fun b j=> ?_,q⟩;have e:b=f.heap.objs.size:=by simpa using j
  subst e;exact d.YY (Q4 _) (d.Su.fresh (Q4 _))
theorem A6 (h:XF O K H a xs) (hd:S0 O K H xs ds):yQ K (Qb K a) O H ds:=by intro U H' e n;have f:=h.ev e;have b:=hd.ev e;refine⟨fun i hi=> ?_,⟨xs,f.1.sq,by rw[hd.length];exact Q4 _⟩⟩;obtain⟨x,l,_⟩:=b.get (Q5 hi);refine⟨⟨xs,x,f.1.sq,l⟩,?_⟩;rintro y m ⟨rfl,hy⟩;obtain⟨d,j,g⟩:=b.acT (hy xs f.1.sq);exact⟨S6.refl _,d,j,g⟩
theorem DM (h:V2 O K H a xs) (hd:S0 O K H xs ds):yQ K (PF K a) O H ds:=by intro U H' e n;have f:=h.ev e;have b:=hd.ev e;refine⟨fun i hi=> ?_,⟨xs,f.1,by rw[hd.length];exact Q4 _⟩⟩;obtain⟨x,l,_⟩:=b.get (Q5 hi);refine⟨⟨xs,x,f.1,l⟩,?_⟩;rintro y m ⟨rfl,hy⟩;obtain⟨d,j,g⟩:=b.acT (hy xs f.1);exact⟨S6.refl _,d,j,g⟩
def jN (fe:FE):FI:=fun ρ=>(fe ρ).bind fun a=>(Res.Sh (xi a.2 a.1)).bind fun b=>(Res.Sh (eY b.1)).bind fun ds=> .ok (ds,b.2)
theorem i4 (h:EO K E tl fe):IO K E (Hb K tl) (jN fe):=by
 intro B Z O Y H ρ r R w;refine h B Z O Y H ρ _ R (w.bind.imp fun a b t x l i p n=> ?_);obtain⟨⟨d,m⟩,q,b⟩:=b.Sh;obtain⟨j,g,R2,o⟩:=t8 p n q;obtain⟨ds,e,b⟩:=b.Sh;dsimp only at e;cases o with
 |tup h f=>cases e;exact⟨_,rfl,.inr ⟨⟨_,h.1⟩,b j _ l (i.trans g) R2 (DM h f)⟩⟩
 |lst h f=>cases e;exact⟨_,rfl,.inl ⟨⟨_,h.1.sq⟩,b j _ l (i.trans g) R2 (A6 h f)⟩⟩
 |_=>cases e
def gB (lo:Int) (n:Nat):List D:=(Rj n).map fun(k:Nat)=> .int (lo+(k:Int))
theorem DS:yQ K (Pm lo n) O H (gB lo n):=by
 intro U H' e d;have a:(gB lo n).length=n:=by unfold gB;rw[QV,R9]
 refine⟨fun i hi=> ?_,by show n<=_;rw[a];exact Q4 _⟩;rw[a] at hi;refine⟨hi,?_⟩;rintro x b ⟨rfl,rfl⟩;exact⟨S6.refl _,.int (lo+i),by unfold gB;rw[Q7,List.getElem?_range hi];rfl,.int _⟩
def kW (i:Int):Prop:= -(2^62)<=i/\i<2^62
noncomputable instance (i:Int):Decidable (kW i):=by unfold kW;infer_instance
def j6:List D->Option (List D)
 |[.int j]=>if kW j then lD (gB 0 j.toNat) else QS
 |_=>QS
def pR (f:List D->Option (List D)) (fa:FA):FI:=fun ρ=>(fa ρ).bind fun a=>(Res.Sh (wX a.2 a.1)).bind fun ds=>(Res.Sh (f ds)).bind fun xs=> .ok (xs,a.2)
theorem jx (h:AO K E ta fa):IO K E (Kx ta) (pR j6 fa):=by
 intro B Z O Y H ρ r R w;refine h B Z O Y H ρ _ R (w.bind.imp fun a d o vs p n f i=> ?_);obtain⟨ds,q,d⟩:=d.Sh;obtain⟨xs,b,d⟩:=d.Sh;have g:=zW f i q;unfold j6 at b;split at b
 .rename_i j
  split at b
  .rename_i e
   cases b;cases g with
   |cons m l=>cases l;cases m;exact⟨j,rfl,e.1,e.2,d o _ p n f DS⟩
  .cases b
 .cases b
end
section
variable {K:QR} {E:XK} {B O Y:ci} {X H H':Hp} {Z:St} {ρ ρ':bt} {v:V}
def Fc:Option PV->Option PV
 |some (.fz d)=>lD (.fz d)
 |_=>QS
def di (ρ:bt):bt:=ρ.map Fc
theorem yP {i:Nat} (h:(di ρ)[i]? =lD (lD x)):∃d,x= .fz d/\ρ[i]? =lD (lD (.fz d)):=by
 unfold di at h;rw[Q7] at h;cases q:ρ[i]? with
 |none=>rw[q] at h;cases h
 |some o=>
  rw[q] at h;have a:=Rm h;unfold Fc at a;split at a
  .cases a;exact⟨_,rfl,rfl⟩
  .cases a
def uD (ρ:bt):List Nat->Option (List D×bt)
 |[]=>lD ([],ρ)
 |j::r=>match xi ρ (.pl j) with
  |some (d,ρ1)=>(match uD ρ1 r with
   |some (c,ρ2)=>lD (d::c,ρ2)
   |none=>QS)
  |none=>QS
theorem CY (R:Rl K B X O Z H ρ) (h:xi ρ (.pl i)=lD (d,ρ')):∃v,Z[i]? =lD (lD v):=by
 have a:toS ρ i ρ[i]? =lD (d,ρ'):=h;cases q:ρ[i]? with
 |none=>rw[q] at a;cases a
 |some o=>
  cases o with
  |none=>rw[q] at a;cases a
  |some x=>obtain⟨v,b,_⟩:=R.slot i x q;exact⟨v,b⟩
theorem xh:∀{f:List Nat} {ds:List D} {O:ci} {ρ ρ':bt},Rl K B X O Z H ρ->uD ρ f=lD (ds,ρ')->∃Y vs,Ev O H Y H/\Rl K B X Y Z H ρ'/\S0 Y K H vs ds/\f.map (fun j=>(Z[j]?).join)=vs.map lD
 |[],_,O,_,_,R,e=>by cases e;exact⟨O,[],.refl,R,.nil,rfl⟩
 |j::r,_,O,ρ,ρ',R,e=>by
  unfold uD at e;cases q:xi ρ (.pl j) with
  |none=>rw[q] at e;cases e
  |some p=>
   obtain⟨d,a⟩:=p;rw[q] at e;dsimp only at e;cases q2:uD a r with
   |none=>rw[q2] at e;cases e
   |some i=>obtain⟨c,h⟩:=i;rw[q2] at e;cases e;obtain⟨v,b⟩:=CY R q;obtain⟨w,m,t,o⟩:=t8 (pv:= .pl j) R b q;obtain⟨u,vs,g,R2,n,l⟩:=xh t q2;exact⟨u,v::vs,m.trans g,R2,.cons (o.ev g) n,by rw[Ri,Ri,l,b];rfl⟩
def d5 (gt:FG) (ft:FT) (fe:FE):List D->bt->List D->Res (List D)
 |[],_,acc=> .ok acc
 |d::r,ρ,acc=>(gt (.fz d) ρ).bind fun e=>(ft e).bind fun b=>if b.1=QW then(fe b.2).bind fun a=>(Res.Sh (xi a.2 a.1)).bind fun x=>
   if acc.length<1000000 then d5 gt ft fe r (di x.2) (acc++[x.1]) else .bad
  else d5 gt ft fe r (di b.2) acc
def lF:Res α->Res α
 | .er _=> .bad
 |r=>r
def gu (n:Nat) (b:List Nat) (e:FI) (gt:FG) (ft:FT) (fe:FE):FE:=fun ρ=>(e ρ).bind fun a=>(Res.Sh (uD a.2 b)).bind fun c=>
 (lF (d5 gt ft fe a.1 (Q6 n QS++c.1.map fun d=>lD (.fz d)) [])).bind fun xs=> .ok (.ow xs,c.2)
theorem Bb {own:List Str} (h:own.length=n):own.map (fun _=>(QS:Option V))=Q6 n QS:=by
 subst h
 induction own with
 |nil=>rfl
 |cons x r a=>rw[Ri,a,Rg,Si]
theorem Bz (h:WR K E B X P (lF r)):∃a,r= .ok a/\P a:=by
 cases r with
 |ok a=>exact⟨a,rfl,h⟩
 |er x=>exact h.elim
 |bad=>exact h.elim
def OA (K:QR) (J:It) (O:ci) (H:Hp) (ds:List D):Prop:=∀Y H',Ev O H Y H'->S6 H H'->ph Y H'->
 (∀i,i<ds.length->J.go i H'/\∀x H'',J.yld i H' x H''->S6 H' H''/\∃d,ds[i]? =lD d/\DV Y K H'' x d)/\J.stop ds.length H'
def Qu (K:QR) (E:XK) (b:TI) (d:FI):Prop:=
 ∀(B:ci) (X:Hp) (O:ci) (Z:St) (H:Hp) (ρ:bt) (a:It->Hp->Prop),Rl K B X O Z H ρ->WR K E B X (fun r=>∀Y J H',Ev O H Y H'->Rl K B X Y Z H' r.2->OA K J Y H' r.1->a J H') (d ρ)->b Z H a
theorem IO.s (h:IO K E wi fi):Qu K E wi fi:=fun B X O Z H ρ d R w=>h B X O Z H ρ d R (w.imp fun r q Y J H' e R a=>q Y J H' e R fun f g b _ n=>a f g b n)
theorem Ff (hn:own.length=n) (hf:fv.map (·.2)=fj)
  (hi:Qu K E wi fi) (hg:GO K E0 g gt) (ht:Zw K E0 tc ft) (he:EO K E0 te fe):EO K E (yw own fv wi g tc te) (gu n fj fi gt ft fe):=by
 intro B X O Z H ρ Q R w;refine hi B X O Z H ρ _ R (w.bind.imp fun a w1 O1 J H1 e1 R1 it=> ?_);obtain⟨ds,ρ1⟩:=a;obtain⟨⟨cs,ρ2⟩,qc,w1⟩:=w1.Sh;dsimp only at qc it;obtain⟨I,vs,e2,R2,dvs,hvs⟩:=xh R1 qc;obtain⟨xs,qx,w1⟩:=Bz (WR.bind w1);intro l F;have hB:∀{H':Hp},S6 H1 H'->H' l≠QS->∀a,cj I l a->H' a≠QS:=fun{H'} s nd a h z=>h.elim (fun q=>R2.od a (s.free z) q) fun e=>nd (by rw[<-e];exact z);refine⟨fun i m L H'=>m=ds.length - i/\i<=ds.length/\∃(A:List D) (G:List V) (t:bt),S6 H1 H'/\H' l=lD (.lst G)/\S0 (cj I l) K H' G A/\L.length=t.length/\(∀(j:Nat) (x:PV),t[j]? =lD (lD x)->∃d u,x=PV.fz d/\L[j]? =lD (lD u)/\DV (cj I l) K H' u d)/\d5 gt ft fe (ds.drop i) t A= .ok xs,
  ⟨_,rfl,RZ _,[],[],_,b4 F _,aM,.nil,?_,fun j x M=> ?_,qx⟩,?_⟩
 .unfold iY;rw[Q3,Q3,QV,QV,RK,QV,hn,<-dvs.length];have:=congrArg Vu hvs;rw[QV,QV,<-hf,QV] at this;omega
 .have hm:fv.map (fun p=>(Z[p.2]?).join)=vs.map lD:=by rw[<-hvs,<-hf,RT];rfl
  unfold iY;rw[Bb hn,hm];by_cases hj:j<n
  .rw[Ra (by rw[RK];exact hj),Tz,if_pos hj] at M;cases M
  .rw[RE (by rw[RK];omega),RK,Q7] at M⊢
   cases qd:cs[j - n]? with
   |none=>rw[qd] at M;cases M
   |some d=>rw[qd] at M;cases M;obtain⟨u,hu,du⟩:=dvs.get qd;exact⟨d,u,rfl,by rw[hu];rfl,du.ev (Ev.add (b4 F _) F)⟩
 .rintro i m L H' ⟨rfl,hi,A,G,t,s,hD,dys,hl,hsl,f⟩
  have nD:H' l≠QS:=by rw[hD];simp
  have no':=fun a z h=>hB s nD a h z;have ev1:=e2.trans (Ev.add s F);obtain⟨go,stop⟩:=it (cj I l) H' ev1 s no';by_cases Va:i<ds.length
  .obtain⟨g1,g2⟩:=go i Va
   refine .inr ⟨g1,fun C N=>i+1<=ds.length/\∃(A:List D) (G:List V) (t:bt),S6 H1 N/\N l=lD (.lst G)/\S0 (cj I l) K N G A/\C.length=t.length/\(∀(j:Nat) (x:PV),t[j]? =lD (lD x)->∃d u,x=PV.fz d/\C[j]? =lD (lD u)/\DV (cj I l) K N u d)/\d5 gt ft fe (ds.drop (i+1)) t A= .ok xs,
    fun C N ⟨U,h2⟩=>⟨ds.length - (i+1),by omega,rfl,U,h2⟩,fun x H3 y=> ?_⟩
   obtain⟨s3,d,hd,dv⟩:=g2 x H3 y;have ed:ds.drop i=d::ds.drop (i+1):=by obtain⟨_,q⟩:=QU.mp hd;rw[Ua Va,q]
   rw[ed] at f;have hD3:=s3 _ _ hD;have nD3:H3 l≠QS:=by rw[hD3];simp
   have sv:=s.trans s3;have RC:Rl K (cj I l) H3 (cj I l) L H3 t:=⟨S6.refl _,fun _ h=>h,hB sv nD3,fun a z h=>hB sv nD3 a h z,hl,fun j x M=>by obtain⟨d,u,rfl,U,h2⟩:=hsl j x M;exact⟨u,U,h2.ev (Ev.grow s3)⟩,fun j k xs G w hj=>by obtain⟨d,u,e,_⟩:=hsl j _ hj;cases e⟩;unfold d5 at f;have back:∀{O5:ci} {C:St} {N:Hp} {P:bt} {H6:Hp},Rl K (cj I l) H3 O5 C N P->(∀b o,b≠l->N b=lD o->H6 b=lD o)->C.length=(di P).length/\∀(j:Nat) (x:PV),(di P)[j]? =lD (lD x)->∃d u,x=PV.fz d/\C[j]? =lD (lD u)/\DV (cj I l) K H6 u d:=fun{O5 C N P H6} T k=>by refine⟨by unfold di;rw[QV];exact T.len,fun j x M=> ?_⟩;obtain⟨d,rfl,hxx⟩:=yP M;obtain⟨u,U,h2⟩:=T.slot j _ hxx;refine⟨d,u,rfl,U,DV.ev (fun b o h n=>⟨k b o (fun e=>n (.inr e)) h,n⟩) (DV.ev (Ev.sub T.bo) h2)⟩
   refine hg _ _ _ L H3 t x (.fz d) _ RC dv ?_;cases qg:gt (.fz d) t with
   |er z=>rw[qg] at f;cases f
   |bad=>rw[qg] at f;cases f
   |ok ρ3=>
    rw[qg,Res.bind_ok] at f;intro O4 σ4 H4 e4 R4;refine ht _ _ _ σ4 H4 ρ3 _ R4 ?_;cases qt:ft ρ3 with
    |er z=>rw[qt] at f;cases f
    |bad=>rw[qt] at f;cases f
    |ok b=>
     obtain⟨b,ρ4⟩:=b;rw[qt,Res.bind_ok] at f;intro O5 N e5 T;cases b with
     |false=>rw[if_neg Rc] at f⊢;obtain⟨l5,k5⟩:=back T fun b o _ h=>h;refine⟨Va,A,G,di ρ4,sv.trans T.same,T.same _ _ hD3,?_,l5,k5,f⟩;exact dys.ev (Ev.grow (s3.trans T.same))
     |true=>
      rw[if_pos rfl] at f⊢;refine he _ _ _ σ4 N ρ4 _ T ?_;cases qe:fe ρ4 with
      |er z=>rw[qe] at f;cases f
      |bad=>rw[qe] at f;cases f
      |ok r=>
       rw[qe,Res.bind_ok] at f;intro O6 yv H6 e6 R6 p6;cases q7:xi r.2 r.1 with
       |none=>rw[q7] at f;cases f
       |some xr=>
        obtain⟨xd,ρ7⟩:=xr;rw[q7] at f;obtain⟨O7,e7,R7,dv7⟩:=t8 R6 p6 q7;have hD7:=R7.same _ _ hD3;have S:(if A.length<1000000 then d5 gt ft fe (ds.drop (i+1)) (di ρ7) (A++[xd]) else .bad)= .ok xs:=f;by_cases hl6:A.length<1000000
        .rw[if_pos hl6] at S
         have up:∀b o,b≠l->H6 b=lD o->bC H6 l (.lst (G++[yv])) b=lD o:=fun b o hb h=>by rw[aH hb];exact h
         have eG:Ev (cj I l) H6 (cj I l) (bC H6 l (.lst (G++[yv]))):=fun b o h n=>⟨up b o (fun e=>n (.inr e)) h,n⟩;have ahv:=dys.ev (Ev.grow (s3.trans R7.same));obtain⟨l5,k5⟩:=back R7 up;refine⟨G,hD7,uG (by rw[dys.length];exact hl6),Va,A++[xd],G++[yv],di ρ7,fun b o h=> ?_,aM,?_,l5,k5,S⟩
         .rw[aH (b8 h F)];exact R7.same _ _ (sv _ _ h)
         .exact(ahv.append (.cons (DV.ev (Ev.sub R7.bo) dv7) .nil)).ev eG
        .rw[if_neg hl6] at S;cases S
  .have e:i=ds.length:=by omega
   subst e;rw[Uy (Q4 _)] at f;have f:=f;cases f;refine .inl ⟨stop,?_⟩;refine w1 (cj I l) (.ref l) H' (e1.trans ev1) (R2.add s F nD) ⟨l,G,rfl,.inr rfl,R2.ab5 F,hD,dys,fun k es hk z=> ?_⟩;obtain⟨u,U,b,us,e2,g1,g2,g3,g4⟩:=R2.slot k _ hk;rw[z] at U;cases U;cases e2;rw[F] at g3;cases g3
theorem fM (hn:own.length=n) (d:fv.map (·.2)=fj)
  (hi:IO K E wi fi) (b:GO K E0 g gt) (a:Zw K E0 tc ft) (e:EO K E0 te fe):EO K E (yw own fv wi g tc te) (gu n fj fi gt ft fe):=Ff hn d hi.s b a e
def cP (F:FN) (n:Nat) (fa:FA):FE:=fun ρ=>(fa ρ).bind fun a=>(Res.Sh (pV a.2 a.1)).bind fun b=>if b.1.length=n then(lF (F b.1)).bind fun rv=> .ok (rv.pv,b.2) else .bad
theorem gH (ha:AO K E ta fa):EO K E (ng (nz K n F) [] E0 ta) (cP F n fa):=by
 intro B X O Z H ρ Q R w;refine ha B X O Z H ρ _ R (w.bind.imp fun a f A vs C o r i=> ?_);obtain⟨⟨ds,e⟩,q,b⟩:=f.Sh;obtain⟨u,m,R2,d⟩:=rZ r i q;dsimp only at b;by_cases hn:ds.length=n
 .rw[if_pos hn] at b;obtain⟨rv,g,b⟩:=Bz (WR.bind b);rw[RB];refine⟨d.length.trans hn,u,ds,fun a z j=>R2.od a j z,d,?_⟩;rw[g];exact mi R2 fun t v y l p h=>b t v y (o.trans (m.trans l)) p h
 .rw[if_neg hn] at b;exact b.elim
end
def fQ (N:Nat) (g:FS):FN:=fun ds=>(g (ds.map (fun d=>lD (.fz d))++Q6 (N - ds.length) QS)).bind fun a=>match a with
 | .rt rv=> .ok rv
 | .nx _=> .ok (.fz .none)
 |_=> .bad
theorem Hl (g:∀a,B a->H a≠QS) (l:S0 B K H vs ds):Rl K B H B (L2.start N vs) H (ds.map (fun d=>lD (.fz d))++Q6 (N.length - ds.length) QS):=by
 have n:=l.length;refine⟨S6.refl _,fun _ h=>h,g,fun a z h=>g a h z,?_,fun i x m=> ?_,fun i j xs r w hi=> ?_⟩
 .unfold L2.start;rw[Q3,Q3,QV,QV,RK,RK,n]
 all_goals
  have b:∀{i:Nat} {x:PV},(ds.map (fun d=>lD (PV.fz d))++Q6 (N.length - ds.length) QS)[i]? =lD (lD x)->∃d,x= .fz d/\ds[i]? =lD d:=fun{i x} h=>by
   by_cases hi:i<ds.length
   .rw[Ra (by rw[QV];exact hi),Q7] at h
    cases q:ds[i]? with
    |none=>rw[q] at h;cases h
    |some d=>rw[q] at h;cases h;exact⟨d,rfl,rfl⟩
   .rw[RE (by rw[QV];omega),Tz] at h;split at h<;>cases h
 .obtain⟨d,rfl,o⟩:=b m;obtain⟨v,f,p⟩:=l.get o;refine⟨v,?_,p⟩;have hi:=(QU.mp f).1;unfold L2.start;rw[Ra (by rw[QV];exact hi),Q7,f];rfl
 .obtain⟨d,e,_⟩:=b hi;cases e
theorem QK (F:Ut K x qual st f fd) (S:TN N ps (aG st)) (hn:ps.length=n)
  (p:∀(a:QT) (A:RG) (outer:List Env) (s:Q0) (H:Hp) (E:XK),Tt k (A.deeper (Ry qual (aG st) s.heap.objs.size f a))->
   ∃t,Xi (fV dm P w K mg base N qual (aG st) f a A outer s H E).nox (cr st) t/\SO K E t g):FnOk P w K mg base dm (k+1) f fd ps (nz K n (fQ N.length g)):=by
 refine F.ok S (fun vs H Q E h=>h.1.trans hn.symm) (fun a A outer s H vs Q E j h=> ?_);obtain⟨t,d,i⟩:=p a A outer s H E j;obtain⟨u,B,ds,l,o,h⟩:=h;refine⟨t,d,i B H B _ H _ _ (Hl l o) (WR.imp (WR.bind h) fun m q=> ?_)⟩;cases m with
 |rt rv=>exact q
 |nx ρ=>exact fun v b r e R=>q .TL r R.same .TL
 |bk ρ=>exact q.elim
 |ct ρ=>exact q.elim
end L3
namespace L3
open PySem PySem.Spec PyProof.Rows L2
theorem OpR.or (h:OpR X f r) (h':OpR X f r'):OpR X f (fun x y H Q=>r x y H Q\/r' x y H Q):=by
 intro a s b H x y v u Q I e d q;rcases q with q|q
 .exact h a s b H x y v u Q I e d q
 .exact h' a s b H x y v u Q I e d q
theorem M9 (I:Inv X pins σ H s) (h:Vb X.K H l xs):xs.length<=Q8/\∃(a:List QT) (n:Nat),Vals xs a/\xs.length=a.length/\s.heap.get? l=lD {cls:= .type "list",data:= .seq a.toArray n}:=by
 rcases h with(h|⟨o,h⟩)|⟨a,n,h1,h2,h3⟩
 .exact I.adZ h
 .obtain⟨_,z,a,n,r,e⟩:=I.Su l _ h;exact⟨z,a,n,r,r.length,e⟩
 .exact⟨h2,a,n,h3,h3.length,I.XB _ _ h1⟩
def Kk (K:QR):R2:=fun x y H Q=>∃l b xs zs,x= .ref l/\y= .ref b/\Vb K H l xs/\Vb K H b zs/\xs.length+zs.length<=Q8/\∀p,H p=QS->Q (.ref p) (bC H p (.lst (xs++zs)))
theorem HF:OpR X (SY .Add) (Kk X.K):=by
 intro a s w H x y v u Q I i g h;obtain⟨l,b,xs,A,rfl,rfl,m,o,E,q⟩:=h;cases i;cases g;obtain⟨z,f,n,r,F,e⟩:=M9 I m;obtain⟨B,d,C,j,G,t⟩:=M9 I o;refine PySem.P.add_list e t ?_ (by rw[Q9,Q9];omega);have p:f.toArray++d.toArray=(f++d).toArray:=by simp
 rw[p];exact⟨.ref _,_,I.aeb (r.append j) (by rw[Q3];omega),rfl,q _ I.fresh⟩
def Kq (K:QR):R2:=fun x y H Q=>∃l k xs,x= .ref l/\y= .int k/\Vb K H l xs/\ -(2^63)<=k/\k<2^63/\xs.length*k.toNat<=Q8/\
 ∀p,H p=QS->Q (.ref p) (bC H p (.lst (Q6 k.toNat xs).flatten))
theorem J0:OpR X (SY .Mult) (Kq X.K):=by
 intro o s O H x y v u Q I E C h;obtain⟨l,k,xs,rfl,rfl,J,M,L,p,q⟩:=h;cases E;obtain⟨t,rfl⟩:=C;obtain⟨z,b,n,r,G,e⟩:=M9 I J;have d:b.toArray.size*k.toNat<=Q8:=by rw[Q9,<-G];exact p
 have g:¬b.toArray.size*k.toNat>(2^63 - 1)/8:=by
  have:(Q8:Nat)<=(2^63 - 1)/8:=by decide
  omega
 have f:¬(!Builtin.List.listFitsIndex k)=QW:=by rw[fitsIndex_both M L];exact Rc
 have i:¬Builtin.List.listTooLong (b.toArray.size*k.toNat)=QW:=by rw[Et d];exact Rc
 have j:VU (fun A w=>A++w) #[] (Q6 (if b.toArray.isEmpty=QW then 0 else k.toNat) b.toArray)=(Q6 k.toNat b).flatten.toArray:=by
  have N:=fun m=>by have:=og b m [];rw[V0] at this;exact this
  rw[N];cases b with
  |nil=>simp
  |cons a P=>rw[if_neg (by simp)]
 refine ZO (by decide) ⟨_,e,rfl⟩ (fun B=>XQ B k t) noFill_list_mul F.fills_int_mul F.slot_int_rmul repeat_list F.slot_int_index.lookup
  (WE F.slot_int_rmul (XQ s k t) F.entry_int_rmul (F.args_int_rmul_2 _ _) (int___rmul___int_list k t l b.toArray n)
   ⟨e,rfl,⟨_,e,rfl⟩,WE F.slot_list_mul ⟨_,e,rfl⟩ F.entry_list_mul (F.args_list_mul_2 _ _) (AutoListH.list___mul___list_int_3 l b.toArray n k t f g i) ⟨e,?_⟩⟩)
 rw[j];exact⟨.ref _,_,I.aeb (r.rep k.toNat) (by rw[Bk,Nat.mul_comm];exact p),rfl,q _ I.fresh⟩
section
variable {K:QR}
def fI (g:Int->Int->Int):D->D->Option RV
 | .int i,.int j=>lD (.fz (.int (g i j)))
 |_,_=>QS
def fB (g:Int->Int->Bool):D->D->Option RV
 | .int i,.int j=>lD (.fz (.bool (g i j)))
 |_,_=>QS
def ML (C:Int->Int->Bool) (g:Int->Int->Int):D->D->Option RV
 | .int i,.int j=>if C i j=QW then lD (.fz (.int (g i j))) else QS
 |_,_=>QS
theorem xO (h:fI g dx dy=lD rv):∃i j,dx= .int i/\dy= .int j/\rv= .fz (.int (g i j)):=by
 unfold fI at h;split at h
 .cases h;exact⟨_,_,rfl,rfl,rfl⟩
 .cases h
theorem K0:mw K (wE fun i j=> .int (g i j)) (fI g):=by intro O H x y dx d rv Q n b a e q;obtain⟨i,j,rfl,rfl,rfl⟩:=xO e;cases b;cases a;exact⟨i,j,rfl,rfl,q.at (.int _)⟩
theorem Ce:mw K (wE fun i j=> .bl (g i j)) (fB g):=by
 intro O H x y dx d rv Q n b a e q;unfold fB at e;split at e
 .cases e;cases b;cases a;exact⟨_,_,rfl,rfl,q.at (.bl _)⟩
 .cases e
theorem rC (f:∀i j,C i j=QW->C' i j):mw K (rI C' fun i j=> .int (g i j)) (ML C g):=by
 intro O H x y dx h rv Q n b a e q;unfold ML at e;split at e
 .split at e
  .rename_i d;cases e;cases b;cases a;exact⟨_,_,rfl,rfl,f _ _ d,q.at (.int _)⟩
  .cases e
 .cases e
theorem De (h:DX O K H x (.list ds)):∃a xs,x= .ref a/\Vb K H a xs/\S0 O K H xs ds:=h
theorem Bu (h:DX O K H x (.tuple ds)):∃a xs,x= .ref a/\V2 O K H a xs/\S0 O K H xs ds:=DB h rfl
def EZ (K:QR):R2:=fun x y H Q=>wE (fun i j=> .int (i+j)) x y H Q\/Kk K x y H Q\/KQ K x y H Q
theorem iE:OpR X (SY .Add) (EZ X.K):=OpR.or Ly (OpR.or HF Jw)
def db:D->D->Option RV
 | .int i,.int j=>lD (.fz (.int (i+j)))
 | .list xs,.list ys=>if xs.length+ys.length<=1000000 then lD (.ow (xs++ys)) else QS
 | .tuple xs,.tuple ys=>if xs≠[]/\xs.length+ys.length<=1000000 then lD (.fz (.tuple (xs++ys))) else QS
 |_,_=>QS
theorem BF (h:n<=1000000):n<=Q8:=RO h (by decide)
theorem S0.ne (h:S0 O K H vs ds):vs=[]↔ds=[]:=by cases h<;>simp
theorem iC:mw K (EZ K) db:=by
 intro O H x y dx p rv Q n l j e q;unfold db at e;split at e
 .cases e;cases l;cases j;exact .inl ⟨_,_,rfl,rfl,q.at (.int _)⟩
 .split at e
  .rename_i g;cases e;obtain⟨a,xs,rfl,h,d⟩:=De l;obtain⟨b,i,rfl,m,f⟩:=De j;exact .inr (.inl ⟨a,b,xs,i,rfl,rfl,h,m,BF (by rw[d.length,f.length];exact g),Fin.new (d.append f) q⟩)
  .cases e
 .split at e
  .rename_i g;cases e;obtain⟨a,xs,rfl,h,d⟩:=Bu l;obtain⟨b,i,rfl,m,f⟩:=Bu j;refine .inr (.inr ⟨a,b,xs,i,rfl,rfl,h.1,m.1,fun z=>g.1 (d.ne.mp z),BF (by rw[d.length,f.length];exact g.2),fun z=> ?_,fun _=>Fin.aan (d.append f) n q⟩);have o:=f.ne.mp z;subst o;rw[RB] at q;exact q.at (.tup h d)
  .cases e
 .cases e
def GS (K:QR):R2:=fun x y H Q=>rI abH (fun i j=> .int (i*j)) x y H Q\/Kq K x y H Q
theorem HX:OpR X (SY .Mult) (GS X.K):=OpR.or LU J0
def gY (i:Int):Bool:=decide (-(2^64)<i/\i<2^64)
theorem tm (h:gY i=QW): -(2^64)<i/\i<2^64:=of_decide_eq_true h
def zj:D->D->Option RV
 | .int i,.int j=>if(gY i||gY j)=QW then lD (.fz (.int (i*j))) else QS
 | .list xs,.int k=>if xs.length*k.toNat<=1000000/\ -(2^63)<=k/\k<2^63 then lD (.ow (Q6 k.toNat xs).flatten) else QS
 |_,_=>QS
theorem IR:mw K (GS K) zj:=by
 intro O H x y dx i rv Q n f d e q;unfold zj at e;split at e
 .split at e
  .rename_i b
   cases e;cases f;cases d;refine .inl ⟨_,_,rfl,rfl,?_,q.at (.int _)⟩;rcases(U3 _ _).mp b with z|z
   .exact .inl (tm z)
   .exact .inr (tm z)
  .cases e
 .split at e
  .rename_i b;cases e;cases d;obtain⟨a,xs,rfl,h,g⟩:=De f;exact .inr ⟨a,_,xs,rfl,rfl,h,b.2.1,b.2.2,BF (by rw[g.length];exact b.1),Fin.new (g.flat _) q⟩
  .cases e
 .cases e
def pN:=fI fun i j=>i - j
theorem Ct:mw K (wE fun i j=> .int (i - j)) pN:=K0
def LC (_ j:Int):Bool:=decide (0<j)
def oj:=ML LC fun i j=>i % j
theorem HR:mw K (rI (fun _ j=>0<j) fun i j=> .int (i % j)) oj:=rC fun i j h=>of_decide_eq_true h
def Nt (_ j:Int):Bool:=decide (0<j/\j<2^128)
def CB:=ML Nt fun i j=>i/j
theorem IE:mw K (rI (fun _ j=>0<j/\j.natAbs.log2<9000) fun i j=> .int (i/j)) CB:=rC fun i j h=>by
 have a:=of_decide_eq_true h;refine⟨a.1,?_⟩;have b:j.natAbs<2^128:=by have:=a.2;omega
 have d:=(Nat.log2_lt (by omega)).mpr b;omega
def yA (i j:Int):Bool:=decide (0<=j/\j<=1000000/\i.natAbs<2^64)
theorem Bf (i j:Int) (h:yA i j=QW):FZ i j:=by unfold yA at h;exact(show 0<=j/\j<=1000000/\i.natAbs<2^64 from of_decide_eq_true h)
def JB:=ML yA fun i j=>i^j.toNat
theorem Js:mw K (rI FZ fun i j=> .int (i^j.toNat)) JB:=rC Bf
def LY:=ML yA fun i j=>i*2^j.toNat
theorem AL:mw K (rI FZ fun i j=> .int (i*2^j.toNat)) LY:=rC Bf
def NW (_ j:Int):Bool:=decide (0<=j)
def Hg:=ML NW fun i j=>i/2^j.toNat
theorem BZ:mw K (rI (fun _ j=>0<=j) fun i j=> .int (i/2^j.toNat)) Hg:=rC fun i j h=>of_decide_eq_true h
def A4:=fI fun i j=>Builtin.bitAnd i j
theorem A5:mw K (wE fun i j=> .int (Builtin.bitAnd i j)) A4:=K0
def IA:=fB fun i j=>decide (i<j)
def PU:=fB fun i j=>decide (i<=j)
def IQ:=fB fun i j=>decide (j<i)
def PD:=fB fun i j=>decide (j<=i)
theorem uV:mw K (wE fun i j=> .bl (decide (i<j))) IA:=Ce
theorem D5:mw K (wE fun i j=> .bl (decide (i<=j))) PU:=Ce
theorem Ai:mw K (wE fun i j=> .bl (decide (j<i))) IQ:=Ce
theorem Ha:mw K (wE fun i j=> .bl (decide (j<=i))) PD:=Ce
def lQ (d:D):Bool:=d.canLay0&&decide (d.depth<=64)
def cY (d e:D):Option RV:=if(lQ d&&e.canLay0)=QW then lD (.fz (.bool (QZ.eqv d e))) else QS
def nW (d e:D):Option RV:=if(lQ d&&e.canLay0)=QW then lD (.fz (.bool (!QZ.eqv d e))) else QS
theorem kH:mw K (Jl K Q2) cY:=by
 intro O H x y dx f rv Q n d b e q;unfold cY at e;split at e
 .rename_i a;cases e;unfold lQ at a;simp only[Rx,decide_eq_true_eq] at a;exact⟨dx,f,d.plain,b.plain,a.1.1,a.2,a.1.2,q.at (.bl _)⟩
 .cases e
theorem rQ:mw K (Jl K QW) nW:=by
 intro O H x y dx f rv Q n d b e q;unfold nW at e;split at e
 .rename_i a;cases e;unfold lQ at a;simp only[Rx,decide_eq_true_eq] at a;exact⟨dx,f,d.plain,b.plain,a.1.1,a.2,a.1.2,q.at (.bl _)⟩
 .cases e
def oU:D->D->Option RV
 | .none,.none=>lD (.fz (.bool QW))
 |_,.none=>lD (.fz (.bool Q2))
 |_,_=>QS
def mI:D->D->Option RV
 | .none,.none=>lD (.fz (.bool Q2))
 |_,.none=>lD (.fz (.bool QW))
 |_,_=>QS
theorem Ft (h:DX O K H x d) (hd:d≠ .none):x≠ .TL:=by
 cases d with
 |none=>exact absurd rfl hd
 |list ds=>obtain⟨a,xs,rfl,_⟩:=De h;simp
 |tuple ds=>obtain⟨a,xs,rfl,_⟩:=Bu h;simp
 |bool b=>cases h;simp
 |int b=>cases h;simp
 |str b=>cases h;simp
 |dict b=>cases h
theorem uL:mw K (fun x y H Q=>y= .TL/\Q (.bl (decide (x= .TL))) H) oU:=by
 intro O H x y dx f rv Q n b a e q;unfold oU at e;split at e
 .cases e;cases b;cases a;exact⟨rfl,q.at (.bl _)⟩
 .rename_i d;cases e;cases a;refine⟨rfl,?_⟩;rw[decide_eq_false (Ft b d)];exact q.at (.bl _)
 .cases e
theorem Bh:mw K (fun x y H Q=>y= .TL/\Q (.bl (!decide (x= .TL))) H) mI:=by
 intro O H x y dx f rv Q n b a e q;unfold mI at e;split at e
 .cases e;cases b;cases a;exact⟨rfl,q.at (.bl _)⟩
 .rename_i d;cases e;cases a;refine⟨rfl,?_⟩;rw[decide_eq_false (Ft b d)];exact q.at (.bl _)
 .cases e
def Jc (K:QR) (neg:Bool):R2:=fun x y H Q=>∃d ds,L2.DV K H x d/\(L2.DV K H y (.list ds)\/L2.DV K H y (.tuple ds))/\d.canLay0=QW/\QZ.canLayAll0 ds=QW/\d.depth<=64/\Q (.bl (if neg then !(ds.any fun e=>QZ.eqv e d) else ds.any fun e=>QZ.eqv e d)) H
theorem uN (p:X.A.units+65<cLine):OpR X (Tf .In) (Jc X.K Q2):=by
 intro g s o H x y v u Q I l e h;obtain⟨d,ds,n,a,j,i,m,q⟩:=h;obtain⟨r,f⟩:=n.reads I l;have hm:min (QZ.depthAll ds) d.depth<=64:=RO (XO _ _) m;rcases a with a|a
 .obtain⟨bs,b⟩:=a.reads I e;exact afH b f i j (by omega) ⟨.bl _,H,I,rfl,q⟩
 .obtain⟨bs,b⟩:=a.reads I e;exact afI b f i j (by omega) ⟨.bl _,H,I,rfl,q⟩
theorem HW (p:X.A.units+65<cLine):OpR X (Tf .NotIn) (Jc X.K QW):=by
 intro g s o H x y v u Q I l e h;obtain⟨d,ds,n,a,j,i,m,q⟩:=h;obtain⟨r,f⟩:=n.reads I l;have hm:min (QZ.depthAll ds) d.depth<=64:=RO (XO _ _) m;rcases a with a|a
 .obtain⟨bs,b⟩:=a.reads I e;exact afJ b f i j (by omega) ⟨.bl _,H,I,rfl,q⟩
 .obtain⟨bs,b⟩:=a.reads I e;exact afK b f i j (by omega) ⟨.bl _,H,I,rfl,q⟩
def Im (d e:D):Option RV:=match eY e with
 |some ds=>if(lQ d&&QZ.canLayAll0 ds)=QW then lD (.fz (.bool (ds.any fun e=>QZ.eqv e d))) else QS
 |none=>QS
def Aq (d e:D):Option RV:=match eY e with
 |some ds=>if(lQ d&&QZ.canLayAll0 ds)=QW then lD (.fz (.bool (!ds.any fun e=>QZ.eqv e d))) else QS
 |none=>QS
theorem Fz (a:DX O K H y e) (h:eY e=lD ds):L2.DV K H y (.list ds)\/L2.DV K H y (.tuple ds):=by
 unfold eY at h;split at h
 .cases h;exact .inr a.plain
 .cases h;exact .inl a.plain
 .cases h
theorem v3:mw K (Jc K Q2) Im:=by
 intro O H x y dx g rv Q n d b e q;unfold Im at e;split at e
 .rename_i ds f
  split at e
  .rename_i a;cases e;unfold lQ at a;simp only[Rx,decide_eq_true_eq] at a;exact⟨dx,ds,d.plain,Fz b f,a.1.1,a.2,a.1.2,q.at (.bl _)⟩
  .cases e
 .cases e
theorem Ia:mw K (Jc K QW) Aq:=by
 intro O H x y dx g rv Q n d b e q;unfold Aq at e;split at e
 .rename_i ds f
  split at e
  .rename_i a;cases e;unfold lQ at a;simp only[Rx,decide_eq_true_eq] at a;exact⟨dx,ds,d.plain,Fz b f,a.1.1,a.2,a.1.2,q.at (.bl _)⟩
  .cases e
 .cases e
def bq (d e:D):Option RV:=match eY d,e with
 |some ds,.int i=>(lx ds i).map .fz
 |_,_=>QS
theorem Gr (h:S0 O K H xs ds) (e:lx ds i=lD d):∃v,lx xs i=lD v/\DV O K H v d:=by
 unfold lx at e⊢;rw[h.length];cases q:KR ds.length i with
 |none=>rw[q] at e;cases e
 |some j=>rw[q] at e;exact h.get e
theorem bN:mw K (Px K) bq:=by
 intro O H x y dx o rv Q n l m e q;unfold bq at e;split at e
 .rename_i ds i b
  cases m;cases qa:lx ds i with
  |none=>rw[qa] at e;cases e
  |some d=>
   rw[qa] at e;cases e;unfold eY at b;split at b
   .cases b;obtain⟨a,xs,rfl,h,g⟩:=Bu l;obtain⟨v,f,j⟩:=Gr g qa;exact .inr (.inl ⟨a,xs,i,v,rfl,rfl,h.1,f,q.at j⟩)
   .cases b;obtain⟨a,xs,rfl,h,g⟩:=De l;obtain⟨v,f,j⟩:=Gr g qa;exact .inl ⟨a,xs,i,v,rfl,rfl,h.sq,f,q.at j⟩
   .cases b
 .cases e
def l9 (xs:List D) (lo hi:Option Int):List D:=(xs.drop (HT.sIx xs.length 0 lo)).take (HT.sIx xs.length xs.length hi - HT.sIx xs.length 0 lo)
theorem Fb {lo hi:Option Int} (h:S0 O K H xs ds):S0 O K H (CA xs lo hi) (l9 ds lo hi):=by unfold CA l9;rw[h.length];exact(h.drop _).take _
def fw (n:Nat) (lo hi:Option Int):Bool:=decide (HT.sIx n 0 lo=0/\HT.sIx n n hi=n)
def MB (K:QR):V->Option Int->Option Int->Hp->VK->Prop:=fun x lo hi H Q=>OX K x lo hi H Q\/Oi K x lo hi H Q
theorem vV:NL X (MB X.K):=by
 intro a s b H x v e d lo hi f Q I g j pl i h;rcases h with h|h
 .exact HV a s b H x v e d lo hi f Q I g j pl i h
 .exact Mw a s b H x v e d lo hi f Q I g j pl i h
def NM:D->Option Int->Option Int->Option RV
 | .list ds,lo,hi=>lD (.ow (l9 ds lo hi))
 | .tuple ds,lo,hi=>if fw ds.length lo hi=QW then QS else lD (.fz (.tuple (l9 ds lo hi)))
 |_,_,_=>QS
theorem nO:PM K (MB K) NM:=by
 intro O H x lo hi dx rv Q n f e q;unfold NM at e;split at e
 .cases e;obtain⟨a,xs,rfl,d,b⟩:=De f;exact .inl ⟨a,xs,rfl,d.sq,Fin.new (Fb b) q⟩
 .split at e
  .cases e
  .rename_i g;cases e;obtain⟨a,xs,rfl,d,b⟩:=Bu f;refine .inr ⟨a,xs,rfl,d.1,fun z=>g ?_,Fin.aan (Fb b) n q⟩;unfold fw;rw[<-b.length];exact decide_eq_true z
 .cases e
def dk:List D->Option RV
 |[d]=>(match eY d with
  |some ds=>lD (.fz (.int ds.length))
  |none=>QS)
 |_=>QS
theorem eV:EB K (fun xs H Q=>∃x n,xs=[x]/\Oc K x H n/\Q (.int n) H) dk:=by
 intro O H xs ds rv Q n g e q;unfold dk at e;split at e
 .split at e
  .rename_i h d
   cases e;cases g with
   |cons b f=>
    cases f;unfold eY at d;split at d
    .cases d;obtain⟨a,xs,rfl,b,f⟩:=Bu b;exact⟨_,xs.length,rfl,.inr ⟨xs,b.1,rfl⟩,by rw[f.length];exact q.at (.int _)⟩
    .cases d;obtain⟨a,xs,rfl,b,f⟩:=De b;exact⟨_,xs.length,rfl,.inl ⟨xs,b.sq,rfl⟩,by rw[f.length];exact q.at (.int _)⟩
    .cases d
  .cases e
 .cases e
def sr:List D->Option RV
 |[.tuple ds]=>lD (.fz (.tuple ds))
 |[.list ds]=>lD (.fz (.tuple ds))
 |_=>QS
theorem mQ:EB K (fun xs H Q=>∃p ys,xs=[.ref p]/\((VR K H p ys/\∀l,H l=QS->Q (.ref l) (bC H l (.tup ys)))\/(Vo K H p ys/\Q (.ref p) H))) sr:=by
 intro O H xs ds rv Q n f e q;unfold sr at e;split at e
 .cases e
  cases f with
  |cons b d=>cases d;obtain⟨a,xs,rfl,b,d⟩:=Bu b;exact⟨a,xs,rfl,.inr ⟨b.1,q.at (.tup b d)⟩⟩
 .cases e
  cases f with
  |cons b d=>cases d;obtain⟨a,xs,rfl,b,d⟩:=De b;exact⟨a,xs,rfl,.inl ⟨b.sq,Fin.aan d n q⟩⟩
 .cases e
def vD:List D->Option RV
 |[d]=>(eY d).map .ow
 |_=>QS
theorem JW:EB K (fun xs H Q=>∃p ys,xs=[.ref p]/\(VR K H p ys\/Vo K H p ys)/\∀l,H l=QS->Q (.ref l) (bC H l (.lst ys))) vD:=by
 intro O H xs ds rv Q n g e q;unfold vD at e;split at e
 .rename_i d
  cases g with
  |cons b f=>
   cases f;cases hs:eY d with
   |none=>rw[hs] at e;cases e
   |some h=>
    rw[hs] at e;cases e;unfold eY at hs;split at hs
    .cases hs;obtain⟨a,xs,rfl,b,f⟩:=Bu b;exact⟨a,xs,rfl,.inr b.1,Fin.new f q⟩
    .cases hs;obtain⟨a,xs,rfl,b,f⟩:=De b;exact⟨a,xs,rfl,.inl b.sq,Fin.new f q⟩
    .cases hs
 .cases e
def B2:List D->Option RV
 |[.int i,.int j]=>lD (.fz (.int (if j>i then j else i)))
 |_=>QS
theorem Ik:EB K (fun xs H Q=>∃i j,xs=[.int i,.int j]/\Q (.int (if j>i then j else i)) H) B2:=by
 intro O H xs ds rv Q n b e q;unfold B2 at e;split at e
 .cases e
  cases b with
  |cons f a=>
   cases a with
   |cons a d=>cases d;cases f;cases a;exact⟨_,_,rfl,q.at (.int _)⟩
 .cases e
end
end L3
namespace PySem
open Sem (wp)
open AutoSeq1 (wpAny_loadPart')
open Builtin Builtin.Str
section
variable {prog:Rt} {w:RM} {A:RG} {E:QT->Q0->Prop} {s:Q0}
theorem na (a:s.heap.IsTupleIter it t i) (h:s.heap.IsTuple t items) (g:items[i]? =lD x)
  (l:∀h',h'.IsTupleIter it t (i+1)->Heap.SameBut it s.heap h'->Q x {s with heap:=h'}):wpAny (model prog w) A (Builtin.SmallTypes.nextOf (.ref it)) Q E s:=by
 obtain⟨o,d,j,b⟩:=id a;obtain⟨m,e,_,n,f⟩:=h;unfold Builtin.SmallTypes.nextOf;refine Ld (SR a.typeIs F.slot_tuple_iterator_next
  (S3 F.slot_tuple_iterator_next a.typeIs F.entry_tuple_iterator_next ?_ (F.args_tuple_iterator_next_1 _)))
 show wpAny _ _ (field (.ref it) 0>>=_) _ _ s;refine Ld (RU d b rfl ?_);show wpAny _ _ (if(QT.ref t==QT.none)=QW then _ else _) _ _ s;rw[if_neg (show¬((QT.ref t==QT.none)=QW) from Rc)];refine Ld (RU d b rfl ?_);refine Ld (SH e f ?_);simp only[Sl,g];refine Ld (TK d b (by simp) (Q1 ⟨x,rfl,Q1 (l _ ?_ (Heap.SameBut.update ..))⟩));exact⟨_,Heap.get?_update_self _ d (Obj.isFreed_of_fields (Obj.data_mapFields b _)),(Obj.cls_mapFields ..).trans j,by rw[Obj.data_mapFields b];simp[rawInt]⟩
theorem oV (h:A.handled=QS) (a:s.heap.IsTupleIter it t i) (l:s.heap.IsTuple t items) (j:items[i]? =QS)
  (m:∀h' e,Heap.ExtBut it s.heap h'->(∃o,h'.get? e=lD o/\o.cls= .type "StopIteration")->E (.ref e) {s with heap:=h'}):wpAny (model prog w) A (Builtin.SmallTypes.nextOf (.ref it)) Q E s:=by
 obtain⟨o,d,q,g⟩:=id a;obtain⟨n,b,_,p,f⟩:=l;unfold Builtin.SmallTypes.nextOf;refine Ld (SR a.typeIs F.slot_tuple_iterator_next
  (S3 F.slot_tuple_iterator_next a.typeIs F.entry_tuple_iterator_next ?_ (F.args_tuple_iterator_next_1 _)))
 show wpAny _ _ (field (.ref it) 0>>=_) _ _ s;refine Ld (RU d g rfl ?_);show wpAny _ _ (if(QT.ref t==QT.none)=QW then _ else _) _ _ s;rw[if_neg (show¬((QT.ref t==QT.none)=QW) from Rc)];refine Ld (RU d g rfl ?_);refine Ld (SH b f ?_);simp only[Sl,j];refine Ld (WG (Ld (TK d g (by simp) ?_)));refine Ld ?_;simp only[newExc,newTuple];refine Ld (Sb ?_ (by size_fits));refine Ld (YE (by first|rfl|(simp only[firstArgMember];rfl)) ?_);refine Sb ?_ (by size_fits);simp only[raiseNew];refine Ld (wpAny_handled ?_)
 first|rw[show A.in1.handled=QS from h]|rw[h]
 refine Ld (Q1 (wpAny_throw ?_));exact m _ _ (((Heap.SameBut.update ..).extBut.push _).push _) ⟨_,Heap.get?_push_size _ rfl,rfl⟩
end
end PySem
namespace L3
open PySem PySem.Spec PyProof.Rows L2
theorem Ka (I:Inv X pins σ H s) (j:Vo X.K H a xs) (i:Vo X.K H a ys):xs=ys:=by
 obtain⟨f,h,⟨o,l,_,n,m⟩,_⟩:=I.tuple j;obtain⟨e,g,⟨p,b,_,r,d⟩,_⟩:=I.tuple i;rw[l] at b;cases b;rw[m] at d;have:f=e:=by
  have q:f.toArray=e.toArray:=by injection d
  simpa using q
 subst this;exact h.inj g
theorem t9 {bs:List Bool} (r:Vals (bs.map V.bl) RQ) {i:Nat} (h:RQ[i]? =lD v):∃b,bs[i]? =lD b/\v= .bool b:=by
 have d:=r.length;rw[QV] at d;have hi:i<bs.length:=by rw[d];exact(QU.mp h).1
 obtain⟨u,a,e⟩:=r.get (by rw[Q7,Q5 hi];rfl);rw[h] at a;cases a;exact⟨bs[i],Q5 hi,e⟩
theorem zD (bs:List Bool):((Rj bs.length).all fun i=>(bs[i]?).getD QW)=bs.all id:=by
 rw[X6,T8,T8];constructor
 .intro h b a;obtain⟨i,hi,e⟩:=ZP.mp a;have:=h i (SS.mpr hi);rw[Q5 hi,e] at this;exact this
 .intro h i hi;have hi:=SS.mp hi;rw[Q5 hi];exact h _ (XH hi)
theorem zF (bs:List Bool):((Rj bs.length).any fun i=>(bs[i]?).getD Q2)=bs.any id:=by
 rw[X6,UO,UO];constructor
 .rintro⟨i,hi,h⟩;have hi:=SS.mp hi;rw[Q5 hi] at h;exact⟨_,XH hi,h⟩
 .rintro⟨b,a,h⟩;obtain⟨i,hi,e⟩:=ZP.mp a;exact⟨i,SS.mpr hi,by rw[Q5 hi,e];exact h⟩
section
variable {X:Cx}
theorem rX (t:X.calm=QW):Us X (.builtin "all") (fun xs H Q=>∃(p:QX) (bs:List Bool),xs=[.ref p]/\VR X.K H p (bs.map V.bl)/\Q (.bl (bs.all id)) H):=by
 intro d s z H xs B Q I r h;obtain⟨l,bs,rfl,m,q⟩:=h;obtain⟨u,rfl,j⟩:=kM r;cases j;obtain⟨g,rv,pl,F⟩:=I.list m;have a:=rv.length;rw[QV] at a;have y:l<s.heap.objs.size:=by obtain⟨_,_,e,_⟩:=pl;exact Heap.lt_size e
 refine call_all_walk (Uu pl.isList ?_);refine⟨s.heap.objs.size,[s.heap.objs.size,l],[s.heap.objs.size],g.toArray.size,_,_,fun i=>(bs[i]?).getD QW,rfl,acW.list (A:=X.A.in1) (I.ok.hd t) _ l (Rr y) g.toArray,
  ⟨⟨_,Heap.get?_push_size _ rfl,rfl,rfl⟩,pl.isList.push _⟩,fun i v E J L w f=> ?_,fun G C n=> ?_⟩
 .obtain⟨b,e,rfl⟩:=t9 rv (by simpa using w);simp only[e,VI] at f;exact S9 f
 .rw[Q9,<-a,zD];refine⟨.bl _,H,I.kept fun b o e=>n b o (fun hm=> ?_) (Heap.get?_push_of_some _ e),rfl,q⟩;rw[Rb.mp hm] at e;exact Sy _ (Heap.lt_size e)
theorem yl (t:X.calm=QW):Us X (.builtin "any") (fun xs H Q=>∃(p:QX) (bs:List Bool),xs=[.ref p]/\VR X.K H p (bs.map V.bl)/\Q (.bl (bs.any id)) H):=by
 intro d s z H xs B Q I r h;obtain⟨l,bs,rfl,m,q⟩:=h;obtain⟨u,rfl,j⟩:=kM r;cases j;obtain⟨g,rv,pl,F⟩:=I.list m;have a:=rv.length;rw[QV] at a;have y:l<s.heap.objs.size:=by obtain⟨_,_,e,_⟩:=pl;exact Heap.lt_size e
 refine call_any_walk (Uu pl.isList ?_);refine⟨s.heap.objs.size,[s.heap.objs.size,l],[s.heap.objs.size],g.toArray.size,_,_,fun i=>(bs[i]?).getD Q2,rfl,acW.list (A:=X.A.in1) (I.ok.hd t) _ l (Rr y) g.toArray,
  ⟨⟨_,Heap.get?_push_size _ rfl,rfl,rfl⟩,pl.isList.push _⟩,fun i v E J L w f=> ?_,fun G C n=> ?_⟩
 .obtain⟨b,e,rfl⟩:=t9 rv (by simpa using w);simp only[e,VI] at f;exact S9 f
 .rw[Q9,<-a,zF];refine⟨.bl _,H,I.kept fun b o e=>n b o (fun hm=> ?_) (Heap.get?_push_of_some _ e),rfl,q⟩;rw[Rb.mp hm] at e;exact Sy _ (Heap.lt_size e)
end
section
variable {K:QR}
def mj:List D->Option (List Bool)
 |[]=>lD []
 | .bool b::r=>(mj r).map (b::·)
 |_=>QS
theorem vO:∀{xs:List V} {ds:List D} {bs:List Bool},S0 O K H xs ds->mj ds=lD bs->xs=bs.map V.bl
 |_,_,_,.nil,e=>by cases e;rfl
 |_,_,bs,.cons (ds:=r) h t,e=>by
  cases h with
  |bl b=>
   have a:(mj r).map (b::·)=lD bs:=e;cases q:mj r with
   |none=>rw[q] at a;cases a
   |some d=>rw[q] at a;cases a;rw[vO t q];rfl
  |_=>cases e
def Ak:List D->Option RV
 |[.list ds]=>(mj ds).map fun bs=> .fz (.bool (bs.all id))
 |_=>QS
def J3:List D->Option RV
 |[.list ds]=>(mj ds).map fun bs=> .fz (.bool (bs.any id))
 |_=>QS
theorem zt:EB K (fun xs H Q=>∃(p:QX) (bs:List Bool),xs=[.ref p]/\VR K H p (bs.map V.bl)/\Q (.bl (bs.all id)) H) Ak:=by
 intro O H xs ds rv Q n f e q;unfold Ak at e;split at e
 .rename_i g
  cases qs:mj g with
  |none=>rw[qs] at e;cases e
  |some bs=>
   rw[qs] at e;cases e;cases f with
   |cons d b=>cases b;obtain⟨a,h,rfl,d,b⟩:=De d;have:=vO b qs;subst this;exact⟨a,bs,rfl,d.sq,q.at (.bl _)⟩
 .cases e
theorem F9:EB K (fun xs H Q=>∃(p:QX) (bs:List Bool),xs=[.ref p]/\VR K H p (bs.map V.bl)/\Q (.bl (bs.any id)) H) J3:=by
 intro O H xs ds rv Q n f e q;unfold J3 at e;split at e
 .rename_i g
  cases qs:mj g with
  |none=>rw[qs] at e;cases e
  |some bs=>
   rw[qs] at e;cases e;cases f with
   |cons d b=>cases b;obtain⟨a,h,rfl,d,b⟩:=De d;have:=vO b qs;subst this;exact⟨a,bs,rfl,d.sq,q.at (.bl _)⟩
 .cases e
def oH:List D->Option (List Int)
 |[]=>lD []
 | .int b::r=>(oH r).map (b::·)
 |_=>QS
theorem qA:∀{xs:List V} {ds:List D} {bs:List Int},S0 O K H xs ds->oH ds=lD bs->xs=bs.map V.int
 |_,_,_,.nil,e=>by cases e;rfl
 |_,_,bs,.cons (ds:=r) h t,e=>by
  cases h with
  |int b=>
   have a:(oH r).map (b::·)=lD bs:=e;cases q:oH r with
   |none=>rw[q] at a;cases a
   |some d=>rw[q] at a;cases a;rw[qA t q];rfl
  |_=>cases e
def zM (x:Int):List Int->List Int
 |[]=>[x]
 |y::r=>if x<=y then x::y::r else y::zM x r
def kr:List Int->List Int
 |[]=>[]
 |x::r=>zM x (kr r)
theorem oM (x:Int):∀l,(zM x l).Perm (x::l)
 |[]=>Xy _
 |y::r=>by
  unfold zM;split
  .exact Xy _
  .exact((oM x r).cons y).trans (aiR x y r)
theorem eU:∀l,(kr l).Perm l
 |[]=>Xy _
 |x::r=>(oM x _).trans ((eU r).cons x)
theorem oW (x:Int):∀l:List Int,l.Pairwise (·<=·)->(zM x l).Pairwise (·<=·)
 |[],_=>by simp[zM]
 |y::r,h=>by
  unfold zM;obtain⟨d,f⟩:=Vh.mp h;split
  .rename_i a
   refine Vh.mpr ⟨fun z b=> ?_,h⟩;rcases Rv.mp b with e|e
   .rw[e];exact a
   .have:=d z e;omega
  .rename_i a
   refine Vh.mpr ⟨fun z b=> ?_,oW x r f⟩;rcases Rv.mp ((oM x r).mem_iff.mp b) with e|e
   .rw[e];omega
   .exact d z e
theorem eB:∀l,(kr l).Pairwise (·<=·)
 |[]=>VZ
 |x::r=>oW x _ (eB r)
theorem k7 {l m:List Int} (d:l.Perm m) (e:l.Pairwise (·<=·)) (hm:m.Pairwise (·<=·)):l=m:=d.eq_of_pairwise (fun a b _ _ g f=>Int.le_antisymm g f) e hm
def uY:List D->Option RV
 |[.list ds]=>(match oH ds with
  |some a=>if a.length<64 then lD (.ow ((kr a).map .int)) else QS
  |none=>QS)
 |_=>QS
theorem rj (a:List Int):S0 O K H (a.map V.int) (a.map .int):=by
 induction a with
 |nil=>exact .nil
 |cons n r b=>exact .cons (.int n) b
theorem uH:EB K (fun xs H Q=>∃(p:QX) (b:List Int),xs=[.ref p]/\VR K H p (b.map V.int)/\b.length<64/\∀(l:QX) (d:List Int),H l=QS->d.Perm b->d.Pairwise (·<=·)->Q (.ref l) (bC H l (.lst (d.map V.int)))) uY:=by
 intro O H xs ds rv Q n f e q;unfold uY at e;split at e
 .rename_i m
  cases qs:oH m with
  |none=>rw[qs] at e;cases e
  |some b=>
   rw[qs] at e;dsimp only at e;split at e
   .rename_i g
    cases e;cases f with
    |cons i h=>cases h;obtain⟨a,r,rfl,i,h⟩:=De i;have:=qA h qs;subst this;refine⟨a,b,rfl,i.sq,g,fun l d g f j=> ?_⟩;have o:=k7 (f.trans (eU b).symm) j (eB b);subst o;exact Fin.new (rj _) q l g
   .cases e
 .cases e
end
theorem C9 {P:Rt} {w:RM} {K:QR} {mg l:Str->Option QT} {k:Nat} {fa a:QX} {fd:Sj} {x:Str} {F:FN} {b:Q0} {vs:List QT} {d:List Int}
  (p:K.In b.heap) (f:b.heap.Ns Rk mg) (B:b.heap.Ns builtinsNs l) (g:∀x:Str,x≠ "__name__"->l x=Sr x) (i:b.heap.NoLimit) (A:b.gens= #[])
  (ha:b.heap.get? a=lD {cls:= .type "list",data:= .seq vs.toArray}) (hi:IntsAre vs d) (m:d.length<=Q8) (y:Tt k callerA)
  (J:∀base:Heap,K.In base->base.Ns Rk mg->FnOk P w K mg base dm k fa fd [x] (nz K 1 F)) (j:∀(s:Q0) (u:QT),Wz s fd ⟨[u],[]⟩ [(x,u)])
  (G:F [.list (d.map .int)]= .ok (.fz (.bool QW))):
  codeAny (model P w) callerA (.call (.ref fa) ⟨[.ref a],[]⟩) (fun r s'=>r= .ok (.ret (.bool QW))/\OldK b.heap s'.heap/\s'.os=b.os/\AllBare s'.gens) b:=by
 refine E3 (sp:=fun vs H Q E=>nz K 1 F vs H Q E\/(vs.length=1/\False)) p f B g i A ha hi m y (fun base t q=>(J base t q).imp fun vs H Q E h=> ?_) j (fun H L C=> ?_) fun _ _ _ h=>h
 .rcases h with h|h
  .exact h
  .exact h.2.elim
 .refine .inl ⟨rfl,Y9,[.list (d.map .int)],fun a z=>z.elim,.cons (.lst ⟨?_,fun z=>z.elim⟩ (rj d)) .nil,?_⟩
  .rcases C with h|⟨o,RQ,n,h1,h2,h3,h4,h5,h6⟩
   .exact .inl h
   .have e:=p a o h1;rw[ha] at e;cases e;cases h4;exact .inr ⟨vs,0,h1,by rw[QV];exact m,by simpa using h6⟩
  .rw[G];exact fun v M s I=>by cases I;rfl
theorem N0 {l:aas} {n k:Nat} {q:Rt} {i:List Str} {M:(Str->Option QT)->Heap->Prop} {A:RM->Heap->Prop} {d:DefRec} {K:Params->QR} {F:FN} {x:Str}
  (hn:l.most=lD n) (m:n<=Q8) (r:d.params.defaults=[]) (C:Tt k callerA)
  (I:∀(w:RM) (h:Heap),A w h->(K w.params).In h)
  (N:∀(w:RM) (mg:Str->Option QT) (fa:QX) (h:Heap),(K w.params).In h->h.Ns Rk mg->mg d.name=lD (.ref fa)->
   ∃fd:Sj,(∀(s:Q0) (u:QT),Wz s fd ⟨[u],[]⟩ [(x,u)])/\∀base:Heap,(K w.params).In base->base.Ns Rk mg->FnOk l.prog w (K w.params) mg base dm k fa fd [x] (nz (K w.params) 1 F))
  (J:∀ns:List Int,ns.length<=n->F [.list (ns.map .int)]= .ok (.fz (.bool QW))):
  PySem.W.WalkO q i M A l.row.toRowW d [] (fun f vs=>adB f vs):=by
 refine Att.attach_call hn r fun w z y mg P fa o O S L a vs ns G Y Q R U p v j e E=> ?_;have B:=I w _ Y;obtain⟨fd,H,t⟩:=N w mg fa _ B G.T.g p;exact C9 B G.T.g G.T.b G.T.builtins G.T.nolimit E v j (RO e m) C t H (J ns e)
theorem QC {P:Rt} {w:RM} {K:QR} {mg:Str->Option QT} {base:Heap} {x a:Str} {b:Ts} {f:QX} {fd:Sj} {N ps:List Str} {k n m:Nat} {g:FS} {e:FN} (F:Ut K x a b f fd) (S:TN N ps (aG b)) (hn:ps.length=n) (hm:N.length=m) (h:e=fQ m g)
  (i:∀(d:QT) (A:RG) (outer:List Env) (s:Q0) (H:Hp) (E:XK),Tt k (A.deeper (Ry a (aG b) s.heap.objs.size f d))->
   ∃t,Xi (fV dm P w K mg base N a (aG b) f d A outer s H E).nox (cr b) t/\SO K E t g):FnOk P w K mg base dm (k+1) f fd ps (nz K n e):=by
 subst h hm;exact QK F S hn i
abbrev fq (P:Rt) (w:RM) (K:QR) (mg:Str->Option QT) (base:Heap) (k:Nat) (x:Str) (ps:List Str) (n:Nat) (F:FN):Prop:=xk P w K mg base k x ps (nz K n F)
end L3
namespace L3
open PySem L2
abbrev nd (n:Nat):D:= .int (n:Int)
def bX (a:List Nat):List D:=a.map nd
theorem gp (a:List Nat):(bX a).length=a.length:=by unfold bX;rw[QV]
theorem Ib (xs a:List Nat):bX (xs++a)=bX xs++bX a:=by unfold bX;rw[RD]
theorem qh {i:Nat} (h:(bX ns)[i]? =lD d):∃n,ns[i]? =lD n/\d=nd n:=by
 unfold bX at h;rw[Q7] at h;cases e:ns[i]? with
 |none=>rw[e] at h;cases h
 |some n=>rw[e] at h;exact⟨n,rfl,(Rm h).symm⟩
theorem bp (a:α):Res.Sh (lD a)= .ok a:=rfl
theorem wV (a:α):lF (Res.ok a)= .ok a:=rfl
theorem zp (i:Nat) (ρ:bt):aa i ρ=AW ρ i ρ[i]? :=rfl
theorem G6 (ρ:bt) (i:Nat) (d:D):AW ρ i (lD (lD (.fz d)))= .ok (.fz d,ρ):=rfl
theorem EF (ρ:bt) (i:Nat) (ds:List D):AW ρ i (lD (lD (.ow ds)))= .ok (.pl i,ρ):=rfl
theorem oh (ds:List D):Gf (lD (lD (.ow ds)))=lD ds:=rfl
theorem Gg (i:Nat) (d:D) (ρ:bt):gN i (.fz d) ρ= .ok (ρ.set i (lD (.fz d))):=rfl
theorem B7 (i:Int):PX (.int i)=lD i:=rfl
theorem xL (b:Bool):P0 (.bool b)=lD b:=rfl
theorem jb (ds:List D):dk [.tuple ds]=lD (.fz (nd ds.length)):=rfl
theorem eO (ds:List D):dk [.list ds]=lD (.fz (nd ds.length)):=rfl
theorem ku (i j:Int):IA (.int i) (.int j)=lD (.fz (.bool (decide (i<j)))):=rfl
theorem Hc (i j:Int):PU (.int i) (.int j)=lD (.fz (.bool (decide (i<=j)))):=rfl
theorem xq (i j:Int):IQ (.int i) (.int j)=lD (.fz (.bool (decide (j<i)))):=rfl
theorem yd (i j:Int):PD (.int i) (.int j)=lD (.fz (.bool (decide (j<=i)))):=rfl
theorem fA (i j:Int):db (.int i) (.int j)=lD (.fz (.int (i+j))):=rfl
theorem on (i j:Int):pN (.int i) (.int j)=lD (.fz (.int (i - j))):=rfl
theorem re (h:0<j):oj (.int i) (.int j)=lD (.fz (.int (i % j))):=by show(if LC i j=QW then _ else _)=_;rw[if_pos (show LC i j=QW from decide_eq_true h)]
theorem ER (h:0<j/\j<2^128):CB (.int i) (.int j)=lD (.fz (.int (i/j))):=by show(if Nt i j=QW then _ else _)=_;rw[if_pos (show Nt i j=QW from decide_eq_true h)]
theorem JO (h: -(2^64)<i/\i<2^64):zj (.int i) (.int j)=lD (.fz (.int (i*j))):=by show(if(gY i||gY j)=QW then _ else _)=_;rw[if_pos (by rw[show gY i=QW from decide_eq_true h,Uz])]
theorem Iq (h: -(2^64)<j/\j<2^64):zj (.int i) (.int j)=lD (.fz (.int (i*j))):=by show(if(gY i||gY j)=QW then _ else _)=_;rw[if_pos (by rw[show gY j=QW from decide_eq_true h,Xs])]
theorem JR (h:kW j):j6 [.int j]=lD (gB 0 j.toNat):=by show(if kW j then _ else _)=_;rw[if_pos h]
theorem Ea (n:Nat):gB 0 n=bX (Rj n):=by unfold gB bX;apply U6;intro k _;rw[Int.zero_add]
theorem jM (h:n<=1000000):j6 [nd n]=lD (bX (Rj n)):=by rw[JR (by unfold kW;omega),Ea,Sl]
theorem GY (h:f ρ= .ok (.nx ρ1)):bG f g ρ=g ρ1:=by unfold bG;rw[h];rfl
theorem Fm (h:f ρ= .ok (.rt rv)):bG f g ρ= .ok (.rt rv):=by unfold bG;rw[h];rfl
theorem PZ (h:c ρ= .ok (QW,ρ1)):ka c f g ρ=f ρ1:=by unfold ka;rw[h];rfl
theorem PN (h:c ρ= .ok (Q2,ρ1)):ka c f g ρ=g ρ1:=by unfold ka;rw[h];rfl
theorem zB (h:fi ρ= .ok (ds,ρ1)):oE fi gt b ρ=pI gt b ds ρ1:=by unfold oE;rw[h];rfl
theorem Ms (h:j<=1000000/\i.natAbs<2^64):JB (.int i) (nd j)=lD (.fz (.int (i^j))):=by show(if yA i (j:Int)=QW then lD (RV.fz (.int (i^((j:Nat):Int).toNat))) else QS)=_;rw[if_pos (by unfold yA;exact decide_eq_true ⟨by omega,by omega,h.2⟩),Sl]
theorem KW:JB (.int 10) (.int 18)=lD (.fz (.int (10^18))):=Ms ⟨by decide,by decide⟩
def kL (gt:FG) (ft:FT) (fe:FE) (d:D) (ρ:bt):Res (Option D×bt):=(gt (.fz d) ρ).bind fun e=>(ft e).bind fun b=>if b.1=QW then(fe b.2).bind fun a=>(Res.Sh (xi a.2 a.1)).bind fun x=> .ok (lD x.1,di x.2) else .ok (QS,di b.2)
theorem tD (h:kL gt ft fe d ρ= .ok (o,ρ')) (g:acc.length<1000000):d5 gt ft fe (d::r) ρ acc=d5 gt ft fe r ρ' (acc++o.toList):=by
 unfold kL at h;show(gt (.fz d) ρ).bind _=_;cases q1:gt (.fz d) ρ with
 |er x=>rw[q1] at h;cases h
 |bad=>rw[q1] at h;cases h
 |ok f=>
  rw[q1,Res.bind_ok] at h;rw[Res.bind_ok];cases q2:ft f with
  |er x=>rw[q2] at h;cases h
  |bad=>rw[q2] at h;cases h
  |ok b=>
   obtain⟨b,e⟩:=b;rw[q2,Res.bind_ok] at h;rw[Res.bind_ok];cases b with
   |false=>rw[if_neg Rc] at h⊢;cases h;rw[ZQ,RB]
   |true=>
    rw[if_pos rfl] at h⊢;cases q3:fe e with
    |er x=>rw[q3] at h;cases h
    |bad=>rw[q3] at h;cases h
    |ok a=>
     rw[q3,Res.bind_ok] at h;rw[Res.bind_ok];cases q4:xi a.2 a.1 with
     |none=>rw[q4] at h;cases h
     |some x=>rw[q4] at h;cases h;show(if acc.length<1000000 then _ else _)=_;rw[if_pos g];rfl
theorem J8 (c:Nat) (h:c<=1000):LY (.int 1) (nd c)=lD (.fz (nd (2^c))):=by show(if yA 1 (c:Int)=QW then lD (RV.fz (.int (1*2^((c:Nat):Int).toNat))) else QS)=_;rw[if_pos (by unfold yA;exact decide_eq_true ⟨by omega,by omega,by decide⟩),Int.one_mul,Sl];congr 3
theorem Ma (a c:Nat):Hg (nd a) (nd c)=lD (.fz (nd (a/2^c))):=by show(if NW a (c:Int)=QW then lD (RV.fz (.int ((a:Int)/2^((c:Nat):Int).toNat))) else QS)=_;rw[if_pos (by unfold NW;exact decide_eq_true (by omega)),Sl];congr 3
theorem MW (a b:Nat):decide ((a:Int)=(b:Int))=decide (a=b):=by
 by_cases h:a=b
 .rw[decide_eq_true h,decide_eq_true (by rw[h])]
 .rw[decide_eq_false h,decide_eq_false (by omega)]
theorem EG (a b:Nat):QZ.eqv (nd a) (nd b)=decide (a=b):=MW a b
theorem gZ (a b:Int):cY (.int a) (.int b)=lD (.fz (.bool (decide (a=b)))):=by rfl
theorem uQ (a b:Int):nW (.int a) (.int b)=lD (.fz (.bool (!decide (a=b)))):=by rfl
theorem nK:∀ns:List Nat,QZ.canLayAll0 (bX ns)=QW
 |[]=>rfl
 |n::r=>by show(QZ.canLay0 (nd n)&&QZ.canLayAll0 (bX r))=QW;rw[nK r];rfl
theorem qQ:∀ns:List Nat,QZ.depthAll (bX ns)=0
 |[]=>rfl
 |n::r=>by show max (QZ.depth (nd n)) (QZ.depthAll (bX r))=0;rw[qQ r];rfl
theorem AI:∀xs ys:List Nat,QZ.eqvAll (bX xs) (bX ys)=decide (xs=ys)
 |[],[]=>rfl
 |[],_::_=>rfl
 |_::_,[]=>rfl
 |n::r,m::t=>by show(QZ.eqv (nd n) (nd m)&&QZ.eqvAll (bX r) (bX t))=_;rw[AI r t,EG];rw[X6];simp
theorem Lw (a:List Nat):lQ (.list (bX a))=QW:=by show(QZ.canLayAll0 (bX a)&&decide (QZ.depthAll (bX a)+1<=64))=QW;rw[nK,qQ];rfl
theorem vC (xs a:List Nat):cY (.list (bX xs)) (.list (bX a))=lD (.fz (.bool (decide (xs=a)))):=by unfold cY;rw[Lw,show QZ.canLay0 (.list (bX a))=QW from nK a,Tb,if_pos rfl,show QZ.eqv (.list (bX xs)) (.list (bX a))=_ from AI xs a]
theorem HZ (x:Nat) (xs:List Nat):((bX xs).any fun e=>QZ.eqv e (nd x))=decide (x∈xs):=by
 induction xs with
 |nil=>rfl
 |cons y r a=>
  show(QZ.eqv (nd y) (nd x)||(bX r).any fun e=>QZ.eqv e (nd x))=_;rw[a,EG];by_cases h:y=x
  .rw[decide_eq_true h,decide_eq_true (show x∈y::r by rw[h];exact Rh),Uz]
  .rw[decide_eq_false h,VJ]
   by_cases g:x∈r
   .rw[decide_eq_true g,decide_eq_true (Rf _ g)]
   .rw[decide_eq_false g,decide_eq_false (fun z=>(Rv.mp z).elim (fun e=>h e.symm) g)]
theorem v5 (x:Nat) (xs:List Nat):Im (nd x) (.tuple (bX xs))=lD (.fz (.bool (decide (x∈xs)))):=by show(if(lQ (nd x)&&QZ.canLayAll0 (bX xs))=QW then _ else _)=_;rw[nK,show lQ (nd x)=QW from rfl,Tb,if_pos rfl,HZ]
theorem GA {i:Nat} (h:xs[i]? =lD v):lx xs (i:Int)=lD v:=BQ h
theorem Fi (h:ds[i]? =lD d):bq (.tuple ds) (nd i)=lD (.fz d):=by show(lx ds (i:Int)).map RV.fz=_;rw[GA h];rfl
theorem Bt (h:ds[i]? =lD d):bq (.list ds) (nd i)=lD (.fz d):=by show(lx ds (i:Int)).map RV.fz=_;rw[GA h];rfl
section
variable {ρ ρ1 ρ2 ρ3:bt} {fa fb fc fe:FE} {pa pb pv:PV} {dx dy d:D} {rv:RV} {ps:List PV} {ds:List D}
theorem af (h:ρ[i]? =lD (lD (.fz d))):aa i ρ= .ok (.fz d,ρ):=by rw[zp,h,G6]
theorem jB (h:ρ[i]? =lD (lD (.ow ds))):aa i ρ= .ok (.pl i,ρ):=by rw[zp,h,EF]
theorem aA:pC d ρ= .ok (.fz d,ρ):=rfl
theorem ay (ha:fa ρ= .ok (pa,ρ1)) (g:fb ρ1= .ok (pb,ρ2)) (b:yF ρ2 (dB pa)=lD dx) (a:yF ρ2 pb=lD dy) (e:f dx dy=lD rv):aJ f fa fb ρ= .ok (rv.pv,ρ2):=by unfold aJ;rw[ha,Res.bind_ok,g,Res.bind_ok,b,bp,Res.bind_ok,a,bp,Res.bind_ok,e,bp,Res.bind_ok]
theorem Lg (ha:fa ρ= .ok (pa,ρ1)) (a:yF ρ1 pa=lD dx) (b:f dx=lD rv):OH f fa ρ= .ok (rv.pv,ρ1):=by unfold OH;rw[ha,Res.bind_ok,a,bp,Res.bind_ok,b,bp,Res.bind_ok]
theorem aZ (ha:fa ρ= .ok (pa,ρ1)) (a:yF ρ1 pa=lD (.bool b)):aK fa ρ= .ok (b,ρ1):=by unfold aK;rw[ha,Res.bind_ok,a,bp,Res.bind_ok,xL,bp,Res.bind_ok]
theorem jO (ha:f ρ= .ok (a,ρ1)) (e:a=QW->g ρ1= .ok (b,ρ1)):tO f g ρ= .ok (a&&b,ρ1):=by
 unfold tO;rw[ha,Res.bind_ok];cases a with
 |true=>rw[if_pos rfl,e rfl,W6]
 |false=>rw[if_neg Rc,Ux]
theorem mx (ha:f ρ= .ok (a,ρ1)) (e:a=Q2->g ρ1= .ok (b,ρ1)):IH f g ρ= .ok (a||b,ρ1):=by
 unfold IH;rw[ha,Res.bind_ok];cases a with
 |true=>rw[if_pos rfl,Uz]
 |false=>rw[if_neg Rc,e rfl,VJ]
theorem qp (ha:aK fa ρ= .ok (a,ρ1)) (e:a=QW->fb ρ1= .ok (.fz (.bool b),ρ1)):Dk fa fb ρ= .ok (.fz (.bool (a&&b)),ρ1):=by
 unfold Dk;rw[ha,Res.bind_ok];cases a with
 |true=>rw[if_pos rfl,e rfl,W6]
 |false=>rw[if_neg Rc,Ux]
theorem B0 (ha:aK fa ρ= .ok (a,ρ1)):GC fa ρ= .ok (.fz (.bool (!a)),ρ1):=by unfold GC;rw[ha,Res.bind_ok]
theorem aD:aw ρ= .ok ([],ρ):=rfl
theorem ah (ha:fa ρ= .ok (pa,ρ1)) (a:fr ρ1= .ok (ps,ρ2)):ae fa fr ρ= .ok (dB pa::ps,ρ2):=by unfold ae;rw[ha,Res.bind_ok,a,Res.bind_ok]
theorem d6 (ha:fr ρ= .ok (ps,ρ1)) (hd:wX ρ1 ps=lD ds) (a:f ds=lD rv):g8 f fr ρ= .ok (rv.pv,ρ1):=by unfold g8;rw[ha,Res.bind_ok,hd,bp,Res.bind_ok,a,bp,Res.bind_ok]
theorem bO (ha:fr ρ= .ok (ps,ρ1)) (hd:pV ρ1 ps=lD (ds,ρ2)) (hn:ds.length=n) (a:F ds= .ok rv):cP F n fr ρ= .ok (rv.pv,ρ2):=by unfold cP;rw[ha,Res.bind_ok,hd,bp,Res.bind_ok];dsimp only;rw[if_pos hn,a,wV,Res.bind_ok]
theorem cF (ha:fr ρ= .ok (ps,ρ1)) (hd:pV ρ1 ps=lD (ds,ρ2)) (hn:ds.length<=1000):bQ fr ρ= .ok (.fz (.tuple ds),ρ2):=by unfold bQ;rw[ha,Res.bind_ok,hd,bp,Res.bind_ok];dsimp only;rw[if_pos hn]
theorem oJ (ha:fr ρ= .ok (ps,ρ1)) (hd:pV ρ1 ps=lD (ds,ρ2)) (hn:ds.length<=1000):df fr ρ= .ok (.ow ds,ρ2):=by unfold df;rw[ha,Res.bind_ok,hd,bp,Res.bind_ok];dsimp only;rw[if_pos hn]
theorem ny:tW ρ= .ok (QS,ρ):=rfl
theorem nI (ha:fa ρ= .ok (pa,ρ1)) (a:yF ρ1 pa=lD (.int i)):rc fa ρ= .ok (lD i,ρ1):=by unfold rc;rw[ha,Res.bind_ok,a,bp,Res.bind_ok,B7,bp,Res.bind_ok]
theorem B6 (ha:fa ρ= .ok (pa,ρ1)) (b:fl ρ1= .ok (lo,ρ2)) (e:fh ρ2= .ok (hi,ρ3)) (a:yF ρ3 (dB pa)=lD dx) (g:f dx lo hi=lD rv):NC f fa fl fh ρ= .ok (rv.pv,ρ3):=by unfold NC;rw[ha,Res.bind_ok,b,Res.bind_ok,e,Res.bind_ok,a,bp,Res.bind_ok,g,bp,Res.bind_ok]
theorem wa (g:ρ[i]? =lD (lD (.ow es))) (ha:fe ρ= .ok (pa,ρ1)) (b:xi ρ1 pa=lD (d,ρ2)) (f:ρ2[i]? =lD (lD (.ow ds))) (e:ds.length<1000000) (a:ρ2.set i (lD (.ow (ds++[d])))=x):zU i fe ρ= .ok (.fz .none,x):=by unfold zU;rw[g,oh,bp,Res.bind_ok,ha,Res.bind_ok,b,bp,Res.bind_ok];dsimp only;rw[f,oh,bp,Res.bind_ok,if_pos e,a]
theorem fG (hi:fi ρ= .ok (ds,ρ1)) (b:uD ρ1 fv=lD (cs,ρ2)) (a:lF (d5 gt ft fe ds (Q6 n QS++cs.map fun d=>lD (.fz d)) [])= .ok xs):gu n fv fi gt ft fe ρ= .ok (.ow xs,ρ2):=by unfold gu;rw[hi,Res.bind_ok];dsimp only;rw[b,bp,Res.bind_ok];dsimp only;rw[a,Res.bind_ok]
theorem eJ:bq (.tuple (a::r)) (.int 0)=lD (.fz a):=Fi rfl
theorem fU:bq (.tuple (a::b::r)) (.int 1)=lD (.fz b):=Fi rfl
theorem rq:bq (.tuple (a::b::c::r)) (.int 2)=lD (.fz c):=Fi rfl
theorem Nv (b:k<=1000) (a:xs.length<=1000):zj (.list xs) (nd k)=lD (.ow (Q6 k xs).flatten):=by show(if xs.length*((k:Nat):Int).toNat<=1000000/\ -(2^63)<=(k:Int)/\(k:Int)<2^63 then lD (RV.ow (Q6 ((k:Nat):Int).toNat xs).flatten) else QS)=_;rw[Sl,if_pos ⟨RO (WH a b) (by decide),by omega,by omega⟩]
theorem jy (ha:fe ρ= .ok (pa,ρ1)) (a:xi ρ1 pa=lD (d,ρ2)) (b:eY d=lD es):jN fe ρ= .ok (es,ρ2):=by unfold jN;rw[ha,Res.bind_ok,a,bp,Res.bind_ok];dsimp only;rw[b,bp,Res.bind_ok]
theorem JX (ha:fr ρ= .ok (ps,ρ1)) (hd:wX ρ1 ps=lD ds) (a:f ds=lD es):pR f fr ρ= .ok (es,ρ1):=by unfold pR;rw[ha,Res.bind_ok,hd,bp,Res.bind_ok,a,bp,Res.bind_ok]
theorem yG (b:fe ρ= .ok (pv,ρ1)) (a:g pv ρ1= .ok ρ2) (hn:ρ2=ρ3):eZ fe g ρ= .ok (.nx ρ3):=by unfold eZ;rw[b,Res.bind_ok];dsimp only;rw[a,Res.bind_ok,hn]
theorem AH (a:fe ρ= .ok (pv,ρ1)):pz fe ρ= .ok (.nx ρ1):=by unfold pz;rw[a,Res.bind_ok]
theorem vZ (b:fe ρ= .ok (pv,ρ1)) (a:Dp ρ1 pv=lD rv):cW fe ρ= .ok (.rt rv):=by unfold cW;rw[b,Res.bind_ok];dsimp only;rw[a,bp,Res.bind_ok]
theorem JF (e:gt (.fz d) ρ= .ok ρ1) (b:ft ρ1= .ok (QW,ρ2)) (g:fe ρ2= .ok (pv,ρ3)) (a:xi ρ3 pv=lD (x,ρ4)) (f:di ρ4=ρ5):kL gt ft fe d ρ= .ok (lD x,ρ5):=by unfold kL;rw[e,Res.bind_ok,b,Res.bind_ok,if_pos rfl,g,Res.bind_ok,a,bp,Res.bind_ok,f]
theorem Oh (b:gt (.fz d) ρ= .ok ρ1) (a:ft ρ1= .ok (Q2,ρ2)) (e:di ρ2=ρ5):kL gt ft fe d ρ= .ok (QS,ρ5):=by unfold kL;rw[b,Res.bind_ok,a,Res.bind_ok,if_neg Rc,e]
end
end L3
namespace PySem
open Sem (wp)
open Builtin
open AutoSeq1 (wpAny_loadPart')
theorem ou:fillsNumberSlot (.type "tuple") "mul"=pure Q2:=
 fillsNumberSlot_seq F.slot_tuple_mul.lookup (by left) F.slot_tuple_rmul.lookup (by left)
theorem wj:seqRepeat? (.type "tuple")=pure (lD (.builtin "tuple.__mul__")):=by unfold seqRepeat?;rw[seqSlot_of (name:= "__mul__") F.slot_tuple_mul.lookup (by left),seqSlot_of (name:= "__rmul__") F.slot_tuple_rmul.lookup (by left)];rfl
theorem rh (a:Int) (t:Tok) (l:QX) (items:Array QT) (n:Nat) (Xd:Option QX) (e:Array (Option QT)):
  Meets (Builtin.«int.__rmul__» ⟨[.int a t,.ref l],[]⟩) (fun _ R s=>s.heap.get? l=lD {cls:= .type "tuple",dict:=Xd,data:= .seq items n,slots:=e}/\R (.ok (.ret QT.notImplemented)) s):=
 .of_wp fun b w A R s h=>by obtain⟨j,g,d,f,i⟩:=s;obtain⟨m,h⟩:=h;wp_walk;exact⟨_,rfl,h⟩
theorem yn (l:QX) (items:Array QT) (n:Nat) (Xd:Option QX) (b:Array (Option QT)) (u:Tok):
  Meets (Builtin.«tuple.__mul__» ⟨[.ref l,.int 1 u],[]⟩) (fun _ R s=>s.heap.get? l=lD {cls:= .type "tuple",dict:=Xd,data:= .seq items n,slots:=b}/\R (.ok (.ret (QT.ref l))) s):=
 .of_wp fun a w A R s h=>by
  obtain⟨i,g,d,e,f⟩:=s;obtain⟨j,h⟩:=h
  wp_walk
  exact⟨_,rfl,h⟩
theorem xc (l:QX) (items:Array QT) (n:Nat) (Xd:Option QX) (i:Array (Option QT)) (x:Int) (u:Tok) (H:2<=x) (q:x<=1000) (f:items.isEmpty=Q2) (hz:items.size<=1000):
  Meets (Builtin.«tuple.__mul__» ⟨[.ref l,.int x u],[]⟩) (fun _ R s=>s.heap.get? l=lD {cls:= .type "tuple",dict:=Xd,data:= .seq items n,slots:=i}/\R (.ok (.ret (QT.ref s.heap.objs.size))) {s with heap:=s.heap.push {cls:=QT.type "tuple",data:=Data.seq (VU (fun x1 x2=>x1++x2) #[] (Q6 x.toNat items))},toks:=s.toks}):=
 .of_wp fun a w A R s h=>by
  obtain⟨F,g,d,C,E⟩:=s;obtain⟨p,h⟩:=h;have B:¬(decide (x< -(2^63))||decide (x≥2^63))=QW:=by simp;omega
  have z:(x==1)=Q2:=by simp;omega
  have y:decide (x<=0)=Q2:=by simp;omega
  have J:(items.isEmpty||x==1)=Q2:=by rw[f,z];rfl
  have I:(decide (x<=0)||items.isEmpty)=Q2:=by rw[f,y];rfl
  have e:(items.size:Int)*x<=1000000:=by have:(items.size:Int)*x<=1000*1000:=Int.mul_le_mul (by omega) q (by omega) (by omega);omega
  have v:¬(items.size:Int)*x>(2^63 - 1)/8:=by omega
  have t:¬Tuple.tupleTooMany ((items.size:Int)*x)=QW:=by
   unfold Tuple.tupleTooMany;simp;have:(Q8:Nat)=16777216:=by decide
   omega
  wp_walk
  rw[if_neg B]
  wp_walk using wpAny_loadPart' p
  rw[if_neg v];dsimp only;rw[if_neg t];have o:(VU (fun x1 x2=>x1++x2) #[] (Q6 x.toNat items)).size<=Q8:=by
   have r:∀(m:Nat) (b:Array QT),(VU (fun x1 x2=>x1++x2) b (Q6 m items)).size=b.size+m*items.size:=by
    intro m
    induction m with
    |zero=>intro b;simp
    |succ m j=>intro b;rw[Si,VY,j,Array.size_append,adA];omega
   rw[r];have G:x.toNat*items.size<=1000*1000:=WH (by omega) hz;have:(Q8:Nat)=16777216:=by decide
   simp;omega
  wp_walk
  exact⟨_,rfl,h⟩
end PySem
namespace L3
open PySem PySem.Spec PyProof.Rows L2
def Lb (K:QR):R2:=fun x y H Q=>∃(a:QX) (k:Nat) (xs:List V),x= .ref a/\y= .int (k:Int)/\Vo K H a xs/\xs≠[]/\1<=k/\k<=1000/\xs.length<=1000/\
 (k=1->Q (.ref a) H)/\(2<=k->∀p,H p=QS->Q (.ref p) (bC H p (.tup (Q6 k xs).flatten)))
theorem JI:OpR X (SY .Mult) (Lb X.K):=by
 intro g s P H x y v u Q I A z h;obtain⟨a,k,xs,rfl,rfl,E,O,U,M,J,C,B⟩:=h;cases A;obtain⟨t,rfl⟩:=z;obtain⟨e,r,G,T⟩:=I.tuple E;obtain⟨⟨cls,dd,m,f⟩,d,l,n,j⟩:=id G;simp only at l j;subst l j;have i:=r.length;refine ZO (by decide) ⟨_,d,rfl⟩ (fun w=>XQ w k t) ou F.fills_int_mul F.slot_int_rmul wj F.slot_int_index.lookup
  (WE F.slot_int_rmul (XQ s k t) F.entry_int_rmul (F.args_int_rmul_2 _ _) (rh k t a e.toArray n dd f) ⟨d,rfl,⟨_,d,rfl⟩,?_⟩)
 by_cases L:k=1
 .subst L;exact WE F.slot_tuple_mul ⟨_,d,rfl⟩ F.entry_tuple_mul (F.args_tuple_mul_2 _ _) (yn a e.toArray n dd f t) ⟨d,⟨.ref a,H,I,rfl,C rfl⟩⟩
 .refine WE F.slot_tuple_mul ⟨_,d,rfl⟩ F.entry_tuple_mul (F.args_tuple_mul_2 _ _) (xc a e.toArray n dd f k t (by omega) (by omega) ?_ (by rw[Q9];omega)) ⟨d,?_⟩
  .cases e with
   |nil=>cases r;exact absurd rfl O
   |cons y R=>rfl
  .have N:VU (fun p o=>p++o) #[] (Q6 ((k:Nat):Int).toNat e.toArray)=(Q6 k e).flatten.toArray:=by
    have:=og e k [];rw[V0] at this;rw[Sl];exact this
   rw[N];refine⟨.ref s.heap.objs.size,_,I.laid (fun b S q=>Heap.get?_push_of_some _ q) (Q4 _) ?_,rfl,B (by omega) _ (I.Su.fresh (Q4 _))⟩;refine⟨?_,_,r.rep k,Xn.new _ _⟩;rw[Bk];exact RO (WH M J) (by decide)
def K1 (K:QR):R2:=fun x y H Q=>GS K x y H Q\/Lb K x y H Q
theorem Cr:OpR X (SY .Mult) (K1 X.K):=OpR.or HX JI
def ii:D->D->Option RV
 | .tuple xs,.int k=>if xs≠[]/\1<=k/\k<=1000/\xs.length<=1000 then lD (.fz (.tuple (Q6 k.toNat xs).flatten)) else QS
 |d,e=>zj d e
theorem yo {K:QR}:mw K (K1 K) ii:=by
 intro O H x y dx j rv Q n f d e q;unfold ii at e;split at e
 .rename_i ds k
  split at e
  .rename_i g
   cases e;cases d;obtain⟨a,xs,rfl,h,b⟩:=Bu f;obtain⟨m,rfl⟩:∃m:Nat,k=(m:Int):=⟨k.toNat,by omega⟩;rw[Sl] at q;refine .inr ⟨a,m,xs,rfl,rfl,h.1,fun z=>g.1 (b.ne.mp z),by omega,by omega,by rw[b.length];exact g.2.2.2,fun e=> ?_,fun _=>Fin.aan (b.flat m) n q⟩;subst e;have i:(Q6 1 ds).flatten=ds:=by simp
   rw[i] at q;exact q.at (.tup h b)
  .cases e
 .exact .inl (IR O H x y dx j rv Q n f d e q)
theorem wI (i j:Int):ii (.int i) (.int j)=zj (.int i) (.int j):=rfl
theorem mO (h: -(2^64)<i/\i<2^64):ii (.int i) (.int j)=lD (.fz (.int (i*j))):=(wI i j).trans (JO h)
theorem E6 (h: -(2^64)<j/\j<2^64):ii (.int i) (.int j)=lD (.fz (.int (i*j))):=(wI i j).trans (Iq h)
end L3
namespace PySem
open Sem (wp)
open Builtin Builtin.Str
def itAt:Bool->Heap->QX->QX->Nat->Prop
 |true,h,it,a,i=>h.IsTupleIter it a i
 |false,h,it,a,i=>h.IsListIter it a i
def sqAt:Bool->Heap->QX->Array QT->Prop
 |true,h,a,xs=>h.IsTuple a xs
 |false,h,a,xs=>h.IsList a xs
def wJ:Bool->String
 |true=> "tuple_iterator"
 |false=> "list_iterator"
theorem itAt.ext (x:itAt b h it a i) (e:Heap.ExtBut c h h') (n:it≠c):itAt b h' it a i:=by
 cases b with
 |true=>exact Heap.IsTupleIter.extBut x e n
 |false=>exact Heap.IsListIter.extBut x e n
theorem itAt.to (x:itAt b h it a i) (e:∀o,h.get? it=lD o->h'.get? it=lD o):itAt b h' it a i:=by
 cases b with
 |true=>exact Heap.IsTupleIter.at x e
 |false=>exact Heap.IsListIter.at x e
theorem itAt.live (x:itAt b h it a i):∃o,h.get? it=lD o/\∀v,o.data≠ .cell v:=by
 cases b with
 |true=>obtain⟨o,e,_,d⟩:=(show h.IsTupleIter it a i from x);exact⟨o,e,fun v z=>by rw[d] at z;cases z⟩
 |false=>obtain⟨o,e,_,d⟩:=(show h.IsListIter it a i from x);exact⟨o,e,fun v z=>by rw[d] at z;cases z⟩
theorem sqAt.ext (x:sqAt b h a xs) (e:Heap.ExtBut c h h') (n:a≠c):sqAt b h' a xs:=by
 cases b with
 |true=>exact Heap.IsTuple.extBut x e n
 |false=>exact Heap.IsList.extBut x e n
theorem sqAt.psh (x:sqAt b h a xs) (o:Obj):sqAt b (h.push o) a xs:=by
 cases b with
 |true=>exact Heap.IsTuple.push x o
 |false=>exact Heap.IsList.push x o
theorem sqAt.lt (x:sqAt b h a xs):a<h.objs.size:=by
 cases b with
 |true=>obtain⟨o,e,_⟩:=(show h.IsTuple a xs from x);exact Heap.lt_size e
 |false=>obtain⟨o,e,_⟩:=(show h.IsList a xs from x);exact Heap.lt_size e
section
variable {prog:Rt} {w:RM} {A:RG} {E:QT->Q0->Prop} {s:Q0}
theorem vT (hi:itAt b s.heap it l i) (d:sqAt b s.heap l xs) (a:xs[i]? =lD x)
  (q:∀h',itAt b h' it l (i+1)->Heap.SameBut it s.heap h'->Q x {s with heap:=h'}):wpAny (model prog w) A (SmallTypes.nextOf (.ref it)) Q E s:=by
 cases b with
 |true=>exact na hi d a q
 |false=>exact wpAny_nextOf_list_item hi d a q
theorem B9 (f:A.handled=QS) (hi:itAt b s.heap it l i) (d:sqAt b s.heap l xs) (a:xs[i]? =QS)
  (q:∀h' e,Heap.ExtBut it s.heap h'->(∃o,h'.get? e=lD o/\o.cls= .type "StopIteration")->E (.ref e) {s with heap:=h'}):wpAny (model prog w) A (SmallTypes.nextOf (.ref it)) Q E s:=by
 cases b with
 |true=>exact oV f hi d a q
 |false=>exact wpAny_nextOf_list_end f hi d a q
theorem AU (a:sqAt b s.heap l xs)
  (q:Q (.ref s.heap.objs.size) {s with heap:=s.heap.push {cls:= .type (wJ b),data:= .fields #[.ref l,.int 0 0]}}):wpAny (model prog w) A (pyIter (.ref l)) Q E s:=by
 cases b with
 |true=>exact W5 a q
 |false=>exact Uu a q
theorem CL {Q:QT->Q0->Prop} (D:Ya z TI TO i1 i2 l1 l2) (hz:Zg s.heap z TI TO .none)
  (hTI:IsPair s.heap TI (.ref i1) (.ref i2)) (Z:IsPair s.heap TO a b) (h1:itAt b1 s.heap i1 l1 n) (h2:itAt b2 s.heap i2 l2 n) (YQ:sqAt b1 s.heap l1 xs) (Y7:sqAt b2 s.heap l2 ys) (hx:xs[n]? =lD x) (hy:ys[n]? =lD y)
  (q:∀h',Zg h' z TI TO (rawInt s.heap.objs.size)->IsPair h' TO x y->itAt b1 h' i1 l1 (n+1)->itAt b2 h' i2 l2 (n+1)->IsPair h' s.heap.objs.size x y->h'.objs.size=s.heap.objs.size+1->
   (∀c o,c≠z->c≠TO->c≠i1->c≠i2->s.heap.get? c=lD o->h'.get? c=lD o)->Q (.ref s.heap.objs.size) {s with heap:=h'}):
  wpAny (model prog w) A (Builtin.«zip.__next__» ⟨[.ref z],[]⟩) (fun fin s'=>∃v,fin= .done (.ret v)/\Q v s') E s:=by
 show wpAny _ _ (field (.ref z) 2>>=_) _ _ _;refine Ld (RU hz rfl rfl ?_);show wpAny _ _ (field (.ref z) 3>>=_) _ _ _;refine Ld (RU hz rfl rfl ?_);refine Ld (SH hTI rfl ?_);show wpAny _ _ (SmallTypes.ownedTupleIsFree (.ref z)>>=_) _ _ _;refine Ld ?_;unfold SmallTypes.ownedTupleIsFree;refine Ld (RU hz rfl rfl (Q1 ?_));simp only[if_true];refine Ld (WG ?_);refine Ld (RU hz rfl rfl ?_);refine Ld (TV hz (by simp) fun k₁ r f=> ?_);have aby:=r;clear r;refine Ld ?_;simp only[aa9,abq,U2,Wt];refine Ld (Ld (XI ?_));show wpAny _ _ (SmallTypes.nextOf (.ref i1)>>=_) _ _ _;refine Ld (vT (h1.ext f.extBut D.i1z) (YQ.ext f.extBut D.l1z) hx fun k₂ X h=>Q1 ?_);have I:=h.extBut _ _ D.TOi1 (f.extBut _ _ D.TOz Z);refine Ld (SH I rfl ?_);refine Ld (Xk I fun k₃ H g=> ?_);have L:=H;clear H;refine Ld (Uj (Q1 ?_));refine Ld (Ld (XI ?_));show wpAny _ _ (SmallTypes.nextOf (.ref i2)>>=_) _ _ _;refine Ld (vT (((h2.ext f.extBut D.i2z).ext h.extBut D.i12.symm).ext g.extBut D.TOi2.symm) (((Y7.ext f.extBut D.l2z).ext h.extBut D.l2i1).ext g.extBut D.l2TO) hy fun k₄ U j=>Q1 ?_);have G:=j.extBut _ _ D.TOi2 L;refine Ld (SH G rfl ?_);refine Ld (Xk G fun d F i=> ?_);have m:IsPair d TO x y:=F;clear F;refine Ld (Uj (Q1 (Q1 ?_)));refine Ld (SH m rfl ?_);refine Ld (wpAny_newTuple ?_);have T:d.objs.size=s.heap.objs.size:=by rw[i.1,j.1,g.1,h.1,f.1]
 have B:=i.extBut _ _ D.TOz.symm (j.extBut _ _ D.i2z.symm (g.extBut _ _ D.TOz.symm (h.extBut _ _ D.i1z.symm aby)));have kp:∀c o,c≠z->c≠TO->c≠i1->c≠i2->s.heap.get? c=lD o->d.get? c=lD o:=fun c o M Y c3 c4 e=>
  i.extBut _ _ Y (j.extBut _ _ c4 (g.extBut _ _ Y (h.extBut _ _ c3 (f.extBut _ _ M e))))
 have S:=((X.ext g.extBut D.TOi1.symm).ext j.extBut D.i12).ext i.extBut D.TOi1.symm;have R:=U.ext i.extBut D.TOi2.symm;have Va:=Heap.lt_size B;show wpAny _ _ (SmallTypes.ownedTupleHandOut (.ref z) (.ref d.objs.size)>>=_) _ _ _;refine Ld ?_;unfold SmallTypes.ownedTupleHandOut;have P:Zg (d.push {cls:= .type "tuple",data:= .seq #[x,y]}) z TI TO .ellipsis:=Heap.get?_push_of_some _ B;refine Ld (TV P (by simp) fun k₇ O u=> ?_);have K:=O;refine TV K (by simp) fun p N t=> ?_;have l:=N;have up:∀c o,c≠z->d.get? c=lD o->p.get? c=lD o:=fun c o M e=>t.extBut _ _ M (u.extBut _ _ M (Heap.get?_push_of_some _ e));have C:=t.extBut _ _ (So Va) (u.extBut _ _ (So Va) (Heap.get?_push_size _ rfl));have J:p.objs.size=d.objs.size+1:=by rw[t.1,u.1,Heap.size_push]
 rw[T] at l C J;refine Q1 ⟨_,rfl,?_⟩;rw[T];exact q p l (up _ _ D.TOz m) (S.to fun o e=>up _ o D.i1z e) (R.to fun o e=>up _ o D.i2z e) C J fun c o M Y c3 c4 e=>up c o M (kp c o M Y c3 c4 e)
theorem F7 (P:A.handled=QS) (D:Ya z TI TO i1 i2 l1 l2) (hz:Zg s.heap z TI TO .none)
  (J:IsPair s.heap TI (.ref i1) (.ref i2)) (I:IsPair s.heap TO a b) (R:itAt b1 s.heap i1 l1 n) (X:itAt b2 s.heap i2 l2 n) (T:sqAt b1 s.heap l1 xs) (Y7:sqAt b2 s.heap l2 ys) (L:xs[n]? =QS\/ys[n]? =QS)
  (q:∀h' e,(∀c o,c≠z->c≠TO->c≠i1->c≠i2->s.heap.get? c=lD o->h'.get? c=lD o)->(∃o,h'.get? e=lD o/\o.cls= .type "StopIteration")->E (.ref e) {s with heap:=h'}):
  wpAny (model prog w) A (Builtin.«zip.__next__» ⟨[.ref z],[]⟩) Q E s:=by
 show wpAny _ _ (field (.ref z) 2>>=_) _ _ _;refine Ld (RU hz rfl rfl ?_);show wpAny _ _ (field (.ref z) 3>>=_) _ _ _;refine Ld (RU hz rfl rfl ?_);refine Ld (SH J rfl ?_);show wpAny _ _ (SmallTypes.ownedTupleIsFree (.ref z)>>=_) _ _ _;refine Ld ?_;unfold SmallTypes.ownedTupleIsFree;refine Ld (RU hz rfl rfl (Q1 ?_));simp only[if_true];refine Ld (WG ?_);refine Ld (RU hz rfl rfl ?_);refine Ld (TV hz (by simp) fun O v d=> ?_);have F:=v;refine Ld ?_;simp only[aa9,abq,U2,Wt];refine Ld (Ld (XI ?_));show wpAny _ _ (SmallTypes.nextOf (.ref i1)>>=_) _ _ _;cases hx:xs[n]? with
 |none=>
  refine Ld (B9 P (R.ext d.extBut D.i1z) (T.ext d.extBut D.l1z) hx fun B e f H=> ?_);obtain⟨G,h,i⟩:=H;have l:=f _ _ D.i1z.symm F;have ne:e≠z:=fun t=>by subst t;rw[l] at h;cases h;simp at i
  exact TV l (by simp) fun p _ g=>q p e (fun c o C _ K _ t=>g.extBut _ _ C (f _ _ K (d.extBut _ _ C t))) ⟨G,g.extBut _ _ ne h,i⟩
 |some x=>
  have U:ys[n]? =QS:=by
   rcases L with t|t
   .rw[hx] at t;cases t
   .exact t
  refine Ld (vT (R.ext d.extBut D.i1z) (T.ext d.extBut D.l1z) hx fun B S f=>Q1 ?_);have m:=f.extBut _ _ D.TOi1 (d.extBut _ _ D.TOz I);refine Ld (SH m rfl ?_);refine Ld (Xk m fun p M g=> ?_);refine Ld (Uj (Q1 ?_));refine Ld (Ld (XI ?_));show wpAny _ _ (SmallTypes.nextOf (.ref i2)>>=_) _ _ _;refine Ld (B9 P (((X.ext d.extBut D.i2z).ext f.extBut D.i12.symm).ext g.extBut D.TOi2.symm) (((Y7.ext d.extBut D.l2z).ext f.extBut D.l2i1).ext g.extBut D.l2TO) U fun N e u H=> ?_);obtain⟨G,h,i⟩:=H;have j:=u _ _ D.i2z.symm (g.extBut _ _ D.TOz.symm (f.extBut _ _ D.i1z.symm F));have ne:e≠z:=fun t=>by subst t;rw[j] at h;cases h;simp at i
  exact TV j (by simp) fun y _ r=>q y e (fun c o C Z K Y t=>r.extBut _ _ C (u _ _ Y (g.extBut _ _ Z (f.extBut _ _ K (d.extBut _ _ C t))))) ⟨G,r.extBut _ _ ne h,i⟩
end
section
variable {prog:Rt} {w:RM} {A:RG} {E:QT->Q0->Prop} {s:Q0}
theorem x8 (D:Ya z TI TO i1 i2 l1 l2) (hz:Zg s.heap z TI TO .none)
  (e:IsPair s.heap TI (.ref i1) (.ref i2)) (d:IsPair s.heap TO a b) (j:itAt b1 s.heap i1 l1 n) (i:itAt b2 s.heap i2 l2 n) (B:sqAt b1 s.heap l1 xs) (C:sqAt b2 s.heap l2 ys) (h:xs[n]? =lD x) (g:ys[n]? =lD y)
  (q:∀h',Zg h' z TI TO (rawInt s.heap.objs.size)->IsPair h' TO x y->itAt b1 h' i1 l1 (n+1)->itAt b2 h' i2 l2 (n+1)->IsPair h' s.heap.objs.size x y->h'.objs.size=s.heap.objs.size+1->
   (∀c o,c≠z->c≠TO->c≠i1->c≠i2->s.heap.get? c=lD o->h'.get? c=lD o)->Q (lD (.ref s.heap.objs.size)) {s with heap:=h'}):
  wpAny (model prog w) A (pyNext (.ref z)) Q E s:=by
 have f:s.TypeIs (.ref z) "zip":=⟨_,hz,rfl⟩;unfold pyNext;refine Ld (ahB (SR f F.slot_zip_next ?_));exact S3 F.slot_zip_next f F.entry_zip_next (CL D hz e d j i B C h g fun h' v u t r p m l=>Q1 (q h' v u t r p m l)) (F.args_zip_next_1 _)
theorem xu (l:A.handled=QS) (D:Ya z TI TO i1 i2 l1 l2) (hz:Zg s.heap z TI TO .none)
  (f:IsPair s.heap TI (.ref i1) (.ref i2)) (d:IsPair s.heap TO a b) (t:itAt b1 s.heap i1 l1 n) (r:itAt b2 s.heap i2 l2 n) (u:sqAt b1 s.heap l1 xs) (v:sqAt b2 s.heap l2 ys) (g:xs[n]? =QS\/ys[n]? =QS)
  (q:∀h',(∀c o,c≠z->c≠TO->c≠i1->c≠i2->s.heap.get? c=lD o->h'.get? c=lD o)->Q QS {s with heap:=h'}):wpAny (model prog w) A (pyNext (.ref z)) Q E s:=by
 have h:s.TypeIs (.ref z) "zip":=⟨_,hz,rfl⟩;unfold pyNext;refine Ld (ahB (SR h F.slot_zip_next ?_));refine S3 F.slot_zip_next h F.entry_zip_next (F7 l D hz f d t r u v g fun h' e j m=> ?_) (F.args_zip_next_1 _);obtain⟨o,i,p⟩:=m;exact Ld (Wn ⟨o,i,p⟩ isSubtype_stop (Q1 (q _ j)))
end
abbrev ON (h:Heap) (b:Bool) (a:QX):Heap:=h.push {cls:= .type (wJ b),data:= .fields #[.ref a,.int 0 0]}
abbrev OD (h:Heap) (e d:Bool) (b a:QX):Heap:=(ON h e b).push {cls:= .type (wJ d),data:= .fields #[.ref a,.int 0 0]}
abbrev NX (h:Heap) (b e:Bool) (a d:QX):Heap:=(OD h b e a d).push {cls:= .type "tuple",data:= .seq #[.ref h.objs.size,.ref (ON h b a).objs.size]}
abbrev NJ (h:Heap) (e d:Bool) (b a:QX):Heap:=(NX h e d b a).push {cls:= .type "tuple",data:= .seq #[.none,.none]}
abbrev P6 (h:Heap) (e d:Bool) (b a:QX):Heap:=(NJ h e d b a).push {cls:= .type "zip",data:= .fields #[.none,.bool Q2,.bool Q2,.ref (OD h e d b a).objs.size,.ref (NX h e d b a).objs.size]}
theorem tE (e f:Bool) (a b:QX) (xs l:Array QT):
  Meets (Builtin.«zip.__new__» ⟨[.type "zip",.ref a,.ref b],[]⟩) (fun _ R s=>sqAt e s.heap a xs/\sqAt f s.heap b l/\R (.ok (.ret (.ref (NJ s.heap e f a b).objs.size))) {s with heap:=P6 s.heap e f a b}):=
 .of_wp fun n w A R s h=>by
  obtain⟨p,g,d,m,o⟩:=s;obtain⟨r,t,h⟩:=h;have q:=sub_zip;have j:sqAt e (Q0.heap ⟨p,g,d,m,o⟩) a xs:=r;have i:sqAt f (Q0.heap ⟨p.push {cls:= .type (wJ e),data:= .fields #[.ref a,.int 0 0]},g,d,m,o⟩) b l:=sqAt.psh t _
  wp_walk using AU j,AU i
  exact⟨_,rfl,h⟩
section
variable {prog:Rt} {w:RM} {A:RG} {E:QT->Q0->Prop} {s:Q0}
theorem GU (e:h.get? it=lD {cls:= .type (wJ b),data:= .fields #[.ref l,.int 0 0]}):itAt b h it l 0:=by
 cases b with
 |true=>exact⟨_,e,rfl,rfl⟩
 |false=>exact⟨_,e,rfl,rfl⟩
theorem Cy (u:sqAt b1 s.heap l1 xs) (v:sqAt b2 s.heap l2 ys)
  (q:∀h',Zg h' (s.heap.objs.size+4) (s.heap.objs.size+2) (s.heap.objs.size+3) .none->IsPair h' (s.heap.objs.size+2) (.ref s.heap.objs.size) (.ref (s.heap.objs.size+1))->
   IsPair h' (s.heap.objs.size+3) .none .none->itAt b1 h' s.heap.objs.size l1 0->itAt b2 h' (s.heap.objs.size+1) l2 0->(∀c o,s.heap.get? c=lD o->h'.get? c=lD o)->Q (.ref (s.heap.objs.size+4)) {s with heap:=h'}):
  wpAny (model prog w) A (call (.type "zip") [.ref l1,.ref l2]) Q E s:=by
 refine callType_new F.called_zip (by decide) (F.typeCall_zip_2 _ _) (F.newCall_zip_2 _ _) (fun obj=>F.args_object_init_3 obj _ _) F.entry_zip_new (tE b1 b2 l1 l2 xs ys) ⟨u,v,?_⟩;have h:(ON s.heap b1 l1).objs.size=s.heap.objs.size+1:=Heap.size_push ..;have g:(OD s.heap b1 b2 l1 l2).objs.size=s.heap.objs.size+2:=by rw[Heap.size_push,h]
 have f:(NX s.heap b1 b2 l1 l2).objs.size=s.heap.objs.size+3:=by rw[Heap.size_push,g]
 have l:(NJ s.heap b1 b2 l1 l2).objs.size=s.heap.objs.size+4:=by rw[Heap.size_push,f]
 have r:∀c o,s.heap.get? c=lD o->(ON s.heap b1 l1).get? c=lD o:=fun c o e=>Heap.get?_push_of_some _ e;have j:∀c o,(ON s.heap b1 l1).get? c=lD o->(OD s.heap b1 b2 l1 l2).get? c=lD o:=fun c o e=>Heap.get?_push_of_some _ e;have d:∀c o,(OD s.heap b1 b2 l1 l2).get? c=lD o->(NX s.heap b1 b2 l1 l2).get? c=lD o:=fun c o e=>Heap.get?_push_of_some _ e;have b:∀c o,(NX s.heap b1 b2 l1 l2).get? c=lD o->(NJ s.heap b1 b2 l1 l2).get? c=lD o:=fun c o e=>Heap.get?_push_of_some _ e;have a:∀c o,(NJ s.heap b1 b2 l1 l2).get? c=lD o->(P6 s.heap b1 b2 l1 l2).get? c=lD o:=fun c o e=>Heap.get?_push_of_some _ e;have i:(P6 s.heap b1 b2 l1 l2).get? (NJ s.heap b1 b2 l1 l2).objs.size=lD _:=Heap.get?_push_size _ rfl;have m:=a _ _ (Heap.get?_push_size _ rfl);have n:=a _ _ (b _ _ (Heap.get?_push_size _ rfl));have p:=a _ _ (b _ _ (d _ _ (Heap.get?_push_size _ rfl)));have t:=a _ _ (b _ _ (d _ _ (j _ _ (Heap.get?_push_size _ rfl))));rw[g,f,l] at i;rw[h,g] at n;rw[f] at m;rw[h] at p;rw[l];exact⟨⟨_,i,rfl⟩,q _ i n m (GU t) (GU p) fun c o e=>a _ _ (b _ _ (d _ _ (j _ _ (r _ _ e))))⟩
end
end PySem
namespace L3
open PySem PySem.Spec PyProof.Rows L2
def Dw (b:Bool) (K:QR) (H:Hp) (a:QX) (xs:List V):Prop:=match b with
 |true=>Vo K H a xs
 |false=>VR K H a xs
def P7 (K:QR) (d b:Bool) (a c:QX):It:=
 ⟨fun i H=>∃xs ys x y,Dw d K H a xs/\Dw b K H c ys/\xs[i]? =lD x/\ys[i]? =lD y,
  fun i H v e=>∃p x y,H p=QS/\v= .ref p/\(∀xs,Dw d K H a xs->xs[i]? =lD x)/\(∀ys,Dw b K H c ys->ys[i]? =lD y)/\e=bC H p (.tup [x,y]),
  fun i H=>∃xs ys,Dw d K H a xs/\Dw b K H c ys/\(xs.length<=i\/ys.length<=i)⟩
theorem Hw (I:Inv X pins σ H s) (i:VR X.K H a xs) (h:VR X.K H a ys):xs=ys:=by
 obtain⟨e,g,⟨o,k,j,_,n,m⟩,_⟩:=I.list i;obtain⟨d,f,⟨p,t,b,_,r,l⟩,_⟩:=I.list h;rw[j] at b;cases b;have:e=d:=by
  have q:e.toArray=d.toArray:=by injection m.symm.trans l
  simpa using q
 subst this;exact g.inj f
theorem nZ (I:Inv X pins σ H s) (h:Dw b X.K H a xs):∃RQ,Vals xs RQ/\sqAt b s.heap a RQ.toArray:=by
 cases b with
 |true=>obtain⟨RQ,rv,p,d⟩:=I.tuple h;exact⟨RQ,rv,p⟩
 |false=>obtain⟨RQ,rv,p,d⟩:=I.list h;exact⟨RQ,rv,p.isList⟩
theorem Bo (I:Inv X pins σ H s) (e:Dw b X.K H a xs) (d:Dw b X.K H a ys):xs=ys:=by
 cases b with
 |true=>exact Ka I e d
 |false=>exact Hw I e d
theorem CM {ch:List QX} (I:Inv X pins σ H s) (f:∀b∈ch,mS X pins H b)
  (k:∀b u,b∉ch->s.heap.get? b=lD u->h'.get? b=lD u):Inv X pins σ H {s with heap:=h',toks:=t'}:=by
 have d:∀b u,H b=lD u->b∉ch:=fun b u e z=>by rw[(f b z).1] at e;cases e
 refine I.step (fun b i=> ?_) (fun b u _ _ a e _=>k b u a e) (fun b u _ _ a e _=>⟨u.slots,k b u a e⟩) (fun _ _ _ _ n=>n)
  (fun b u a e=>⟨u,k b u a e⟩) (fun _ _ e=>e) (fun _ _ _ e=>e) (fun b ps e=>⟨#[],by rw[e];simp⟩) (fun m hm=> ?_) (fun b u e=> ?_) I.bare
 .obtain⟨_,p,_,o,l,j⟩:=f b i;exact⟨o,p,l,j⟩
 .obtain⟨g,t,w,h,r⟩:=hm;exact⟨g,t,w,k _ g (fun z=>(f _ z).2.1 rfl) h,r⟩
 .refine(I.Su b u e).Wb (fun c v a q=>k c v ?_ q) (fun _ q=>q) fun _ _ q=>q
  rcases a with z|z
  .rw[z];exact d b u e
  .exact d c _ z
theorem Hj {K:QR} {kk} (b1 b2:Bool) (z TI TO A r T S:QX) (D:Ya z TI TO A r T S):
  Turn P w K (.Tuple elts kk tp) (P7 K b1 b2 T S) [z,TI,TO,A,r] z (fun i h=>Zg h z TI TO .none/\IsPair h TI (.ref A) (.ref r)/\(∃a b,IsPair h TO a b)/\itAt b1 h A T i/\itAt b2 h r S i) where
 mem:=by simp
 obj:=fun i h e b d=>by
  obtain⟨j,f,⟨a,c,l⟩,p,m⟩:=e;simp only[Rv,SJ,or_false] at d;rcases d with rfl|rfl|rfl|rfl|rfl
  .exact⟨_,j,fun v q=>by cases(show Data.fields _=Data.cell v from q)⟩
  .exact⟨_,f,fun v q=>by cases(show Data.seq _ _=Data.cell v from q)⟩
  .exact⟨_,l,fun v q=>by cases(show Data.seq _ _=Data.cell v from q)⟩
  .exact p.live
  .exact m.live
 keep:=fun i h h' e k=>by obtain⟨j,f,⟨a,c,l⟩,p,m⟩:=e;exact⟨k z (by simp) _ j,k TI (by simp) _ f,⟨a,c,k TO (by simp) _ l⟩,p.to fun o q=>k A (by simp) o q,m.to fun o q=>k r (by simp) o q⟩
 item:=by
  intro X hP Z hK hc i g s σ H E I L e hg;subst hP Z hK;obtain⟨j,f,⟨a,c,l⟩,p,m⟩:=e;obtain⟨xs,ys,x,y,G,F,hx,hy⟩:=hg;obtain⟨RQ,O,R⟩:=nZ I G;obtain⟨C,N,Q⟩:=nZ I F;obtain⟨u,hu,ru⟩:=O.get hx;obtain⟨t,ht,rt⟩:=N.get hy;refine x8 D j f l p m R Q (by simpa using hu) (by simpa using ht) fun k z1 o1 g1 g2 pr sz J=>⟨_,rfl,?_⟩;refine wpAny_letOwnedTupleGo_zip z1 fun B z2 e2=> ?_;have U:=Heap.lt_size j;have hIl:=Heap.lt_size f;have hOl:=Heap.lt_size l;have h1l:A<s.heap.objs.size:=by obtain⟨_,q,_⟩:=p.live;exact Heap.lt_size q
  have h2l:r<s.heap.objs.size:=by obtain⟨_,q,_⟩:=m.live;exact Heap.lt_size q
  have hn:=I.Su.fresh (Q4 _);have kk:∀b o,b∉[z,TI,TO,A,r]->s.heap.get? b=lD o->B.get? b=lD o:=fun b o d q=>by simp only[Rv,SJ,or_false,not_or] at d;exact(e2.2 b d.1).trans (J b o d.1 d.2.2.1 d.2.2.2.1 d.2.2.2.2 q)
  have hT2:=(e2.2 _ (So U)).trans pr
  have I2:Inv X g σ (bC H s.heap.objs.size (.tup [x,y])) {s with heap:=B}:=
   I.ZL L kk (Q4 _) ⟨by show 2<=Q8;decide,[u,t],.cons ru (.cons rt .nil),⟨_,hT2,⟨rfl,_,rfl⟩,rfl⟩⟩
  have M:∀b o,b≠z->k.get? b=lD o->B.get? b=lD o:=fun b o n q=>(e2.2 b n).trans q;refine⟨.ref s.heap.objs.size,_,I2,rfl,⟨_,x,y,hn,rfl,fun zs hs=>by rw[Bo I hs G];exact hx,fun zs hs=>by rw[Bo I hs F];exact hy,rfl⟩,
   ⟨z2,M _ _ D.TIz (J _ _ D.TIz D.TITO D.TIi1 D.TIi2 f),⟨_,_,M _ _ D.TOz o1⟩,g1.to fun o q=>M _ _ D.i1z q,g2.to fun o q=>M _ _ D.i2z q⟩,fun b d=> ?_⟩
  have hb2:b<s.heap.objs.size:=by simp only[Rv,SJ,or_false] at d;rcases d with rfl|rfl|rfl|rfl|rfl<;>assumption
  rw[aH (Rr hb2)];exact(L b d).1
 done:=by
  intro X hP Z hK hc i g s σ H E I L e hg;subst hP Z hK;obtain⟨j,f,⟨a,c,l⟩,p,m⟩:=e;obtain⟨xs,ys,G,F,Y⟩:=hg;obtain⟨RQ,O,R⟩:=nZ I G;obtain⟨C,N,Q⟩:=nZ I F;have YQ:=O.length;have Y7:=N.length;have hd:RQ.toArray[i]? =QS\/C.toArray[i]? =QS:=by
   rcases Y with q|q
   .exact .inl (by simp;omega)
   .exact .inr (by simp;omega)
  refine xu (I.ok.hd hc) D j f l p m R Q hd fun k J=>⟨rfl,?_⟩;exact CM I L fun b o d q=>by simp only[Rv,SJ,or_false,not_or] at d;exact J b o d.1 d.2.2.1 d.2.2.2.1 d.2.2.2.2 q
 self:=fun _ _ _ _ _ e h=>adC e.1 h
theorem C4 (n b a:Nat) (e:b<n) (d:a<n):Ya (n+4) (n+2) (n+3) n (n+1) b a:=by constructor<;>(show(_:Nat)≠_;omega)
def Kt (K:QR) (e:TA):TI:=fun d H R=>e d H fun vs b=>∃a c b1 b2,vs=[.ref a,.ref c]/\(∃xs,Dw b1 K b a xs)/\(∃ys,Dw b2 K b c ys)/\R (P7 K b1 b2 a c) b
theorem ES:Sr "zip"=lD (.type "zip"):=by left
theorem LW {kk} (P:Gl X "zip") (hm:X.mg "zip"=QS) (ha:PA X [l,m] ta) (M:Ru [l,m] X.env=(Q2,eval l X.env)::Ru [m] X.env:=by rfl) (N:(backTo pos (Ru [m] X.env)).any (·.1)=Q2:=by rfl):
  PI X (.Tuple elts kk tp) (.Call (.Name "zip" p) [l,m] [] pos) (Kt X.K ta):=by
 intro d s w H R I h;refine Call_ (mf I P hm ES (S2 (cB (ha pos d s w H _ I h) fun Z f ⟨vs,v,i,E,F⟩=> ?_) M N));obtain⟨a,c,U,T,e,⟨xs,B⟩,⟨Y,A⟩,q⟩:=F;subst e;obtain⟨u,t,rfl,C,rt⟩:=EK E;cases C;cases rt;obtain⟨RQ,rx,o⟩:=nZ i B;obtain⟨L,ry,n⟩:=nZ i A;have S:∀b∈[f.heap.objs.size+4,f.heap.objs.size+2,f.heap.objs.size+3,f.heap.objs.size,f.heap.objs.size+1],mS X d v b:=fun b r=>by
  have g:f.heap.objs.size<=b:=by simp only[Rv,SJ,or_false] at r;have Q:=r;omega
  exact i.YY g (i.Su.fresh g)
 refine Cy o n fun h1 j J G z y O=> ?_;refine adC j ?_;exact⟨f.heap.objs.size+4,_,_,_,v,rfl,i.kept O,Hj U T _ _ _ _ _ a c (C4 _ _ _ o.lt n.lt),⟨j,J,⟨_,_,G⟩,z,y⟩,S,q⟩
def On:Sf->Bool
 | .Starred _ _=>QW
 |_=>Q2
theorem uA (e:Sf) (a:List Sf) (env:Env) (h:On e=Q2):Ru (e::a) env=(Q2,eval e env)::Ru a env:=by cases e<;>first|rfl|cases h
def mr:List D->List D->List D
 |x::r,y::q=> .tuple [x,y]::mr r q
 |_,_=>[]
theorem xj:∀(xs a:List D),(mr xs a).length=min xs.length a.length
 |[],_=>by simp[mr]
 |_::_,[]=>by simp[mr]
 |_::r,_::q=>by simp only[mr,Rg,xj r q];omega
theorem xC:∀(xs a:List D) (i:Nat),(mr xs a)[i]? =(xs[i]?).bind fun x=>(a[i]?).map fun y=> .tuple [x,y]
 |[],_,_=>by simp[mr]
 |x::r,[],i=>by cases i<;>simp[mr]
 |x::r,y::q,0=>by simp[mr]
 |x::r,y::q,i+1=>by simp only[mr,YN];exact xC r q i
section
variable {K:QR} {E:XK} {B O Z:ci} {H0 H H':Hp} {σ:L2.St} {ρ ρ':bt} {v:V}
def Y2 (b:Bool) (O:ci) (K:QR) (H:Hp) (a:QX) (xs:List V):Prop:=match b with
 |true=>V2 O K H a xs
 |false=>XF O K H a xs
theorem Y2.ev (h:Y2 b O K H a xs) (e:Ev O H Z H'):Y2 b Z K H' a xs:=by
 cases b with
 |true=>exact V2.ev h e
 |false=>exact XF.ev h e
theorem Y2.at (h:Y2 b O K H a xs):Dw b K H a xs:=by
 cases b with
 |true=>exact(show V2 O K H a xs from h).1
 |false=>exact(show XF O K H a xs from h).1.sq
theorem ME (h:Y2 b1 O K H a xs) (hd:S0 O K H xs ds) (g:Y2 b2 O K H c ys) (A:S0 O K H ys es):yQ K (P7 K b1 b2 a c) O H (mr ds es):=by
 intro Z H' e n;have f:=h.ev e;have d:=hd.ev e;have l:=g.ev e;have j:=A.ev e;rw[xj];refine⟨fun i hi=> ?_,⟨xs,ys,f.at,l.at,?_⟩⟩
 .have u:i<ds.length:=by omega
  have r:i<es.length:=by omega
  obtain⟨x,z,dx⟩:=d.get (Q5 u);obtain⟨y,w,C⟩:=j.get (Q5 r);refine⟨⟨xs,ys,x,y,f.at,l.at,z,w⟩,?_⟩;rintro t F ⟨p,I,G,b,rfl,ZE,hy',rfl⟩;have o:=ZE xs f.at;have m:=hy' ys l.at;rw[z] at o;rw[w] at m;cases o;cases m;refine⟨b4 b _,.tuple [ds[i],es[i]],?_,.tup ⟨Vo.of aM,fun q=>absurd q (n p b)⟩ (.cons (dx.ev (Ev.grow (b4 b _))) (.cons (C.ev (Ev.grow (b4 b _))) .nil))⟩;rw[xC,Q5 u,Q5 r];rfl
 .rw[hd.length,A.length];omega
theorem Ks (h:DV O K H v d) (q:eY d=lD ds):∃b a xs,v= .ref a/\Y2 b O K H a xs/\S0 O K H xs ds:=by
 cases h with
 |tup h e=>cases q;exact⟨QW,_,_,rfl,h,e⟩
 |lst h e=>cases q;exact⟨Q2,_,_,rfl,h,e⟩
 |_=>cases q
def D8 (fa:FA):FI:=fun ρ=>(fa ρ).bind fun a=>(Res.Sh (pV a.2 a.1)).bind fun b=>match b.1 with
 |[d,e]=>(Res.Sh (eY d)).bind fun ds=>(Res.Sh (eY e)).bind fun f=> .ok (mr ds f,b.2)
 |_=> .bad
theorem Nz (h:AO K E ta fa):IO K E (Kt K ta) (D8 fa):=by
 intro B H0 O σ H ρ M R w;refine h B H0 O σ H ρ _ R (w.bind.imp fun a b N vs I p F l=> ?_);obtain⟨⟨ds,g⟩,q,b⟩:=b.Sh;obtain⟨G,o,R2,r⟩:=rZ F l q;dsimp only at b;cases r with
 |nil=>exact b.elim
 |cons n d=>
  cases d with
  |nil=>exact b.elim
  |cons d m=>
   cases m with
   |cons _ _=>exact b.elim
   |nil=>obtain⟨L,j,b⟩:=WR.Sh b;obtain⟨fs,i,b⟩:=WR.Sh b;obtain⟨z,C,xs,rfl,f,u⟩:=Ks n j;obtain⟨y,A,J,rfl,e,t⟩:=Ks d i;exact⟨C,A,z,y,rfl,⟨_,f.at⟩,⟨_,e.at⟩,b G _ I (p.trans o) R2 (ME f u e t)⟩
def fY (d e:D):Option RV:=match d,e with
 | .str z,.int i=>if z.length<=1000000 then(lx z.cps.toList i).map fun c=> .fz (.str ⟨#[c]⟩) else QS
 |_,_=>QS
theorem vq:mw K (Px K) fY:=by
 intro O H x y dx f rv Q n b a e q;unfold fY at e;split at e
 .split at e
  .rename_i z i d
   cases qa:lx z.cps.toList i with
   |none=>rw[qa] at e;cases e
   |some c=>rw[qa] at e;cases e;cases b;cases a;exact .inr (.inr ⟨z,i,c,rfl,rfl,BF d,qa,q.at (.str _)⟩)
  .cases e
 .cases e
end
end L3
namespace L3
open PySem L2
def Qm (N C:bt->Prop) (T:RV->Prop):Res Fl->Prop
 | .ok (.nx ρ)=>N ρ
 | .ok (.ct ρ)=>C ρ
 | .ok (.rt v)=>T v
 |_=>False
structure Go (r:Res Fl) (N C:bt->Prop) (T:RV->Prop):Prop where
 out:Qm N C T r
section
variable {ρ ρ1 ρ2 ρ3:bt} {f g:FS} {fe:FE} {pv:PV} {d:D} {rv:RV} {ds:List D} {N C:bt->Prop} {T:RV->Prop}
theorem Go.eq (e:r=r') (h:Go r' N C T):Go r N C T:=by rw[e];exact h
theorem Go.imp (h:Go r N C T) (b:∀ρ,N ρ->N' ρ) (e:∀ρ,C ρ->C' ρ) (a:∀v,T v->T' v):Go r N' C' T':=by
 refine⟨?_⟩;have h:=h.out;cases r with
 |bad=>exact h
 |er x=>exact h
 |ok i=>
  cases i with
  |nx r=>exact b _ h
  |ct r=>exact e _ h
  |rt v=>exact a _ h
  |bk r=>exact h
theorem G7 (h:Go (f ρ) (fun r=>Go (g r) N C T) C T):Go (bG f g ρ) N C T:=by
 refine⟨?_⟩;have h:=h.out;unfold bG;cases q:f ρ with
 |bad=>rw[q] at h;exact h.elim
 |er x=>rw[q] at h;exact h.elim
 |ok a=>
  rw[q] at h;cases a with
  |nx r=>exact(show Go (g r) N C T from h).out
  |ct r=>exact h
  |rt v=>exact h
  |bk r=>exact h.elim
theorem Bj (h:c ρ= .ok (b,ρ1)) (a:b=QW->Go (f ρ1) N C T) (e:b=Q2->Go (g ρ1) N C T):Go (ka c f g ρ) N C T:=by
 unfold ka;rw[h,Res.bind_ok];cases b with
 |true=>exact a rfl
 |false=>exact e rfl
theorem DF (b:fe ρ= .ok (pv,ρ1)) (a:gt pv ρ1= .ok ρ2) (h:N ρ2):Go (eZ fe gt ρ) N C T:= .eq (yG b a rfl) ⟨h⟩
theorem qB (a:fe ρ= .ok (pv,ρ1)) (h:N ρ1):Go (pz fe ρ) N C T:= .eq (AH a) ⟨h⟩
theorem ei (b:fe ρ= .ok (pv,ρ1)) (a:Dp ρ1 pv=lD rv) (h:T rv):Go (cW fe ρ) N C T:= .eq (vZ b a) ⟨h⟩
theorem qD (h:N ρ):Go (dr ρ) N C T:=⟨h⟩
theorem BN (I:Nat->bt->Prop):∀(ds:List D) (k:Nat) (ρ:bt),I k ρ->(∀i d ρ,ds[i]? =lD d->I (k+i) ρ->∃ρ1,gt (.fz d) ρ= .ok ρ1/\Go (b ρ1) (I (k+i+1)) (I (k+i+1)) T)->Go (pI gt b ds ρ) (I (k+ds.length)) C T
 |[],k,ρ,h0,_=>⟨h0⟩
 |d::r,k,ρ,h0,hs=>by
  obtain⟨ρ1,o,a⟩:=hs 0 d ρ rfl h0;have a:=a.out;have l:∀j,I (k+1) j->Go (pI gt b r j) (I (k+(r.length+1))) C T:=fun j h=>by
   have e:k+(r.length+1)=k+1+r.length:=by omega
   rw[e];refine BN I r (k+1) j h fun i t m hi n=> ?_;have e:k+1+i=k+(i+1):=by omega
   rw[e] at n⊢;exact hs (i+1) t m (by simpa using hi) n
  refine⟨?_⟩;show Qm _ _ _ ((gt (.fz d) ρ).bind _);rw[o,Res.bind_ok];cases q:b ρ1 with
  |bad=>rw[q] at a;exact a.elim
  |er x=>rw[q] at a;exact a.elim
  |ok p=>
   rw[q] at a;cases p with
   |nx r=>exact(l _ a).out
   |ct r=>exact(l _ a).out
   |rt v=>exact a
   |bk r=>exact a.elim
theorem GL (I:Nat->bt->Prop) (hi:fi ρ= .ok (ds,ρ1)) (j:I 0 ρ1) (a:∀i d ρ,ds[i]? =lD d->I i ρ->∃ρ1,gt (.fz d) ρ= .ok ρ1/\Go (b ρ1) (I (i+1)) (I (i+1)) T) (e:∀ρ',I ds.length ρ'->N ρ'):Go (oE fi gt b ρ) N C T:=by have:=BN (C:=C) I ds 0 ρ1 j (by simpa using a);rw[Vd] at this;exact .eq (zB hi) (this.imp e (fun _ h=>h) fun _ h=>h)
theorem ox (a:ds.map (fun d=>lD (.fz d))++Q6 (n - ds.length) QS=ρ) (h:Go (g ρ) (fun _=>T (.fz .none)) (fun _=>False) T):∃rv,fQ n g ds= .ok rv/\T rv:=by
 have h:=h.out;unfold fQ;rw[a];cases q:g ρ with
 |bad=>rw[q] at h;exact h.elim
 |er x=>rw[q] at h;exact h.elim
 |ok b=>
  rw[q] at h;cases b with
  |nx r=>exact⟨_,rfl,h⟩
  |ct r=>exact h.elim
  |rt v=>exact⟨_,rfl,h⟩
  |bk r=>exact h.elim
theorem gF (a:ds.map (fun d=>lD (.fz d))++Q6 (n - ds.length) QS=ρ) (h:Go (g ρ) (fun _=>RV.fz .none=v) (fun _=>False) (fun r=>r=v)):fQ n g ds= .ok v:=by obtain⟨rv,e,b⟩:=ox (T:=fun r=>r=v) a h;rw[e,b]
theorem cM (b:fe ρ= .ok (pv,ρ1)) (a:gt pv ρ1= .ok ρ2) (hn:ρ2=ρ3) (h:Go (g ρ3) N C T):Go (bG (eZ fe gt) g ρ) N C T:= .eq (GY (yG b a hn)) h
theorem eK (b:fe ρ= .ok (pv,ρ1)) (a:Dp ρ1 pv=lD rv) (h:T rv):Go (bG (cW fe) g ρ) N C T:= .eq (Fm (vZ b a)) ⟨h⟩
theorem dh (h:Go (g ρ) N C T):Go (bG dr g ρ) N C T:= .eq rfl h
theorem CJ:bG (bG f1 f2) g ρ=bG f1 (bG f2 g) ρ:=by
 unfold bG;cases f1 ρ with
 |bad=>rfl
 |er x=>rfl
 |ok a=>cases a<;>rfl
theorem yJ (h:Go (bG f1 (bG f2 g) ρ) N C T):Go (bG (bG f1 f2) g ρ) N C T:= .eq CJ h
theorem hJ (i:c ρ= .ok (b,ρ1)) (a:b=QW->Go (bG f1 g ρ1) N C T) (h:b=Q2->Go (bG f2 g ρ1) N C T):Go (bG (ka c f1 f2) g ρ) N C T:=by
 have e:bG (ka c f1 f2) g ρ=if b=QW then bG f1 g ρ1 else bG f2 g ρ1:=by unfold bG ka;rw[i,Res.bind_ok];cases b<;>rfl
 refine .eq e ?_;cases b with
 |true=>exact a rfl
 |false=>exact h rfl
theorem sM (I:Nat->bt->Prop) (hi:fi ρ= .ok (ds,ρ1)) (h:I 0 ρ1) (a:∀i d ρ,ds[i]? =lD d->I i ρ->∃ρ1,gt (.fz d) ρ= .ok ρ1/\Go (b ρ1) (I (i+1)) (I (i+1)) T) (e:∀ρ',I ds.length ρ'->Go (g ρ') N C T):Go (bG (oE fi gt b) g ρ) N C T:=
 G7 (GL I hi h a e)
theorem uz (I:bt->Prop) (P:Nat->D->Prop):∀(ds:List D) (k:Nat) (ρ:bt) (a:List D),I ρ->a.length+ds.length<=1000000->(∀i d,ds[i]? =lD d->∀ρ,I ρ->∃x ρ',kL gt ft fe d ρ= .ok (lD x,ρ')/\I ρ'/\P (k+i) x)->
  ∃xs,d5 gt ft fe ds ρ a= .ok (a++xs)/\xs.length=ds.length/\∀i x,xs[i]? =lD x->P (k+i) x
 |[],k,ρ,a,_,_,_=>⟨[],by show Res.ok a=_;simp,rfl,fun i x h=>by simp at h⟩
 |d::r,k,ρ,a,h0,hl,hs=>by
  obtain⟨x,ρ',o,n,m⟩:=hs 0 d rfl ρ h0;rw[Rg] at hl;obtain⟨xs,t,q,p⟩:=uz I P r (k+1) ρ' (a++[x]) n (by rw[Q3];simp;omega) fun i u hi b l=>by
   have e:k+1+i=k+(i+1):=by omega
   rw[e];exact hs (i+1) u (by simpa using hi) b l
  refine⟨x::xs,?_,by rw[Rg,q,Rg],fun i y j=> ?_⟩
  .rw[tD o (by omega)];show d5 gt ft fe r ρ' (a++[x])=_;rw[t,RJ];rfl
  .cases i with
   |zero=>cases(show lD x=lD y from j);exact m
   |succ i=>
    have e:k+(i+1)=k+1+i:=by omega
    rw[e];exact p i y (by simpa using j)
theorem x0 (I:bt->Prop) (P:Nat->D->Prop) (e:I ρ) (b:ds.length<=1000000) (a:∀i d,ds[i]? =lD d->∀ρ,I ρ->∃x ρ',kL gt ft fe d ρ= .ok (lD x,ρ')/\I ρ'/\P i x):
  ∃xs,lF (d5 gt ft fe ds ρ [])= .ok xs/\xs.length=ds.length/\∀i x,xs[i]? =lD x->P i x:=by
 obtain⟨xs,l,j,h⟩:=uz I P ds 0 ρ [] e (by simpa using b) (by simpa using a);exact⟨xs,by rw[l];rfl,j,by simpa using h⟩
theorem vE {α:Type} {f:α->D} {Q:Nat->α->Prop}:∀(xs:List D) (k:Nat),(∀i x,xs[i]? =lD x->∃a,x=f a/\Q (k+i) a)->∃as:List α,xs=as.map f/\∀i a,as[i]? =lD a->Q (k+i) a
 |[],_,_=>⟨[],rfl,fun i a h=>by simp at h⟩
 |x::r,k,h=>by
  obtain⟨a,e,q⟩:=h 0 x rfl;obtain⟨as,n,l⟩:=vE (f:=f) (Q:=Q) r (k+1) fun i y m=>by
   have e:k+1+i=k+(i+1):=by omega
   rw[e];exact h (i+1) y (by simpa using m)
  refine⟨a::as,by rw[e,n];rfl,fun i b j=> ?_⟩;cases i with
  |zero=>cases(show lD a=lD b from j);exact q
  |succ i=>
   have e:k+(i+1)=k+1+i:=by omega
   rw[e];exact l i b (by simpa using j)
theorem Pp (ha:QZ.strOk a=QW) (e:QZ.strOk b=QW):cY (.str a) (.str b)=lD (.fz (.bool (a==b))):=by unfold cY;rw[show lQ (.str a)=QW by unfold lQ;rw[show QZ.canLay0 (.str a)=QW from ha];rfl,show QZ.canLay0 (.str b)=QW from e,Tb,if_pos rfl];rfl
theorem K3 (ha:QZ.strOk a=QW):cY (.str a) (.str a)=lD (.fz (.bool QW)):=by rw[Pp ha ha,beq_self_eq_true]
theorem B1 (ha:QZ.strOk a=QW) (e:QZ.strOk b=QW) (h:(a==b)=Q2):cY (.str a) (.str b)=lD (.fz (.bool Q2)):=by rw[Pp ha e,h]
theorem vh {α:Type} {xs:List α} {i:Int} {v:α} (a:0<=i) (h:xs[i.toNat]? =lD v):lx xs i=lD v:=Lo a h
theorem II (a:0<=i) (h:ds[i.toNat]? =lD d):bq (.list ds) (.int i)=lD (.fz d):=by show(lx ds i).map RV.fz=_;rw[vh a h];rfl
theorem Jz {s:List Nat} (e:s.Pairwise (·<·)) (h:∀k∈s,k<n):s.length<=n:=by
 have:∀(s:List Nat) (a:Nat),s.Pairwise (·<·)->(∀k∈s,a<=k/\k<n)->s.length<=n - a:=by
  intro s
  induction s with
  |nil=>intro a _ _;exact RZ _
  |cons x r i=>intro a e h;obtain⟨l,j⟩:=Vh.mp e;have m:=h x Rh;have:=i (x+1) j fun k b=>⟨l k b,(h k (Rf _ b)).2⟩;rw[Rg];omega
 exact this s 0 e fun k b=>⟨RZ _,h k b⟩
theorem Cq (ha:fr ρ= .ok (ps,ρ1)) (hd:pV ρ1 ps=lD ([d,e],ρ2)) (b:eY d=lD es) (a:eY e=lD fs):D8 fr ρ= .ok (mr es fs,ρ2):=by unfold D8;rw[ha,Res.bind_ok,hd,bp,Res.bind_ok];dsimp only;rw[b,bp,Res.bind_ok,a,bp,Res.bind_ok]
end
end L3
namespace L3
open PySem PySem.Spec PyProof.Rows L2 PySem.Builtin PySem.Builtin.Str
end L3
namespace PySem
open Sem (wp)
open AutoSeq1 (wpAny_loadPart')
open Builtin Builtin.Str
end PySem
namespace PySem
open Sem (wp)
open Builtin Builtin.Str
end PySem
namespace L3
open PySem PySem.Spec PyProof.Rows L2 PySem.Builtin
end L3
namespace L3
open PySem L2
end L3
namespace L2
open PySem PySem.Spec PyProof.Rows
end L2
namespace L3
open PySem PySem.Spec L2
end L3
namespace L2
open PySem PySem.Spec PyProof.Rows
section
variable {κ:Type} [DecidableEq κ]
def j8 (Rz:List (κ×V)) (k:κ):Option V:=(Rz.find? fun a=>decide (a.1=k)).map (·.2)
def jh (Rz:List (κ×V)) (k:κ) (v:V):List (κ×V):=
 if(Rz.any fun a=>decide (a.1=k))=QW then Rz.map (fun a=>if a.1=k then(a.1,v) else a) else Rz++[(k,v)]
def mW (Rz:List (κ×V)) (k:κ):List (κ×V):=Rz.filter fun a=>decide (a.1≠k)
theorem sV {k:κ} (e:p.1=k):j8 (p::r) k=lD p.2:=by simp[j8,RP,e]
theorem qZ {k:κ} (e:¬p.1=k):j8 (p::r) k=j8 r k:=by simp[j8,RP,e]
theorem yC (k:κ):∀Rz:List (κ×V),(Rz.any fun kv=>decide (kv.1=k))=(j8 Rz k).isSome
 |[]=>rfl
 |p::r=>by
  rw[US];by_cases e:p.1=k
  .simp only[sV e,decide_eq_true e,Uz,ZN]
  .rw[qZ e,decide_eq_false e,VJ];exact yC k r
theorem kK (Rz:List (κ×V)) (k:κ) (v:V):(jh Rz k v).length<=Rz.length+1:=by
 unfold jh;split
 .rw[QV];omega
 .rw[Q3,Rg,SD];omega
theorem Vz.Wh (r:Vz o u):o.isSome=u.isSome:=by
 cases o with
 |none=>cases u with
  |none=>rfl
  |some _=>exact(show False from r).elim
 |some _=>cases u with
  |none=>exact(show False from r).elim
  |some _=>rfl
theorem KV.val {Rz:List (κ×V)} {vs:List (κ×QT)} (r:KV Rz vs) (k:κ):Vz (j8 Rz k) (valueAt vs k):=by
 unfold KV at r
 induction r with
 |nil=>exact True.intro
 | @cons p q ps qs h t ih=>
  obtain⟨d,f⟩:=h;by_cases e:p.1=k
  .have a:q.1=k:=d.symm.trans e
   have b:valueAt (q::qs) k=lD q.2:=by simp[valueAt,RP,a]
   rw[sV e,b];exact f
  .have a:¬q.1=k:=fun z=>e (d.trans z)
   have b:valueAt (q::qs) k=valueAt qs k:=by simp[valueAt,RP,a]
   rw[qZ e,b];exact ih
theorem KV.any (r:KV Rz vs) (k:κ):(Rz.any fun kv=>decide (kv.1=k))=vs.any fun kv=>decide (kv.1=k):=by
 unfold KV at r
 induction r with
 |nil=>rfl
 |cons h t a=>rw[US,US,a,h.1]
theorem KV.acK (r:KV Rz vs) (k:κ) (b:RelV y u):
  KV (Rz.map fun kv=>if kv.1=k then(kv.1,y) else kv) (vs.map fun kv=>if kv.1=k then(kv.1,u) else kv):=by
 unfold KV at r⊢
 induction r with
 |nil=>exact .nil
 | @cons p q ps qs h t ih=>
  rw[Ri,Ri];refine .cons ?_ ih;obtain⟨a,d⟩:=h;by_cases e:p.1=k
  .rw[if_pos e,if_pos (a.symm.trans e)];exact⟨a,b⟩
  .rw[if_neg e,if_neg (fun z=>e (a.trans z))];exact⟨a,d⟩
theorem KV.put (r:KV Rz vs) (k:κ) (a:RelV y u):KV (jh Rz k y) (stored vs k u):=by
 unfold jh stored;rw[r.any k];by_cases e:(vs.any fun b=>decide (b.1=k))=QW
 .rw[if_pos e,if_pos e];exact r.acK k a
 .rw[if_neg e,if_neg e];exact Paired.snoc r ⟨rfl,a⟩
theorem KV.drop (r:KV Rz vs) (k:κ):KV (mW Rz k) (without vs k):=by
 unfold KV at r⊢;unfold mW without
 induction r with
 |nil=>exact .nil
 | @cons p q ps qs h t ih=>
  obtain⟨d,f⟩:=h;rw[T9,T9];by_cases e:p.1=k
  .have a:¬decide (p.1≠k)=QW:=by simp[e]
   have b:¬decide (q.1≠k)=QW:=by simp[d.symm.trans e]
   rw[if_neg a,if_neg b];exact ih
  .have g:¬q.1=k:=fun z=>e (d.trans z)
   have a:decide (p.1≠k)=QW:=by simp[e]
   have b:decide (q.1≠k)=QW:=by simp[g]
   rw[if_pos a,if_pos b];exact .cons ⟨d,f⟩ ih
theorem KV.keys {vs:List (κ×QT)} (r:KV Rz vs):Rz.map (·.1)=vs.map (·.1):=by
 unfold KV at r
 induction r with
 |nil=>rfl
 |cons h t a=>rw[Ri,Ri,a,h.1]
theorem KV.length (r:KV Rz vs):Rz.length=vs.length:=Paired.length r
theorem Gz (Rz:List (κ×V)) (k:κ):(mW Rz k).length<=Rz.length:=UL _ _
end
theorem uc (r:RelV (kV k) u):(cV P w).is k u=QW:=by
 cases k with
 |inl i=>obtain⟨t,e⟩:=(show∃t,u=QT.int i t from r);subst e;exact xJ P w i t
 |inr x=>obtain⟨t,e⟩:=(show∃t,u=QT.str x t from r);subst e;exact xn P w x t
theorem tY:∀{ks:List cH} {us:List QT},Vals (ks.map kV) us->ItemsAre (cV P w) ks us
 |[],_,r=>by rw[T7] at r;cases r;exact .nil
 |k::ks,_,r=>by
  rw[Ri] at r;cases r with
  |cons h t=>exact .cons (uc h) (tY t)
abbrev KT (H:Hp):List (List cH×V)->List (List cH×QX×QT)->Prop:=Paired fun p q=>p.1=q.1/\H q.2.1=lD (.tup (p.1.map kV))/\RelV p.2 q.2.2
theorem KT.val (r:KT H Rz xs) (k:List cH):Vz (j8 Rz k) ((atKey xs k).map (·.2)):=by
 induction r with
 |nil=>exact True.intro
 | @cons p q ps qs h t ih=>
  obtain⟨d,_,f⟩:=h;by_cases e:p.1=k
  .have a:=d.symm.trans e
   have b:atKey (q::qs) k=lD q.2:=by simp[atKey,RP,a]
   rw[sV e,b];exact f
  .have a:¬q.1=k:=fun z=>e (d.trans z)
   have b:atKey (q::qs) k=atKey qs k:=by simp[atKey,RP,a]
   rw[qZ e,b];exact ih
theorem KT.acK (r:KT H Rz xs) (k:List cH) (d:RelV y u):
  KT H (Rz.map fun kv=>if kv.1=k then(kv.1,y) else kv) (xs.map (putAt k u)):=by
 induction r with
 |nil=>exact .nil
 | @cons p q ps qs h t ih=>
  rw[Ri,Ri];refine .cons ?_ ih;obtain⟨a,b,f⟩:=h;unfold putAt;by_cases e:p.1=k
  .rw[if_pos e,if_pos (a.symm.trans e)];exact⟨a,b,d⟩
  .rw[if_neg e,if_neg (fun z=>e (a.trans z))];exact⟨a,b,f⟩
theorem KT.put (r:KT H Rz xs) (k:List cH) (f:H b=lD (.tup (k.map kV))) (a:RelV y u):
  KT H (jh Rz k y) (storedH xs k b u):=by
 have e:(Rz.any fun d=>decide (d.1=k))=(atKey xs k).isSome:=by rw[yC,(r.val k).Wh,Xe]
 unfold jh storedH;rw[e];by_cases q:(atKey xs k).isSome=QW
 .rw[if_pos q,if_pos q];exact r.acK k a
 .rw[if_neg q,if_neg q];exact Paired.snoc r ⟨rfl,f,a⟩
theorem KT.keeps (r:KT H Rz xs) (a:∀b ys,H b=lD (.tup ys)->H' b=lD (.tup ys)):KT H' Rz xs:=
 Paired.Vn r fun _ _ z=>⟨z.1,a _ _ z.2.1,z.2.2⟩
section
variable {P:Rt} {w:RM} {H:Hp} {h:Heap} {a:QX}
theorem Kn (ok:Wi P w H h) (e:Rd H a u):ObjOk P w H h a u:=e.ok ok
theorem xG (ok:Wi P w H h) (e:Rd H a (.dK Rz)):Rz.length<=Q8/\(a==Ti)=Q2/\∃vs,KV Rz vs/\h.DictOf (cV P w) a vs:=
 show ObjOk P w H h a (.dK Rz) from Kn ok e
theorem xT (ok:Wi P w H h) (e:H a=lD (.dK Rz)):Rz.length<=Q8/\(a==Ti)=Q2/\∃vs,KV Rz vs/\h.DictOf (cV P w) a vs:=xG ok (.inl e)
theorem vp {ks:List cH} (ok:Wi P w H h) (e:H a=lD (.tup (ks.map kV))):(tupleKind (cV P w)).is h ks a:=by obtain⟨_,g,r,o,f,⟨d,n,b⟩,_⟩:=(show ObjOk P w H h a (.tup (ks.map kV)) from ok a _ e);exact⟨o,g.toArray,n,f,d,b,by simpa using tY r⟩
theorem wH (ok:Wi P w H h) (e:Rd H a (.dT Rz)):Rz.length<=Q8/\(a==Ti)=Q2/\
  ∃xs,KT H Rz xs/\h.DictOfH (tupleKind (cV P w)) a xs:=by
 obtain⟨z,y,xs,r,o,n,u,j,i,g,f,d⟩:=(show ObjOk P w H h a (.dT Rz) from Kn ok e);refine⟨z,y,xs,r,o,n,u,j,i,g,f,fun x b=> ?_,d⟩;have all:∀{l:List (List cH×V)} {m:List (List cH×QX×QT)},KT H l m->∀x∈m,(tupleKind (cV P w)).is h x.1 x.2.1:=by
  intro l m q
  induction q with
  |nil=>intro x b;exact nomatch b
  | @cons p q ps qs hq t ih=>
   intro x b;rcases Rv.mp b with e|b
   .subst e;exact vp ok (by rw[<-hq.1];exact hq.2.1)
   .exact ih x b
 exact all r x b
theorem OZ (ok:Wi P w H h) (e:H a=lD (.dT Rz)):Rz.length<=Q8/\(a==Ti)=Q2/\
  ∃xs,KT H Rz xs/\h.DictOfH (tupleKind (cV P w)) a xs:=wH ok (.inl e)
end
def Yz (H:Hp) (a:QX) (y:V) (r:Option V):Prop:=
 (∃Rz k,Rd H a (.dK Rz)/\y=kV k/\r=j8 Rz k)\/∃Rz k b,Rd H a (.dT Rz)/\y= .ref b/\H b=lD (.tup (k.map kV))/\r=j8 Rz k
def aaV (H:Hp) (a:QX) (y v:V) (H':Hp):Prop:=
 (∃Rz k,H a=lD (.dK Rz)/\y=kV k/\Rz.length<Q8/\H'=bC H a (.dK (jh Rz k v)))\/
 ∃Rz k b,H a=lD (.dT Rz)/\y= .ref b/\H b=lD (.tup (k.map kV))/\Rz.length<Q8/\H'=bC H a (.dT (jh Rz k v))
theorem Yz.k {k:cH} (e:H a=lD (.dK Rz)):Yz H a (kV k) (j8 Rz k):= .inl ⟨Rz,k,.inl e,rfl,rfl⟩
theorem aaV.k {k:cH} (e:H a=lD (.dK Rz)) (b:Rz.length<Q8):aaV H a (kV k) v (bC H a (.dK (jh Rz k v))):= .inl ⟨Rz,k,e,rfl,b,rfl⟩
section
variable {X:Cx} {Z:List (QX×Obj)} {Y:St} {H:Hp} {s:Q0} {a:QX} {y v:V} {u r:QT} {o:Option V} {A:RG} {E:QT->Q0->Prop}
theorem Inv.big (I:Inv X Z Y H s):Ti<s.heap.objs.size:=by have h:=(I.mod.glob.keeps I.bk).lt;exact UD (by decide) h
theorem C5 {Q:QT->Q0->Prop} (q:A.units+1<cLine) (I:Inv X Z Y H s) (g:Yz H a y (lD v)) (n:RelV y u) (h:∀w' s',Inv X Z Y H s'->RelV v w'->Q w' s'):
  wpAny (model X.prog X.w) A (getItem (.ref a) u) Q E s:=by
 rcases g with⟨Rz,k,e,j,l⟩|⟨Rz,k,b,e,j,C,l⟩
 .subst j;obtain⟨z,B,vs,d,dd⟩:=xG I.Su e;obtain⟨w',f,m⟩:=Vz.some_of (v:=v) (o:=valueAt vs k) (by rw[l];exact d.val k);exact wpAny_getItem_of (uc n) dd.mapOf f (h w' _ (I.tok _) m)
 .subst j;cases(show u=QT.ref b from n);obtain⟨z,B,xs,d,dd⟩:=wH I.Su e;obtain⟨w',f,m⟩:=Vz.some_of (v:=v) (o:=(atKey xs k).map (·.2)) (by rw[l];exact d.val k);obtain⟨p,t,i⟩:=YF.mp f;refine ace (XS q) (vp I.Su C) dd t ?_;rw[i];exact h w' _ (I.tok _) m
theorem P3 {Q:QT->Q0->Prop} (m:A.units+1<cLine) (I:Inv X Z Y H s) (g:Yz H a y o) (j:RelV y u) (h:∀s',Inv X Z Y H s'->Q (.bool o.isSome) s'):
  wpAny (model X.prog X.w) A (Tf .In u (.ref a)) Q E s:=by
 rcases g with⟨Rz,k,e,i,l⟩|⟨Rz,k,b,e,i,n,l⟩
 .subst i;obtain⟨z,f,vs,d,dd⟩:=xG I.Su e;refine wpAny_in_of (uc j) f dd.mapOf ?_;rw[<-(d.val k).Wh,<-l];exact h _ (I.tok _)
 .subst i;cases(show u=QT.ref b from j);obtain⟨z,f,xs,d,dd⟩:=wH I.Su e;refine wpAny_in_heap (XS m) (vp I.Su n) f dd ?_;have q:=(d.val k).Wh;rw[Xe] at q;rw[<-q,<-l];exact h _ (I.tok _)
theorem nJ {h':Heap} {t':Nat} {d:HO} (I:Inv X Z Y H s) (f:N6 (H a)) (g:Heap.SameBut a s.heap h') (h:∃q,h'.get? a=lD q) (new:ObjOk X.prog X.w (bC H a d) h' a d):
  Inv X Z Y (bC H a d) {s with heap:=h',toks:=t'}:=
 I.write (x:=a) (e:=a) f (.inl rfl) (fun b q i z=>(g.2 b i).trans z) h new
theorem Aj (z:Rz.length<=Q8) (hd:(a==Ti)=Q2) (b:KV Rz vs) (dd:h'.DictOf (cV P w) a vs):
  ObjOk P w H' h' a (.dK Rz):=⟨z,hd,vs,b,dd⟩
theorem CP {H':Hp} {Q:Unit->Q0->Prop} (K:A.units+1<cLine) (I:Inv X Z Y H s) (g:aaV H a y v H') (C:RelV y u) (rv:RelV v r) (h:∀s',Inv X Z Y H' s'->Q () s'):
  wpAny (model X.prog X.w) A (setItem (.ref a) u r) Q E s:=by
 rcases g with⟨Rz,k,e,t,l,B⟩|⟨Rz,k,b,e,t,J,l,B⟩
 .subst t B
  obtain⟨z,p,vs,d,dd⟩:=xT I.Su e;have j:vs.length<=Q8:=by rw[<-d.length];exact z
  have n:(jh Rz k v).length<=Q8:=by have:=kK Rz k v;omega
  refine wpAny_setItem_pairs (hsz:=j) (uc C) dd fun F f m=>h _ ?_;have L:∃q,F.get? a=lD q:=let⟨q,_,_,i,_⟩:=f;⟨q,i⟩
  exact nJ I (by rw[e];exact True.intro) m L (Aj n p (d.put k rv) f)
 .subst t B
  cases(show u=QT.ref b from C);obtain⟨z,p,xs,d,dd⟩:=OZ I.Su e;have j:xs.length<=Q8:=by rw[<-Paired.length d];exact z
  have n:(jh Rz k v).length<=Q8:=by have:=kK Rz k v;omega
  refine acf (hsz:=j) (XS K) (vp I.Su J) dd fun F f m=>h _ ?_;obtain⟨q,R,S,i,P,O,N,_,M⟩:=f;refine nJ I (by rw[e];exact True.intro) m ⟨q,i⟩ ⟨n,p,_,(d.put k J rv).keeps fun c T G=> ?_,q,R,S,i,P,O,N,M⟩;rw[aH (NV G e (fun z=>nomatch z))];exact G
end
section
variable {X:Cx} {Z:List (QX×Obj)} {σ:St} {H:Hp} {s:Q0} {a:QX} {Y:List (cH×V)} {k:cH} {u:QT} {A:RG} {E:QT->Q0->Prop}
theorem NY {v:V} {b:List QT} {Q:QT->Q0->Prop} (I:Inv X Z σ H s) (e:H a=lD (.dK Y)) (g:RelV (kV k) u) (l:j8 Y k=lD v) (hm:b=[]\/∃x,b=[x])
  (h:∀w' s',Inv X Z σ (bC H a (.dK (mW Y k))) s'->RelV v w'->Q w' s'):wpAny (model X.prog X.w) A (call (.builtin "dict.pop") (.ref a::u::b)) Q E s:=by
 obtain⟨z,r,vs,d,dd⟩:=xT I.Su e;obtain⟨w',j,B⟩:=Vz.some_of (v:=v) (o:=valueAt vs k) (by rw[<-l];exact d.val k);have n:(keyPart u).isSome=QW:=by
  cases k with
  |inl i=>obtain⟨t,q⟩:=(show∃t,u=QT.int i t from g);subst q;rfl
  |inr x=>obtain⟨t,q⟩:=(show∃t,u=QT.str x t from g);subst q;rfl
 have ha:argsOk "dict.pop" ⟨.ref a::u::b,[]⟩:=by
  rcases hm with q|⟨x,q⟩
  .subst q;exact PySem.F.args_dict_pop_2 _ _
  .subst q;exact PySem.F.args_dict_pop_3 _ _ _
 refine call_meetsIn YG dd.typeIs PySem.F.entry_dict_pop ha (meets_dict_pop_there (cV X.prog X.w) a (uc g) b hm n)
  ⟨vs,w',dd,by rw[<-d.length];exact z,j,fun y f m=>h w' _ ?_ B⟩
 have p:∃q,y.get? a=lD q:=let⟨q,_,_,hq,_⟩:=f;⟨q,hq⟩
 exact nJ I (by rw[e];exact True.intro) m p (Aj (RO (Gz Y k) z) r (d.drop k) f)
end
def MS (i:Sf):Prop:=∀ov iv,subscripted i Q2 ov iv=operate [ov,iv] (getItem ov iv)
theorem BJ {T j:String}
  (m:typeLookup (.type T) "__getitem__"=pure (lD (.builtin j))) (l:MS slice)
  (h:wpAny (model prog w) A (eval value env) (fun o s₁=>wpAny (model prog w) A (eval slice env) (fun i s₂=>s₂.TypeIs o T/\wpAny (model prog w) A (getItem o i) Q E s₂) E s₁) E s):
  wpAny (model prog w) A (eval (.Subscript value slice pos) env) Q E s:=by
 refine Subscript_ (wpAny_mono h (fun o s₁ f=>wpAny_mono f (fun i s₂ a=> ?_) fun _ _ x=>x) fun _ _ x=>x);obtain⟨g,a⟩:=a;unfold subscriptTail;refine Ld ?_;rw[getitemInPython_of_ne g.not_modules];refine Ld (WW g m ?_);have d:wpAny (model prog w) A (subscripted slice Q2 o i) (fun r b=>wpAny (model prog w) A (letTemporaryGo value o r>>=fun _=>pure r) Q E b) E s₂:=by rw[l o i];exact wpAny_operating (wpAny_mono a (fun r b e=>Ld (wpAny_letTemporaryGo (Q1 e))) fun _ _ x=>x)
 first
  |exact Q1 (Ld d)
  |exact Ld (Q1 (Ld d))
  |exact Ld d
theorem yj (I:Inv X pins σ H s) (g:Yz H a y o):s.TypeIs (.ref a) "dict":=by
 rcases g with⟨Rz,k,e,_,_⟩|⟨Rz,k,b,e,_,_,_⟩
 .obtain⟨_,_,vs,_,dd⟩:=xG I.Su e;exact dd.typeIs
 .obtain⟨_,_,xs,_,dd⟩:=wH I.Su e;exact dd.typeIs
def K5 (e ty:TE):TE:=fun b H Q=>e b H fun x f=>ty b f fun y d=>∃a v,x= .ref a/\Yz d a y (lD v)/\Q v d
def Ob (ty e:TE):TE:=fun b H Q=>ty b H fun y f=>e b f fun x d=>∃a o,x= .ref a/\Yz d a y o/\Q (.bl o.isSome) d
def KN (e ty d:TE):TS:=fun D b H=>d b H fun v h=>e b h fun x g=>ty b g fun y f=>∃a H4,x= .ref a/\aaV f a y v H4/\D.nx b H4
section
variable {X:Cx} {o i e Z:Sf} {pos Y afP:Pos} {T U tv:TE}
theorem Bm (q:X.A.units+1<cLine) (t:PE X o T) (hi:PE X i U) (r:MS i):PE X (.Subscript o i pos) (K5 T U):=by intro b s d H Q I h;refine BJ X7.lookup r (cB (t b s d H _ I h) fun u j ⟨x,F,C,m,p⟩=>cB (hi b j d F _ C p) fun L K ⟨y,E,f,l,a,v,w,g,n⟩=> ?_);subst w;obtain rfl:=m;exact⟨yj f g,C5 q f g l fun G J B z=>⟨v,E,B,z,n⟩⟩
theorem Mz (q:X.A.units+1<cLine) (hi:PE X i U) (r:PE X o T):PC X .In i o (Ob U T):=by intro b s d H Q I h;refine cB (hi b s d H _ I h) fun G f ⟨y,C,z,j,n⟩=>cB (r b f d C _ z n) fun u F ⟨x,B,w,l,a,p,t,g,m⟩=> ?_;subst t;obtain rfl:=l;exact P3 q w g j fun E v=>⟨.bl p.isSome,B,v,rfl,m⟩
theorem IZ (w:X.A.units+1<cLine) (B:PE X o T) (hi:PE X i U) (t:PE X Z tv) (z:SU Z (lD (.Subscript o i Y)) pos.line X.env=pure Q2):
  PS X (.Assign [.Subscript o i Y] Z pos) (KN T U tv):=by
 intro b s d H D I h;refine aaG (cB (t b s d H _ I h) fun r j ⟨v,M,J,rv,q⟩=>cB (B b j d M _ J q) fun u f ⟨x,L,G,m,p⟩=>cB (hi b f d L _ G p) fun P O ⟨y,Q,F,l,a,K,C,g,n⟩=> ?_) z;subst C;obtain rfl:=m;exact CP w F g l rv fun N E=>⟨d,K,E,n⟩
end
def oa (Rz a:List (cH×V)):List (cH×V):=a.foldl (fun b d=>jh b d.1 d.2) Rz
theorem KV.merge:∀{a:List (cH×V)} {b:List (cH×QT)} {Rz:List (cH×V)} {vs:List (cH×QT)},KV a b->KV Rz vs->KV (oa Rz a) (merged vs b):=by
 intro a b Rz vs r;unfold KV at r
 induction r generalizing Rz vs with
 |nil=>intro q;exact q
 | @cons p q ps qs h t ih=>
  intro r0;have e:KV (jh Rz p.1 p.2) (stored vs q.1 q.2):=by have:=r0.put p.1 h.2;rw[<-h.1];exact this
  exact ih e
theorem lG:∀(a Rz:List (cH×V)),(oa Rz a).length<=Rz.length+a.length
 |[],Rz=>by show Rz.length<=Rz.length+0;omega
 |p::r,Rz=>by have d:=lG r (jh Rz p.1 p.2);have b:=kK Rz p.1 p.2;show(oa (jh Rz p.1 p.2) r).length<=_;rw[Rg];omega
structure M1 (X:Cx) (o:Sf) (m:Str) (apos:Pos) (e:Sf) (Ur:Pos):Prop where
 base:attributeBase o m X.env (eval o X.env)=eval o X.env
 few:((backTo Ur (Ru [e] X.env)).all (fun x=> !x.1)&&(backToKw Ur (keywordEach [] X.env)).all (fun x=>x.1.isSome)
  &&decide (([e]:List Sf).length+([]:List X8).length+(if([]:List X8).isEmpty then 0 else 1)<30))=QW
 line:(apos.endLine==Ur.line)=QW
 trees:backTo Ur (Ru [e] X.env)=[(Q2,eval e X.env)]
structure M2 (X:Cx) (o:Sf) (m:Str) (apos:Pos) (e f:Sf) (Ur:Pos):Prop where
 base:attributeBase o m X.env (eval o X.env)=eval o X.env
 few:((backTo Ur (Ru [e,f] X.env)).all (fun x=> !x.1)&&(backToKw Ur (keywordEach [] X.env)).all (fun x=>x.1.isSome)
  &&decide (([e,f]:List Sf).length+([]:List X8).length+(if([]:List X8).isEmpty then 0 else 1)<30))=QW
 line:(apos.endLine==Ur.line)=QW
 trees:backTo Ur (Ru [e,f] X.env)=[(Q2,eval e X.env),(Q2,eval f X.env)]
def Qo (H:Hp) (a:QX):Prop:=(∃Rz,Rd H a (.dK Rz))\/∃Rz,Rd H a (.dT Rz)
theorem Nr (I:Inv X pins σ H s) (d:Qo H a):
  s.TypeIs (.ref a) "dict"/\(∀b,QT.ref a= .ref b->∃ob,s.heap.get? b=lD ob/\ob.dict=QS)/\(a==Ti)=Q2:=by
 rcases d with⟨Rz,e⟩|⟨Rz,e⟩
 .obtain⟨_,f,vs,_,dd⟩:=xG I.Su e;refine⟨dd.typeIs,fun b q=> ?_,f⟩;cases q;obtain⟨ob,_,_,h,g,_⟩:=dd;exact⟨ob,h,g.2.1⟩
 .obtain⟨_,f,xs,_,dd⟩:=wH I.Su e;refine⟨dd.typeIs,fun b q=> ?_,f⟩;cases q;obtain⟨ob,_,_,h,g,_⟩:=dd;exact⟨ob,h,g.2.1⟩
def D9 (f ty:TE):TE:=fun b H Q=>f b H fun x e=>∃a,x= .ref a/\Qo e a/\ty b e fun y d=>∃Rz k v,d a=lD (.dK Rz)/\y=kV k/\j8 Rz k=lD v/\Q v (bC d a (.dK (mW Rz k)))
section
variable {X:Cx} {o e f:Sf} {Z Ur:Pos} {td ty tx:TE}
theorem Fp (z:PE X o td) (A:PE X e ty) (m:M1 X o "pop" Z e Ur):PE X (.Call (.Attribute o "pop" Z) [e] [] Ur) (D9 td ty):=by intro b s g H Q I h;refine wpAny_Call_method m.base m.few m.line Vw YG PySem.F.type_dict_pop (cB (z b s g H _ I h) fun u p ⟨x,L,i,r,a,C,d,w⟩=> ?_);subst C;obtain rfl:=r;obtain⟨n,j,_⟩:=Nr i d;refine⟨n,j,?_⟩;rw[m.trees];refine Calls.callWith_builtin rfl (Calls.evalArgs_plain (Calls.spliced_cons (cB (A b p g L _ i w) fun P O ⟨y,R,K,q,Rz,k,v,E,B,l,t⟩=>Calls.spliced_nil ?_)));subst B;exact NY K E q l (.inl rfl) fun M N J G=>⟨v,_,J,G,t⟩
end
end L2
namespace HT
open PySem PySem.Spec PyProof.Rows PySem.Calls
theorem z8 (n:Nat):Builtin.Slice.sliceAdjust QS QS (-1) (n:Int)=((n:Int) - 1,-1):=by
 unfold Builtin.Slice.sliceAdjust;have a:(-1:Int)<0:=by decide
 simp only[a,if_true]
theorem z0 (n:Nat):Builtin.Slice.slicePlaces ((n:Int) - 1) (-1) (-1)=n:=by
 unfold Builtin.Slice.slicePlaces;have a:¬((-1:Int)>0):=by decide
 simp only[a,if_false];by_cases h:(n:Int) - 1> -1
 .rw[if_pos h,show(- -1:Int)=1 by decide,adz];omega
 .rw[if_neg h];omega
theorem FH (xs:Array QT):((Rj xs.size).filterMap fun(m:Nat)=>xs[((xs.size:Int) - 1+(m:Int)*(-1)).toNat]?).toArray=xs.toList.reverse.toArray:=by
 have e:(Rj xs.size).filterMap (fun(m:Nat)=>xs[((xs.size:Int) - 1+(m:Int)*(-1)).toNat]?)=((Rj xs.size).map fun k=>xs.size - 1 - k).filterMap (xs[·]?):=by
  rw[aaq];have a:∀l:List Nat,(∀m∈l,m<xs.size)->l.filterMap (fun(m:Nat)=>xs[((xs.size:Int) - 1+(m:Int)*(-1)).toNat]?)=l.filterMap ((xs[·]?)∘fun k=>xs.size - 1 - k):=by
   intro l
   induction l with
   |nil=>intro _;rfl
   |cons m r b=>
    intro h;have hm:=h m (.head _);have f:((xs.size:Int) - 1+(m:Int)*(-1)).toNat=xs.size - 1 - m:=by omega
    rw[Uh,Uh,b fun k d=>h k (.tail _ d),f];rfl
  exact a _ fun m hm=>SS.mp hm
 rw[e,PySem.W.krv_range,List.filterMap_reverse,PySem.W.krv_all]
section
variable {prog:Rt} {w:RM} {A:RG} {E:QT->Q0->Prop} {s:Q0}
theorem oS {e:QX} {d:QT} {n:Nat} {Q:Int×Int×Nat->Q0->Prop} (g:s.heap.IsSliceOf e .none .none d) (f:VX d (lD (-1)))
  (h:Q ((n:Int) - 1,-1,n) s):wpAny (model prog w) A (Builtin.Slice.sliceApplied (.ref e) (pure (n:Int))) Q E s:=by
 obtain⟨j,a,i,b⟩:=id g;unfold Builtin.Slice.sliceApplied Builtin.Slice.sliceFields;refine Ld (Ld (RU a b (x:= .none) rfl (Ld (RU a b (x:= .none) rfl (Ld (RU a b (x:=d) rfl (Q1 ?_)))))));refine Ld (ia f ?_);show wpAny _ _ (if((-1:Int)==0)=QW then _ else _) _ _ s;rw[if_neg (by decide)];refine Ld (ia .none (Ld (ia .none (Ld (Q1 ?_)))));show wpAny _ _ (match Builtin.Slice.sliceAdjust QS QS (-1) (n:Int) with|(lo,hi)=>pure (lo,(-1:Int),Builtin.Slice.slicePlaces lo hi (-1))) _ _ s;rw[z8 n];show wpAny _ _ (pure ((n:Int) - 1,(-1:Int),Builtin.Slice.slicePlaces ((n:Int) - 1) (-1) (-1))) _ _ s;rw[z0];exact Q1 h
theorem getItem_tuple_rev {t d:QX} {items:Array QT} {i:QT} {Q:QT->Q0->Prop} (a:IsTup s.heap t items) (j:s.heap.IsSliceOf d .none .none i) (l:VX i (lD (-1)))
  (h:Q (.ref s.heap.objs.size) {s with heap:=s.heap.push {cls:= .type "tuple",data:= .seq items.toList.reverse.toArray}})
  (hsz:items.size<=Q8):wpAny (model prog w) A (getItem (.ref t) (.ref d)) Q E s:=by
 have b:sizeOk (.seq items.toList.reverse.toArray):=by show items.toList.reverse.toArray.size<=Q8;rw[Q9,Tw,Sa];exact hsz
 obtain⟨n,e,f,o⟩:=id j;have g:s.TypeIs (.ref d) "slice":=⟨n,e,f⟩;unfold getItem
 try specialize SG ?_
 first|refine Ld (Q1 ?_)|skip
 refine Ld (X9 a.typeIs (by decide) ?_);refine Ld (SR (name:=Str.ofString "__getitem__") a.typeIs RN
  (S3 RN a.typeIs entry_tuple_getitem ?_ (args_tuple_getitem _ _)))
 show wpAny _ _ (Builtin.Tuple.tupleItemsOf (.ref t)>>=_) _ _ s;refine Ld (tupleItemsOf_ a ?_);refine Ld (Ul g ?_);rw[if_pos (by decide)];refine Ld (oS j l ?_);show wpAny _ _ (if(((items.size:Int) - 1)==0&&(-1:Int)==1&&items.size==items.size)=QW then _ else _) _ _ s;rw[if_neg (by rw[show((-1:Int)==1)=Q2 from by decide,Bool.and_false,Ux];exact Rc),FH]
 first
  |exact Ld (m:=Builtin.Tuple.tupleExact _) (Sb (Q1 ⟨_,rfl,Q1 h⟩) b)
  |exact Ld (m:=Builtin.Tuple.tupleExact _) (Sb (Ld (Q1 (Q1 ⟨_,rfl,Q1 h⟩))) b)
  |exact Ld (Ld (m:=Builtin.Tuple.tupleExact _) (Sb (Q1 (Q1 ⟨_,rfl,Q1 h⟩)) b))
  |exact Ld (Ld (m:=Builtin.Tuple.tupleExact _) (Sb (Q1 ⟨_,rfl,Q1 h⟩) b))
end
end HT
namespace L2
open PySem PySem.Spec PyProof.Rows
theorem Eo {xs:List V} {a:List QT} (h:Vals xs a):Vals xs.reverse a.reverse:=by
 induction h with
 |nil=>exact .nil
 |cons h t b=>rw[S4,S4];exact b.append (.cons h .nil)
def Ox (K:QR) (f:TE) (e:TO):TE:=fun d H Q=>f d H fun x g=>e d g fun o b=>o=lD (-1)/\∃a xs,x= .ref a/\Vo K b a xs/\∀p,b p=QS->Q (.ref p) (bC b p (.tup xs.reverse))
theorem Nk {X:Cx} {e j:Sf} {u l:Pos} {t:TE} {p:TO} (N:PE X e t) (M:PO X (lD j) p):PE X (.Subscript e (.Slice QS QS (lD j) u) l) (Ox X.K t p):=by
 intro d s i H Q I h;refine Subscript_ (cB (N d s i H _ I h) fun v B ⟨x,Y,T,C,F⟩=> ?_);refine wpAny_Slice ?_;rw[Z8];refine Q1 ?_;refine Q1 (cB (M d B i Y _ T F) fun n f ⟨o,U,S,G,P,a,xs,O,L,E⟩=> ?_);subst P O;cases C;have m:Inv X d i U {f with heap:=f.heap.push {cls:= .type "slice",data:= .fields #[.none,.none,n]}}:=S.kept (t':=f.toks) fun b J q=>Heap.get?_push_of_some _ q;obtain⟨R,r,z,y⟩:=m.tuple L;have g:R.toArray.size=xs.length:=by rw[Q9];exact r.length.symm
 show wpAny (model X.prog X.w) X.A (subscriptTail e (.Slice QS QS (lD j) u) (.ref a) (.ref f.heap.objs.size)) (EP X d i Q) X.xe {f with heap:=f.heap.push {cls:= .type "slice",data:= .fields #[.none,.none,n]}};refine tail_any (ops:=[.ref a,.ref f.heap.objs.size]) z.typeIs RN.lookup ?_ (by with_unfolding_all rfl);refine HT.getItem_tuple_rev z (Heap.IsSliceOf.new ..) G ?_ (by rw[g];exact y);refine⟨.ref _,_,m.laid (t':=f.toks) (o:= .tup xs.reverse) (fun b J q=>Heap.get?_push_of_some _ q) (Q4 _) ?_,rfl,E _ (m.Su.fresh (Q4 _))⟩;exact⟨by rw[Tw];exact y,_,Eo r,Xn.new _ _⟩
end L2
namespace PySem
open Sem (wp)
open Builtin
open AutoSeq1 (wpAny_loadPart')
end PySem
namespace L3
open PySem PySem.Spec PyProof.Rows L2
def KJ (K:QR):R2:=fun x y H Q=>∃(a b:QX) (d:List V),x= .ref a/\y= .ref b/\Vo K H a []/\Vo K H b d/\Q (.ref b) H
theorem Il {X:Cx}:OpR X (SY .Add) (KJ X.K):=by
 intro j s L H x y v u Q I w t h;obtain⟨a,b,M,rfl,rfl,ha,E,q⟩:=h;cases w;cases t;obtain⟨O,z,B,_⟩:=I.tuple ha;obtain⟨J,N,A,_⟩:=I.tuple E;cases z;obtain⟨⟨cls,dd,p,r⟩,l,o,n,m⟩:=id B;obtain⟨⟨F,g,i,G⟩,d,f,C,e⟩:=id A;simp only at o m f e;subst o m f e;exact aaE ⟨_,l,rfl⟩ ⟨_,d,rfl⟩ Yo Z7 VN Vv (Vl _ _)
  (tuple_addW0 a b _ J.toArray n C dd g r G rfl) ⟨l,d,⟨.ref b,H,I,rfl,q⟩⟩
def Ku (K:QR):R2:=fun x y H Q=>EZ K x y H Q\/KJ K x y H Q
theorem qI {X:Cx}:OpR X (SY .Add) (Ku X.K):=OpR.or iE Il
def xV:D->D->Option RV
 | .tuple [],.tuple ys=>lD (.fz (.tuple ys))
 |d,e=>db d e
theorem mX {K:QR}:mw K (Ku K) xV:=by
 intro O H x y dx m rv Q n f d e q;unfold xV at e;split at e
 .cases e;obtain⟨a,xs,rfl,j,i⟩:=Bu f;obtain⟨b,h,rfl,g,l⟩:=Bu d;cases i;exact .inr ⟨a,b,h,rfl,rfl,j.1,g.1,q.at (.tup g l)⟩
 .exact .inl (iC O H x y dx m rv Q n f d e q)
end L3
namespace L4
open PySem PySem.Spec PyProof.Rows L2 L3
def Hr (h:Heap) (e:QX) (c:QT) (dx:Option QX) (a:QT) (hd:Option QX):Prop:=
 ∃ob fs,h.get? e=lD ob/\ob.cls=c/\ob.dict=dx/\ob.data= .fields fs/\fs[0]? =lD a/\
  match hd with
  |none=>fs[1]? =lD .none
  |some T=>fs[1]? =lD (.ref T)/\T≠e/\∃oT ts,h.get? T=lD oT/\oT.data= .fields ts/\ts[3]? =lD .none
structure Lft (l:List Env) (e:QX) (hd:Option QX) (h h':Heap):Prop where
 keep:∀b o,h.get? b=lD o->b≠e->hd≠lD b->b∉xN l->h'.get? b=lD o
 slot:∀b o,h.get? b=lD o->b≠e->hd≠lD b->∃sl,h'.get? b=lD {o with slots:=sl}
 here:∀b o,h.get? b=lD o->∃o',h'.get? b=lD o'
section
variable {M:abm} {A:RG} {E:QT->Q0->Prop} {s:Q0}
theorem jF
  (I:A.frames=lD (env::outer)) (B:s.heap.FunFrames base (env::outer)) (H:env.frame=lD L) (C:s.heap.get? e=lD ob) (p:ob.data= .fields fs) (m:1<fs.size) (J:fs[0]? =lD a0)
  (k:∀h' T,s.heap.objs.size<=T->Hr h' e ob.cls ob.dict a0 (lD T)->Lft (env::outer) e QS s.heap h'->Q () {s with heap:=h'}):
  wpAny M A (frameOf env>>=fun fr=>entryPlaceOf L nx>>=fun pl=>EntryCells.newEntry hv fr .none (rawInt L) .none pl>>=fun b=>setField (.ref e) 1 b) (fun _ s'=>wpAny M A (setFlight (.ref e) QS) Q E s') E s:=by
 have j:e∉(env::outer).filterMap (·.frame):=fun z=>by obtain⟨_,o,q,n⟩:=B.mem z;rw[C] at q;cases q;exact n fs p
 refine Ld (wpAny_frameOf_fun I B H fun a S=> ?_);refine Ld (wpAny_entryPlaceOf fun pl P=> ?_);unfold EntryCells.newEntry newFields;refine Ld (Sb ?_ (P.sizeOk5 _ _ _ _ _));have y:=(S.2.1 e j).trans C;generalize hN:({cls:= .type "traceback",dict:=QS,data:= .fields ([hv,.ref L,.none,rawInt L,.none]++(if pl.isEmpty then Q6 6 QT.none else pl)).toArray}:Obj)=N;have g:N.data= .fields ([hv,.ref L,.none,rawInt L,.none]++(if pl.isEmpty then Q6 6 QT.none else pl)).toArray:=by rw[<-hN]
 have K:=Obj.isFreed_of_fields g;have w:=Heap.get?_push_of_some N y;refine TK w p m ?_;have l:=So (Heap.lt_size y);have r:=Obj.data_mapFields p (·.setIfInBounds 1 (QT.ref a.objs.size));have i:=Heap.get?_update_self (Obj.mapFields (·.setIfInBounds 1 (QT.ref a.objs.size))) w (Obj.isFreed_of_fields r)
 have u:=
  (Heap.get?_update_other (a.push N) (Obj.mapFields (·.setIfInBounds 1 (QT.ref a.objs.size))) l.symm).trans (Heap.get?_push_size a K)
 unfold setFlight;refine Ld (RU i r (x:= .ref a.objs.size) (by simp[m]) ?_);rw[if_pos (show(QT.ref a.objs.size !=QT.none)=QW from by simp)];have t:3<([hv,.ref L,.none,rawInt L,.none]++(if pl.isEmpty then Q6 6 QT.none else pl)).toArray.size:=by simp only[Q9,Q3,Rg,SD];omega
 refine TK u g t ?_;have v:=Heap.get?_update_other ((a.push N).update e (Obj.mapFields (·.setIfInBounds 1 (QT.ref a.objs.size)))) (Obj.mapFields (·.setIfInBounds 3 ((QS:Option QX).elim QT.none fun f=>rawInt f))) l;have F:=Heap.get?_update_self (Obj.mapFields (·.setIfInBounds 3 ((QS:Option QX).elim QT.none fun f=>rawInt f))) u (Obj.isFreed_of_fields (Obj.data_mapFields g _));have Wb:∀b o,b≠e->a.get? b=lD o->(((a.push N).update e (Obj.mapFields (·.setIfInBounds 1 (QT.ref a.objs.size)))).update a.objs.size (Obj.mapFields (·.setIfInBounds 3 ((QS:Option QX).elim QT.none fun f=>rawInt f)))).get? b=lD o:=fun b o ne q=>by rw[Heap.get?_update_other _ _ (So (Heap.lt_size q)),Heap.get?_update_other _ _ ne.symm];exact Heap.get?_push_of_some N q
 refine k _ a.objs.size (by rw[S.1];exact Q4 _) ⟨_,_,v.trans i,Obj.cls_mapFields _ _,?_,r,?_,?_,l,_,_,F,Obj.data_mapFields g _,?_⟩ ⟨fun b o q ne _ G=>Wb b o ne ((S.2.1 b G).trans q),fun b o q ne _=> ?_,fun b o q=> ?_⟩
 .cases ob with
  |mk c d O h=>cases O<;>rfl
 .rw[Xt (by decide)];exact J
 .simp[m]
 .rw[We t];rfl
 .obtain⟨h,z⟩:=S.2.2 b o q;exact⟨h,Wb b _ ne z⟩
 .by_cases ne:b=e
  .subst ne;exact⟨_,v.trans i⟩
  .obtain⟨h,z⟩:=S.2.2 b o q;exact⟨_,Wb b _ ne z⟩
theorem Di
  (v:A.frames=lD (env::outer)) (u:s.heap.FunFrames base (env::outer)) (h:env.frame=lD L) (F:Hr s.heap e c dx a0 hd)
  (k:∀h' T,s.heap.objs.size<=T->Hr h' e c dx a0 (lD T)->Lft (env::outer) e hd s.heap h'->Q () {s with heap:=h'}):wpAny M A (leaving env (.ref e)) Q E s:=by
 obtain⟨N,fs,q,I,H,d,w,r⟩:=F;subst I H;cases hd with
 |none=>have r:=r;unfold leaving noteFrame;simp only[h];refine Ld (Ld (RU q d r ?_));rw[if_neg (by decide)];exact jF v u h q d (Sk.mp r).1 w k
 |some T=>
  obtain⟨r,C,O,B,g,dT,p⟩:=r;unfold leaving noteFrame;simp only[h];refine Ld (Ld (RU q d r ?_));rw[if_pos (show(QT.ref T !=QT.none)=QW from by simp)];refine Ld (RU g dT p ?_);rw[if_neg (show¬((QT.none==rawInt L)=QW) from by simp[rawInt])];refine Ld (TK g dT (Sk.mp p).1 ?_);have f:∀b,b≠T->(s.heap.update T (Obj.mapFields (·.setIfInBounds 3 QT.none))).get? b=s.heap.get? b:=fun b ne=>Heap.get?_update_other _ _ ne.symm;have a:=Heap.get?_update_self (Obj.mapFields (·.setIfInBounds 3 QT.none)) g (Obj.isFreed_of_fields (Obj.data_mapFields dT _));have m:∀b o,s.heap.get? b=lD o->(∀vs,o.data≠ .fields vs)->b≠T:=fun b o z n y=>by rw[y,g] at z;cases z;exact n B dT
  refine jF v (u.of_keeps fun b o z n=>⟨o,(f b (m b o z n)).trans z,rfl⟩) h ((f e C.symm).trans q) d (Sk.mp r).1 w fun h' J t K i=>k h' J (by rw[Heap.size_after_update] at t;exact t) K ⟨fun b o z l j G=> ?_,fun b o z l j=> ?_,fun b o z=> ?_⟩
  .exact i.keep b o ((f b fun y=>j (by rw[y])).trans z) l (by simp) G
  .exact i.slot b o ((f b fun y=>j (by rw[y])).trans z) l (by simp)
  .by_cases y:b=T
   .subst y;exact i.here b _ a
   .exact i.here b o ((f b y).trans z)
end
theorem Lft.Su {P:Rt} {w:RM} {l:List Env} {e:QX} {hd:Option QX} {H:Hp} {h h':Heap} (L:Lft l e hd h h') (j:Wi P w H h) (ne:H e=QS) (g:∀T,hd=lD T->H T=QS) (i:∀b∈xN l,H b=QS):Wi P w H h':=fun b u q=>by
 have free:∀c v,H c=lD v->c≠e/\hd≠lD c/\c∉xN l:=fun c v z=>⟨(fun y=>by rw[y,ne] at z;cases z),(fun y=>by rw[g c y] at z;cases z),(fun y=>by rw[i c y] at z;cases z)⟩;refine(j b u q).Wb (fun c v m z=> ?_) (fun _ z=>z) fun _ _ z=>z;rcases m with y|y
 .rw[y] at z⊢;obtain⟨f,d,a⟩:=free b u q;exact L.keep b v z f d a
 .obtain⟨f,d,a⟩:=free c _ y;exact L.keep c v z f d a
def mF (P:Rt) (w:RM):vX:=fun a H s E x b=>
 ∃e c dx a0 T H',x= .ref e/\s.heap.get? e=QS/\s.heap.get? T=QS/\Hr b.heap e c dx a0 (lD T)/\H' e=QS/\H' T=QS/\
  b.os=s.os/\AllBare b.gens/\Un (xN a) [] H H' s.heap b.heap/\Wi P w H' b.heap/\E c dx H'
theorem Km {P:Rt} {w:RM} {K:QR} {mg:Str->Option QT} {base:Heap} {N:List Str} {h:Str} {a:UQ} {f:QX} {u:QT} {A:RG} {outer:List Env} {d:Q0} {C:Hp} {E:XK}
  {j:List (QX×Obj)} {G:L2.St} {H:Hp} {s:Q0} {e:QX} {c v:QT} {dx hd:Option QX} (I:L2.Inv (fV (mF P w) P w K mg base N h a f u A outer d C E) j G H s)
  (F:Hr s.heap e c dx v hd) (t:d.heap.get? e=QS) (R:∀T,hd=lD T->d.heap.get? T=QS) (ne:H e=QS) (O:∀T,hd=lD T->H T=QS) (q:E c dx H):
  (fV (mF P w) P w K mg base N h a f u A outer d C E).xe (.ref e) s:=by
 have Y:=I.ok.frames;have X:=I.stack;refine Di (L:=d.heap.objs.size) Y X rfl F fun h' T r Z L=> ?_;have Q:=L.Su I.Su ne O I.XN;have U:H T=QS:=I.Su.fresh r;have m:∀b o,d.heap.get? b=lD o->b<d.heap.objs.size:=fun b o z=>Heap.lt_size z;have g:∀b o,d.heap.get? b=lD o->b≠e/\hd≠lD b:=fun b o z=>⟨(fun y=>by rw[y,t] at z;cases z),(fun y=>by rw[R b y] at z;cases z)⟩;have sz:=I.sz;refine⟨e,c,dx,v,T,H,rfl,t,Heap.get?_none_of_le (RO sz r),Z,ne,U,I.os,I.bare,?_,Q,q⟩;have B:=I.base;refine⟨fun b o z n p _=> ?_,fun b o z n S _=> ?_,fun b o z n _=> ?_,fun b o z _=> ?_,B.XW,B.XD,B.XX⟩
 .have i:=B.keep b o z n p (fun y=>nomatch y)
  refine L.keep b o i (g b o z).1 (g b o z).2 fun y=> ?_;rcases Rv.mp (I.Xr b y) with y|y
  .have y:b=d.heap.objs.size:=y;exact absurd (m b o z) (by rw[y];exact Sy _)
  .exact p y
 .obtain⟨sl,i⟩:=B.slot b o z n S (fun y=>nomatch y);obtain⟨l,J⟩:=L.slot b _ i (g b o z).1 (g b o z).2;exact⟨l,J⟩
 .exact B.free b o z n (fun y=>nomatch y)
 .obtain⟨M,i⟩:=B.there b o z (fun y=>nomatch y);exact L.here b M i
theorem sX {P:Rt} {w:RM} {K:QR} {mg:Str->Option QT} {base:Heap} {N:List Str} {d:Str} {a:UQ} {f:QX} {j:QT} {A:RG} {outer:List Env} {g:Q0} {n:Hp} {E:XK}:
  fW (mF P w) (fV (mF P w) P w K mg base N d a f j A outer g n E) E:=by
 rintro i p H s x r I ⟨e,c,dx,u,T,v,rfl,le,lT,F,ne,nT,os,bare,un,Su,q⟩;have m:=I.aaX (ch:=[]) os un Su bare (fun b z=>nomatch z);have old:∀b,s.heap.get? b=QS->g.heap.get? b=QS:=fun b z=>by
  cases y:g.heap.get? b with
  |none=>rfl
  |some o=>obtain⟨t,h⟩:=I.base.there b o y (fun y=>nomatch y);rw[z] at h;cases h
 exact Km m F (old e le) (fun l z=>by cases z;exact old T lT) ne (fun l z=>by cases z;exact nT) q
theorem Me (x:ObjOk P w H h a o):∃ob,h.get? a=lD ob:=by
 cases o with
 |lst xs=>obtain⟨_,_,_,_,e⟩:=x;exact⟨_,e⟩
 |tup xs=>obtain⟨_,_,_,ob,e,_⟩:=x;exact⟨ob,e⟩
 |dK Rz=>obtain⟨_,_,_,_,o,_,_,e,_⟩:=x;exact⟨o,e⟩
 |dT Rz=>obtain⟨_,_,_,_,o,_,_,e,_⟩:=x;exact⟨o,e⟩
 |set S n=>obtain⟨o,_,_,_,e,_⟩:=x;exact⟨o,e⟩
 |ins C dx fs=>obtain⟨_,_,_,e,_⟩:=x;exact⟨_,e⟩
 |own y=>exact x
 |xd fs=>obtain⟨_,⟨o,_,_,e,_⟩,_⟩:=x;exact⟨o,e⟩
 |rng lo hi=>obtain⟨_,_,_,e⟩:=x;exact⟨_,e⟩
 |frz ob u=>exact⟨ob,x.1⟩
 |tbl ps=>exact⟨_,x⟩
 |met f y=>exact⟨_,x⟩
 |ext φ=>exact x.2.1
 |exw φ=>exact x.2.1
theorem xD (k:Wi P w H h) (n:h.get? a=QS):H a=QS:=by
 cases q:H a with
 |none=>rfl
 |some o=>obtain⟨b,z⟩:=Me (k a o q);rw[n] at z;cases z
section
variable {M:abm} {A:RG} {E:QT->Q0->Prop} {s:Q0}
theorem Jq {base:Heap} {env:Env} {outer:List Env} {L e:QX} {c B:QT} {dx hd:Option QX} {Q:Unit->Q0->Prop}
  (v:A.frames=lD (env::outer)) (u:s.heap.FunFrames base (env::outer)) (h:env.frame=lD L) (F:Hr s.heap e c dx B hd)
  (k:∀h' T,s.heap.objs.size<=T->Hr h' e c dx B (lD T)->Lft (env::outer) e hd s.heap h'->Q () {s with heap:=h'}):
  wpAny M A (noteFrame (.ref e) env) (fun _ s2=>wpAny M A (setFlight (.ref e) QS) Q E s2) E s:=by
 obtain⟨O,fs,q,J,I,d,w,r⟩:=F;subst J I;cases hd with
 |none=>have r:fs[1]? =lD .none:=r;unfold noteFrame;simp only[h];refine Ld (RU q d r ?_);rw[if_neg (by decide)];exact jF v u h q d (Sk.mp r).1 w k
 |some T=>
  obtain⟨r,G,P,C,g,dT,p⟩:=r;unfold noteFrame;simp only[h];refine Ld (RU q d r ?_);rw[if_pos (show(QT.ref T !=QT.none)=QW from by simp)];refine Ld (RU g dT p ?_);rw[if_neg (show¬((QT.none==rawInt L)=QW) from by simp[rawInt])];refine Ld (TK g dT (Sk.mp p).1 ?_);have f:∀b,b≠T->(s.heap.update T (Obj.mapFields (·.setIfInBounds 3 QT.none))).get? b=s.heap.get? b:=fun b ne=>Heap.get?_update_other _ _ ne.symm;have a:=Heap.get?_update_self (Obj.mapFields (·.setIfInBounds 3 QT.none)) g (Obj.isFreed_of_fields (Obj.data_mapFields dT _));have m:∀b o,s.heap.get? b=lD o->(∀vs,o.data≠ .fields vs)->b≠T:=fun b o z n y=>by rw[y,g] at z;cases z;exact n C dT
  refine jF v (u.of_keeps fun b o z n=>⟨o,(f b (m b o z n)).trans z,rfl⟩) h ((f e G.symm).trans q) d (Sk.mp r).1 w fun h' K t N i=>k h' K (by rw[Heap.size_after_update] at t;exact t) N ⟨fun b o z l j H=> ?_,fun b o z l j=> ?_,fun b o z=> ?_⟩
  .exact i.keep b o ((f b fun y=>j (by rw[y])).trans z) l (by simp) H
  .exact i.slot b o ((f b fun y=>j (by rw[y])).trans z) l (by simp)
  .by_cases y:b=T
   .subst y;exact i.here b _ a
   .exact i.here b o ((f b y).trans z)
theorem Nl {e T:QX} {c j:QT} {dx:Option QX} {Q:Unit->Q0->Prop} (F:Hr s.heap e c dx j (lD T))
  (k:∀h',Hr h' e c dx j (lD T)->(∀b,b≠T->h'.get? b=s.heap.get? b)->(∃o,h'.get? T=lD o)->Q () {s with heap:=h'}):wpAny M A (setFlight (.ref e) QS) Q E s:=by
 obtain⟨n,fs,q,t,p,d,u,r,i,w,v,h,dT,m⟩:=F;unfold setFlight;refine Ld (RU q d r ?_);rw[if_pos (show(QT.ref T !=QT.none)=QW from by simp)];have g:=(Sk.mp m).1;refine TK h dT g ?_;have l:∀b,b≠T->(s.heap.update T (Obj.mapFields (·.setIfInBounds 3 ((QS:Option QX).elim QT.none fun f=>rawInt f)))).get? b=s.heap.get? b:=fun b ne=>Heap.get?_update_other _ _ ne.symm;have a:=Heap.get?_update_self (Obj.mapFields (·.setIfInBounds 3 ((QS:Option QX).elim QT.none fun f=>rawInt f))) h (Obj.isFreed_of_fields (Obj.data_mapFields dT _));refine k _ ⟨n,fs,(l e i.symm).trans q,t,p,d,u,r,i,_,_,a,Obj.data_mapFields dT _,?_⟩ l ⟨_,a⟩;rw[We g];rfl
end
section
variable {P:Rt} {w:RM} {K:QR} {mg:Str->Option QT} {base:Heap} {N:List Str} {qual:Str} {scope:UQ} {f:QX} {cd:QT} {A:RG} {outer:List Env} {s0:Q0} {H0:Hp} {E:XK} {CX:vX}
  {σ:L2.St} {H:Hp} {s:Q0} {h':Heap} {X:Cx}
theorem w9 (I:L2.Inv X [] σ H s) (S:QX->Prop) (J:X.ex=[]) (C:∀p∈X.pn,¬S p.1) (keep:∀b o,s.heap.get? b=lD o->¬S b->b∉xN X.stack->h'.get? b=lD o)
  (a:∀b o,s.heap.get? b=lD o->¬S b->∃sl,h'.get? b=lD {o with slots:=sl}) (j:∀b o,s.heap.get? b=lD o->∃o',h'.get? b=lD o')
  (U:∀b,S b->X.s₀.heap.get? b=QS) (Q:¬S X.env.locals) (T:∀x c,X.env.cells.lookup x=lD c->¬S c) (R:∀b,S b->H b=QS):L2.Inv X [] σ H {s with heap:=h'}:=by
 have M:∀b o,X.s₀.heap.get? b=lD o->¬S b:=fun b o z y=>by rw[U b y] at z;cases z
 have h:∀b,b∉X.ex:=fun b z=>by rw[J] at z;cases z
 have B:=I.base;have d:∀x c,X.env.cells.lookup x=lD c->∀v,s.heap.IsCell c v->h'.IsCell c v:=fun x c z v ⟨o,G,L⟩=>by obtain⟨sl,q⟩:=a c o G (T x c z);exact⟨_,q,L⟩
 refine⟨I.ok,I.os,I.bare,⟨fun b o z n g _=> ?_,fun b o z n Z _=> ?_,fun b o z n x=>B.free b o z n x,fun b o z x=> ?_,B.XW,B.XD,B.XX⟩,?_,fun x c z=> ?_,I.free,I.UX,fun p F=> ?_,fun b u q=> ?_,I.len⟩
 .have e:=B.keep b o z n g (h b)
  refine keep b o e (M b o z) fun y=> ?_;rcases Rv.mp (I.Xr b y) with y|y
  .rw[y] at z;exact absurd (Heap.lt_size z) (Nat.not_lt_of_le I.ok.above)
  .exact g y
 .obtain⟨sl,e⟩:=B.slot b o z n Z (h b);obtain⟨t,O⟩:=a b _ e (M b o z);exact⟨t,O⟩
 .obtain⟨o',e⟩:=B.there b o z x;exact j b o' e
 .obtain⟨m,hn,Y⟩:=I.loc
  obtain⟨o,es,ep,G,L,r⟩:=hn;obtain⟨sl,q⟩:=a _ o G Q;refine⟨m,⟨_,es,ep,q,L,r⟩,fun i x v a1 a2 a3=> ?_⟩;obtain⟨u,rv,l⟩:=Y i x v a1 a2 a3;refine⟨u,rv,?_⟩;rcases l with l|⟨kd,c,z,y⟩
  .exact .inl l
  .exact .inr ⟨kd,c,z,d x c z _ y⟩
 .obtain⟨v,y⟩:=I.cell x c z;exact⟨v,d x c z v y⟩
 .obtain⟨z,n,ne,g,dd⟩:=I.pin p F
  rw[RB] at F;refine⟨keep p.1 p.2 z (C p F) (fun y=> ?_),n,ne,g,dd⟩;rcases Rv.mp (I.Xr _ y) with y|y
  .exact ne y
  .exact g y
 .have free:∀c v,H c=lD v->¬S c/\c∉xN X.stack:=fun c v z=>⟨(fun y=>by rw[R c y] at z;cases z),(fun y=>by rw[I.XN c y] at z;cases z)⟩
  refine(I.Su b u q).Wb (fun c v hc z=> ?_) (fun _ z=>z) fun _ _ z=>z;rcases hc with y|y
  .rw[y] at z⊢;exact keep b v z (free b u q).1 (free b u q).2
  .exact keep c v z (free c _ y).1 (free c _ y).2
end
section
variable {M:abm} {A:RG} {E:QT->Q0->Prop} {h:Heap} {g:Array Wl} {d:aap} {t:Nat} {os:Y3}
theorem GD {C U e:QX} {j:Obj} {z w y v:Str} {N1 N2:QX} {b1 l b2 a:List QT} {Z Y:Bool} {u r:List Str} {q p:List QT} {a1 a2:Bool} {c1 c2:Option Bool} {o n:Option QX} {O N L K J I H G F B:Option QT} {f b:String} {Q:Bool->Q0->Prop}
  (X:h.get? C=lD (excClassObj z w C N1 b1 l Z u q a1 c1 o O N L K J f)) (m:h.get? U=lD (excClassObj y v U N2 b2 a Y r p a2 c2 n I H G F B b)) (R:h.get? e=lD j) (S:j.cls= .ref C)
  (T:a.contains (.type "BaseException")=QW) (hm:(QT.ref C::l).contains (.ref U)=QW) (P:Q QW ⟨h,g,d,t,os⟩):wpAny M A (excMatches (.ref e) (.ref U)) Q E ⟨h,g,d,t,os⟩:=by
 have i:(QT.ref U::a).contains (.type "BaseException")=QW:=by rw[Xf,T,Xs]
 have ft:=tc_notTuple;unfold excMatches
 repeat (first|(specialize Tx R ?_;rw[S])|specialize Tx m ?_|(specialize Vs m ?_;rw[i])|(specialize Vs X ?_;rw[hm])|wp_step)
 exact P
end
abbrev Cx.marked (X:Cx) (e:QX):Cx:={X with A:=X.A.mark (lD (.ref e)),calm:=Q2,xe:=fun _ _=>False}
section
variable {X:Cx} {Z:L2.St} {H:Hp} {s:Q0} {h':Heap} {e:QX}
theorem rL (I:L2.Inv X [] Z H s) (e:QX):L2.Inv (Cx.marked X e) [] Z H s:=
 ⟨⟨I.ok.mod,I.ok.kind,I.ok.glob,I.ok.blt,I.ok.above,I.ok.inj,I.ok.has,I.ok.cab,(fun z=>nomatch z),I.ok.frames,I.ok.stk,I.ok.exf,I.ok.bs,I.ok.bsz,I.ok.YZ,I.ok.YV,I.ok.WO,I.ok.frf⟩,I.os,I.bare,I.base,I.loc,I.cell,I.free,I.UX,I.pin,I.Su,I.len⟩
theorem Ao (ok:X.Ok) (I:L2.Inv (Cx.marked X e) [] Z H s):L2.Inv X [] Z H s:=
 ⟨ok,I.os,I.bare,I.base,I.loc,I.cell,I.free,I.UX,I.pin,I.Su,I.len⟩
end
def yx (K:QR) (C:QX) (m:List QT):Prop:=∃nm q N bs hd sn sub ab col dd k0 k1 k2 k3 k5 id,K.lookup C=lD (excClassObj nm q C N bs m hd sn sub ab col dd k0 k1 k2 k3 k5 id)
structure Apart (X:Cx) (a:QX):Prop where
 n0:X.s₀.heap.get? a=QS
 nL:a≠X.env.locals
 nC:∀y c,X.env.cells.lookup y=lD c->c≠a
 nP:∀p∈X.pn,p.1≠a
def Gy (X:Cx) (E2:XK):QT->Q0->Prop:=fun x a=>∃σ' H1 e c dx a0 T,x= .ref e/\L2.Inv X [] σ' H1 a/\Hr a.heap e c dx a0 (lD T)/\Apart X e/\Apart X T/\H1 e=QS/\H1 T=QS/\E2 c dx H1
theorem sH (I:L2.Inv X pins σ H s) (d:X.ex=[]) (n:s.heap.get? a=QS):Apart X a:=by
 have ne:∀b o,s.heap.get? b=lD o->b≠a:=fun b o z y=>by rw[y,n] at z;cases z
 refine⟨?_,?_,fun y c z=> ?_,fun p g=> ?_⟩
 .cases z:X.s₀.heap.get? a with
  |none=>rfl
  |some o=>obtain⟨f,y⟩:=I.base.there a o z (by rw[d];simp);exact absurd rfl (ne a f y)
 .obtain⟨m,⟨o,_,_,z,_⟩,_⟩:=I.loc;exact(ne _ o z).symm
 .obtain⟨v,o,e,_⟩:=I.cell y c z;exact ne c o e
 .exact ne _ _ (I.pin p (S1 _ g)).1
theorem Ap {X:Cx} (a:X.ex=[]):fW (mF X.prog X.w) (X.WU (Gy X E2)) E2:=by rintro f g H s x l I ⟨e,c,dx,h,T,j,rfl,le,lT,F,ne,nT,os,bare,un,Su,q⟩;have d:=I.U8;have i:=d.aaX os un Su bare (fun b z=>nomatch z);exact⟨g,j,e,c,dx,h,T,rfl,i.YA (fun p z=>nomatch z),F,sH d a le,sH d a lT,ne,nT,q⟩
abbrev Cx.pinned (X:Cx) (l:List (QX×Obj)):Cx:={X with pn:=l}
theorem Ir (I:L2.Inv X pins σ H s):L2.Inv (Cx.pinned X (X.pn++pins)) [] σ H s:=
 ⟨⟨I.ok.mod,I.ok.kind,I.ok.glob,I.ok.blt,I.ok.above,I.ok.inj,I.ok.has,I.ok.cab,I.ok.hd,I.ok.frames,I.ok.stk,I.ok.exf,I.ok.bs,I.ok.bsz,I.ok.YZ,I.ok.YV,I.ok.WO,I.ok.frf⟩,I.os,I.bare,I.base,I.loc,I.cell,I.free,I.UX,(fun p a=>I.pin p (by rw[RB] at a;exact a)),I.Su,I.len⟩
theorem jp (ok:X.Ok) (I:L2.Inv (Cx.pinned X (X.pn++pins)) [] σ H s):L2.Inv X pins σ H s:=
 ⟨ok,I.os,I.bare,I.base,I.loc,I.cell,I.free,I.UX,(fun p a=>I.pin p (by rw[RB];exact a)),I.Su,I.len⟩
end L4
namespace L4
open PySem PySem.Spec L2 L3
end L4
namespace L4
open PySem PySem.Spec PySem.W PyProof.Rows L2 L3
section
variable {prog:Rt} {w:RM} {A:RG} {E:QT->Q0->Prop} {h:Heap} {g:Array Wl} {d:aap} {t:Nat} {os:Y3} {a C:QX} {o:Obj} {K:QR}
  {n1 q1:Str} {N1:QX} {b1 m1:List QT} {d1:Bool} {s1:List Str} {u1:List QT} {a1:Bool} {c1:Option Bool} {x1:Option QX} {i0 i1 i2 i3 i5:Option QT} {id1:String}
structure agc (K:QR) (C:QX) (m:List QT):Prop where
 cl:yx K C m
 be:m.contains (.type "BaseException")=QW
 ga:findIn K (.ref C) "__getattribute__"=lD (lD (.builtin "BaseException.__getattribute__"))
 gt:findIn K (.ref C) "__getattr__"=lD QS
 cs:findIn K (.ref C) "__class__"=lD (lD (.builtin "object.__class__"))
 ob:mroIn K C (.type "object")=lD QW
end
end L4
namespace L4
open PySem PySem.SeqAt PySem.Spec PySem.W PyProof.Rows L2 L3
end L4
namespace L4
open PySem PySem.Spec PySem.W PyProof.Rows L2 L3
end L4
namespace PySem
open Sem (wp)
open PyProof.Rows
end PySem
namespace L3
open PySem PySem.Spec PyProof.Rows L2
end L3
namespace HT
open PySem PySem.Spec PyProof.Rows
section
variable {prog:Rt} {w:RM} {A:RG} {E:QT->Q0->Prop} {s:Q0}
theorem getItem_tuple_all {t b:QX} {items:Array QT} {j i:QT} {lo hi:Option Int} {Q:QT->Q0->Prop} (a:IsTup s.heap t items) (n:s.heap.IsSliceOf b j i .none) (pl:VX j lo) (o:VX i hi)
  (l:sIx items.size 0 lo=0/\sIx items.size items.size hi=items.size) (h:Q (.ref t) s):wpAny (model prog w) A (getItem (.ref t) (.ref b)) Q E s:=by
 obtain⟨p,d,e,q⟩:=id n;have f:s.TypeIs (.ref b) "slice":=⟨p,d,e⟩;unfold getItem
 try specialize SG ?_
 first|refine Ld (Q1 ?_)|skip
 refine Ld (X9 a.typeIs (by decide) ?_);refine Ld (SR (name:=Str.ofString "__getitem__") a.typeIs RN
  (S3 RN a.typeIs entry_tuple_getitem ?_ (args_tuple_getitem _ _)))
 show wpAny _ _ (Builtin.Tuple.tupleItemsOf (.ref t)>>=_) _ _ s;refine Ld (tupleItemsOf_ a ?_);refine Ld (Ul f ?_);rw[if_pos (by decide)];refine Ld (jd n pl o ?_);have g:((((sIx items.size 0 lo:Nat):Int)==0&&(1:Int)==1&&(sIx items.size items.size hi - sIx items.size 0 lo)==items.size)=QW):=by rw[l.1,l.2];simp
 show wpAny _ _ (if(((sIx items.size 0 lo:Nat):Int)==0&&(1:Int)==1&&(sIx items.size items.size hi - sIx items.size 0 lo)==items.size)=QW then _ else _) _ _ s;rw[if_pos g];refine Ld (m:=Builtin.Tuple.tupleIsExact _) ?_;unfold Builtin.Tuple.tupleIsExact;refine Ld (Ul a.typeIs (Q1 ?_));rw[if_pos (by decide)];refine Ld (WG ?_);exact Q1 ⟨_,rfl,Q1 h⟩
end
end HT
namespace L3
open PySem PySem.Spec PyProof.Rows L2
def Oq (K:QR):V->Option Int->Option Int->Hp->VK->Prop:=fun x lo hi H Q=>∃(a:QX) (xs:List V),x= .ref a/\Vo K H a xs/\(HT.sIx xs.length 0 lo=0/\HT.sIx xs.length xs.length hi=xs.length)/\Q (.ref a) H
theorem Gu {X:Cx}:NL X (Oq X.K):=by
 intro d s n H x v p o lo hi t Q I f l pl g h;obtain⟨a,xs,rfl,i,j,q⟩:=h;cases f;obtain⟨m,r,e,u⟩:=I.tuple i;have b:m.toArray.size=xs.length:=by rw[Q9];exact r.length.symm
 refine⟨"tuple",_,RN.lookup,e.typeIs,?_⟩;exact HT.getItem_tuple_all e l pl g (by rw[b];exact j) ⟨.ref a,H,I,rfl,q⟩
def OO (K:QR):V->Option Int->Option Int->Hp->VK->Prop:=fun x lo hi H Q=>MB K x lo hi H Q\/Oq K x lo hi H Q
theorem J4 {X:Cx}:NL X (OO X.K):=by
 intro a s b H x v e d lo hi f Q I g i pl h q;rcases q with q|q
 .exact vV a s b H x v e d lo hi f Q I g i pl h q
 .exact Gu a s b H x v e d lo hi f Q I g i pl h q
def P8:D->Option Int->Option Int->Option RV
 | .list ds,lo,hi=>lD (.ow (l9 ds lo hi))
 | .tuple ds,lo,hi=>lD (.fz (.tuple (l9 ds lo hi)))
 |_,_,_=>QS
theorem Jm {ds:List D} {lo hi:Option Int} (h:HT.sIx ds.length 0 lo=0/\HT.sIx ds.length ds.length hi=ds.length):l9 ds lo hi=ds:=by unfold l9;rw[h.1,h.2,abS,adD,UP]
theorem N9 {K:QR}:PM K (OO K) P8:=by
 intro O H x lo hi dx rv Q n b e q;cases dx with
 |list ds=>exact .inl (nO O H x lo hi _ rv Q n b e q)
 |tuple ds=>
  cases e;by_cases d:HT.sIx ds.length 0 lo=0/\HT.sIx ds.length ds.length hi=ds.length
  .obtain⟨a,xs,rfl,g,f⟩:=Bu b;rw[Jm d] at q;refine .inr ⟨a,xs,rfl,g.1,by rw[f.length];exact d,q.at (.tup g f)⟩
  .refine .inl (nO O H x lo hi (.tuple ds) _ Q n b ?_ q)
   show(if fw ds.length lo hi=QW then QS else lD (RV.fz (.tuple (l9 ds lo hi))))=_;have z:fw ds.length lo hi=Q2:=by unfold fw;exact decide_eq_false d
   rw[z,if_neg Rc]
 |_=>cases e
section
variable {K:QR} {E:XK}
open Classical in
end
end L3
namespace L9
open PySem PySem.Spec PyProof.Rows
section
variable {M:abm} {A:RG} {E:QT->Q0->Prop} {env:Env}
variable {nm q:Str} {C N:QX} {bs Z:List QT} {hdct:Bool} {sn:List Str} {sub:List QT} {ab:Bool} {col:Option Bool} {dd:Option QX} {k0 k1 k2 k3 k5:Option QT} {newId:String}
theorem iW (r:Z.contains (.type "BaseException")=QW) (n:A.handled=QS)
  (h:wpAny M A x (fun v s₁=>∃e ob,v= .ref e/\s₁.heap.get? C=lD (excClassObj nm q C N bs Z hdct sn sub ab col dd k0 k1 k2 k3 k5 newId)/\s₁.heap.get? e=lD ob/\ob.cls= .ref C/\(∃fs,ob.data= .fields fs/\fs[1]? =lD QT.none)/\E (.ref e) s₁) E s):
  wpAny M A (raiseStmt env (lD x) QS) Q E s:=by
 have f:(QT.ref C::Z).contains (.type "BaseException")=QW:=by rw[Xf,r,Xs]
 unfold raiseStmt;refine Ld (wpAny_mono h (fun v s₁ a=> ?_) fun _ _ x=>x);obtain⟨e,ob,rfl,l,o,j,⟨fs,i,b⟩,p⟩:=a;obtain⟨y,w,m⟩:=ob;dsimp only at j i;subst j i;obtain⟨z,g,d,t,u⟩:=s₁
 repeat (first|specialize Tx o ?_|specialize Tx l ?_|(specialize Vs l ?_;rw[f])|wp_step)
 rw[b]
 repeat wp_step
 exact abT n p
end
section
variable {prog:Rt} {w:RM} {A:RG} {E:QT->Q0->Prop} {h:Heap} {g:Array Wl} {d:aap} {t:Nat} {os:Y3}
variable {nm q:Str} {C N:QX} {bs S Z:List QT} {hdct:Bool} {sn:List Str} {sub:List QT} {ab:Bool} {col:Option Bool} {dd:Option QX} {k0 k1 k2 k3 k5:Option QT} {B R newId Y WL X:String} {U:List QT}
theorem pE (y:UT R newId X U) (j:Z.contains (.type R)=QW) (F:UT B Y WL Z) (T:acY h Z S)
  (i:h.get? C=lD (excClassObj nm q C N bs S hdct sn sub ab col dd k0 k1 k2 k3 k5 newId)) (hn:h.Ns N mN) (hi:mN "__init__"=lD (.ref fI)) (p:h.get? fI=lD oI) (n:oI.cls= .type "function")
  (G:∀h' e,Heap.MadeExcOf h h' e (.ref C) rest->wpAny (model prog w) A (call (.ref fI) (.ref e::rest)) (fun r s'=>r= .none/\Q (.done (.ret (.ref e))) s') E ⟨h',g,d,t,os⟩) (hrest:rest.length<=Q8):
  wpAny (model prog w) A (Builtin.«type.__call__» ⟨.ref C::rest,[]⟩) Q E ⟨h,g,d,t,os⟩:=by
 repeat (first|specialize Tx i ?_|specialize wpAny_madeBy_exc i ?_|wp_step)
 refine codeAny_call_builtin_code (Zc.quiet_builtin _ y.quiet) (wpAny_check_new_subU y j T i ?_);refine codeAny_exc_new_subU y j F T i ?_ hrest
 have a:=Heap.get?_push_of_some {cls:= .ref C,data:= .fields #[.ref h.objs.size,.none,.none,.none,.bool Q2,.none]}
  (Heap.get?_push_of_some {cls:= .type "tuple",data:= .seq rest.toArray} i)
 have v:=Heap.get?_push_of_some {cls:= .ref C,data:= .fields #[.ref h.objs.size,.none,.none,.none,.bool Q2,.none]}
  (Heap.get?_push_of_some {cls:= .type "tuple",data:= .seq rest.toArray} p)
 have f:((h.push {cls:= .type "tuple",data:= .seq rest.toArray}).push {cls:= .ref C,data:= .fields #[.ref h.objs.size,.none,.none,.none,.bool Q2,.none]}).Ns N mN:=
  let⟨o,es,ep,e,r⟩:=hn;⟨o,es,ep,Heap.get?_push_of_some _ (Heap.get?_push_of_some _ e),r⟩
 have l:((h.push {cls:= .type "tuple",data:= .seq rest.toArray}).push
   {cls:= .ref C,data:= .fields #[.ref h.objs.size,.none,.none,.none,.bool Q2,.none]}).get? (h.objs.size+1)=lD
   {cls:= .ref C,data:= .fields #[.ref h.objs.size,.none,.none,.none,.bool Q2,.none]}:=by heap_get
 have u:(QT.ref C::S).contains (.ref C)=QW:=by simp
 have m:=T.keeps (h':=(h.push {cls:= .type "tuple",data:= .seq rest.toArray}).push {cls:= .ref C,data:= .fields #[.ref h.objs.size,.none,.none,.none,.bool Q2,.none]})
  fun b o e=>Heap.get?_push_of_some _ (Heap.get?_push_of_some _ e)
 unfold isInstance
 repeat (first|specialize Tx l ?_|(specialize Vs a ?_;rw[u])|wp_step)
 refine wpAny_typeLookup_tail a f m F.mroIs F.init.lookup ?_;rw[hi];refine SG (Ld ?_);unfold bindSpecial;refine Ld (Ul ⟨_,v,n⟩ ?_);rw[if_pos (by decide)];refine Q1 (Ld (wpAny_mono (G _ (h.objs.size+1) ⟨fun b o H=>Heap.get?_push_of_some _ (Heap.get?_push_of_some _ H),Heap.get?_none_of_le (X5 _),h.objs.size,l,Heap.get?_none_of_le (Q4 _),?_⟩) (fun r s' z=> ?_) fun _ _ x=>x))
 .exact Heap.get?_push_of_some _ (Heap.get?_push_at rfl rfl)
 .obtain⟨rfl,I⟩:=z
  wp_walk
  exact I
theorem zO (l:UT R newId X U) (i:Z.contains (.type R)=QW) (F:UT B Y WL Z) (T:acY h Z S)
  (a:h.get? C=lD (excClassObj nm q C N bs S hdct sn sub ab col dd k0 k1 k2 k3 k5 newId)) (hn:h.Ns N mN) (hi:mN "__init__"=lD (.ref fI)) (f:h.get? fI=lD oI) (b:oI.cls= .type "function")
  (j:∀h' e,Heap.MadeExcOf h h' e (.ref C) rest->wpAny (model prog w) (A.under (.builtin "type.__call__" ⟨.ref C::rest,[]⟩)) (call (.ref fI) (.ref e::rest)) (fun r s'=>r= .none/\Q (.ref e) s') E ⟨h',g,d,t,os⟩) (hrest:rest.length<=Q8):
  wpAny (model prog w) A (call (.ref C) rest) Q E ⟨h,g,d,t,os⟩:=by
 have o:=tc_lookup;have n:=tc_bind (.ref C);have m:(⟨h,g,d,t,os⟩:Q0).TypeIs (.ref C) "type":=⟨_,a,rfl⟩;refine WA (codeAny_of_tree ?_)
 repeat (any_goals (first|assumption|specialize Tx a ?_|wp_step))
 refine⟨rfl,?_⟩;refine codeAny_call_builtin_at (Zc.quiet_builtin _ (by left)) entry_typeCall (wpAny_check_type_call_sub a (pE (hrest:=hrest) l i F T a hn hi f b fun h' e hm=> ?_));exact j h' e hm
end
section
variable {prog:Rt} {w:RM} {A:RG} {E:QT->Q0->Prop} {s:Q0} {env:Env}
variable {nm q:Str} {C N:QX} {bs Y Z:List QT} {hdct:Bool} {sn:List Str} {sub:List QT} {ab:Bool} {col:Option Bool} {dd:Option QX} {k0 k1 k2 k3 k5:Option QT} {B Bn newId X WL U:String} {S:List QT}
theorem wR (R:UT Bn newId U S) (t:Z.contains (.type Bn)=QW) (F:UT B X WL Z)
  (u:Y.contains (.type "BaseException")=QW) (o:A.handled=QS) (P:(backTo Ur (Ru args env)).any (·.1)=Q2) (hi:mN "__init__"=lD (.ref fI)) (p:oI.cls= .type "function")
  (h:wpAny (model prog w) A (eval (.Name x np) env) (fun f s₁=>f= .ref C/\wpAny (model prog w) A (evalArgs (.ref C) QW (backTo Ur (Ru args env)) [])
   (fun a s₂=>a.kw=[]/\a.pos.length<=Q8/\s₂.heap.get? C=lD (excClassObj nm q C N bs Y hdct sn sub ab col dd k0 k1 k2 k3 k5 newId)/\s₂.heap.Ns N mN/\s₂.heap.get? fI=lD oI/\acY s₂.heap Z Y/\
    ∀h' e,Heap.MadeExcOf s₂.heap h' e (.ref C) a.pos->wpAny (model prog w) (A.under (.builtin "type.__call__" ⟨.ref C::a.pos,[]⟩)) (call (.ref fI) (.ref e::a.pos)) (fun r s'=>r= .none/\∃ob,s'.heap.get? C=lD (excClassObj nm q C N bs Y hdct sn sub ab col dd k0 k1 k2 k3 k5 newId)/\s'.heap.get? e=lD ob/\ob.cls= .ref C/\(∃fs,ob.data= .fields fs/\fs[1]? =lD QT.none)/\E (.ref e) s') E {s₂ with heap:=h'}) E s₁) E s):
  wpAny (model prog w) A (exec (.Raise (lD (.Call (.Name x np) args [] Ur)) QS pos) env) Q E s:=by
 rw[arm_exec_Raise]
 first
  |refine Ld (TC (iW u o (Ld (wpAny_mono (Yb (wpAny_mono h (fun f s₁ i=> ?_) fun _ _ x=>x)) (fun v l b=>Ld (TC (Q1 b))) fun _ _ x=>x))))
  |(simp only[evalOpt,Option.map];refine Ld (TC (iW (C:=C) (nm:=nm) (q:=q) (N:=N) (bs:=bs) (hdct:=hdct) (sn:=sn) (sub:=sub) (ab:=ab) (col:=col) (dd:=dd) (k0:=k0) (k1:=k1) (k2:=k2) (k3:=k3) (k5:=k5) (newId:=newId) u o (Ld (wpAny_mono (Yb (wpAny_mono h (fun f s₁ i=> ?_) fun _ _ x=>x)) (fun v l b=>Ld (TC (Q1 b))) fun _ _ x=>x)))))
  |(refine Ld (TC (iW u o ?_));refine Ld (wpAny_mono (Yb (wpAny_mono h (fun f s₁ i=> ?_) fun _ _ x=>x)) (fun v l b=>Ld (TC (Q1 b))) fun _ _ x=>x))
 obtain⟨rfl,i⟩:=i;unfold callWith;refine Ld (SG (wpAny_mono i (fun a s₂ j=>Ld (TC ?_)) fun _ _ x=>x));obtain⟨z,O⟩:=a;obtain⟨n,m,y,hn,H,T,j⟩:=j;obtain rfl:=n;obtain⟨hp,g,d,tk,os⟩:=s₂;simp only[P];refine Ld (wpAny_keeperOf_exc y ?_);refine Ld (zO (hrest:=m) R t F T y hn hi H p fun h' e hm=>wpAny_mono (j h' e hm) (fun r s' ⟨G,ob,M,L,K,J,I⟩=>⟨G,Ld (SG (wpAny_point (Q1 ?_)))⟩) fun _ _ x=>x);exact⟨e,ob,rfl,M,L,K,J,I⟩
end
end L9
namespace L9
open PySem PySem.W PyProof.Rows Builtin Builtin.ObjectAttr
abbrev Hq:List QT:=[.type "ValueError",.type "Exception",.type "BaseException",.type "object"]
section
variable {prog:Rt} {w:RM} {A:RG} {K:Frag} {B C x:QX} {s:Q0} {R:Xj->Q0->Prop} {Z:ClassData} {name:Str} {Y:Tok} {v:QT} {fs:Array QT}
theorem IL (X:K.In s.heap) (z:clsIn K C=lD Z) (hm:Z.mro= .ref C:: .ref B::Hq) (hd:Z.hasDict=QW) (hn:findIn K (.ref C) name=lD QS) (i:s.heap.get? x=lD ⟨.ref C,QS,.fields fs,#[]⟩)
  (H:∀h' Zb,h'.get? x=lD ⟨.ref C,lD s.heap.objs.size,.fields fs,#[]⟩->h'.Ns1 s.heap.objs.size (fun y=>if y=name then lD v else QS)->(∀b o,b≠x->s.heap.get? b=lD o->h'.get? b=lD o)->R (.ok (.ret .none)) {s with heap:=h',toks:=Zb}):
  codeAny (model prog w) A (.call (.builtin "object.__setattr__") ⟨[.ref x,.str name Y,v],[]⟩) R s:=by
 have I:InstAt s.heap x ⟨.ref C,QS,.fields fs,#[]⟩ C QS:=⟨i,rfl,rfl,True.intro⟩;have m:=PySem.F.store_object;have sub:Looks (model prog w) s.heap (isInstance (.ref x) (.type "object")) QW:=I.type.andThen (looks_mroIn X (by unfold mroIn;rw[z,Option.bind_some,hm,if_neg (by simp)];simp));refine Ve m.slot.plain m.entry (@check_slot (model prog w) _ _ s "object.__setattr__" "object" "__setattr__" (.ref x) [.str name Y,v] [] _ m.kind m.split sub (m.args (.ref x) (.str name Y) v) ?_);have l:Looks (model prog w) s.heap (mroOf (.ref C)) Z.mro:=(looks_clsIn X z).andThen .now;rw[osa_eq,refuse_eq];refine Ld (Ld (I.type.here (Ld (l.here ?_))));rw[hm,afL,afL,PySem.F.store_ValueError.passes];refine Q1 (Ld (I.type.here (Ld ((looks_findIn X hn).here (Ld (Q1 ?_))))));unfold storeInOwnDict;refine Ld (Q1 (Ld ?_));unfold ownDictForStores instanceDict;refine Ld (afE i (Ld ((looks_clsIn X z).here ?_)));rw[hd,if_neg (by decide)];show wpAny _ _ (if(!QW|| !typeHasDict (.ref C))=QW then pure QS else(do
        let d<-alloc {cls:=QT.type "dict",data:=Data.dict #[]}
        update x fun o=>{cls:=o.cls,dict:=lD d,data:=o.data,slots:=o.slots}
        dictMade (.ref C) x d)) _ _ _
 rw[if_neg (by simp[typeHasDict])];obtain⟨h,g,d,t,os⟩:=s;dsimp only at X i H I sub l⊢;have f:(h.push {cls:= .type "dict",data:= .dict #[]}).get? x=lD ⟨.ref C,QS,.fields fs,#[]⟩:=Heap.get?_push_of_some _ i;have a:=Rr (Heap.lt_size i);refine Ld (wpAny_alloc' ?_);refine Ld (wpAny_update' f ?_);refine Q1 ?_
 have q:((h.push {cls:= .type "dict",data:= .dict #[]}).update x fun o=>{cls:=o.cls,dict:=lD h.objs.size,data:=o.data,slots:=o.slots}).get? h.objs.size
   =lD {cls:= .type "dict",data:= .dict #[]}:=
  (Heap.get?_update_ne _ _ _ _ a.symm).trans (Heap.get?_push_at rfl rfl)
 have p:((h.push {cls:= .type "dict",data:= .dict #[]}).update x fun o=>{cls:=o.cls,dict:=lD h.objs.size,data:=o.data,slots:=o.slots}).Ns h.objs.size (fun _=>QS):=
  ⟨_,#[],_,q,rfl,fun e M=>absurd M (by simp),fun _=>rfl⟩
 unfold storeInDict newKeyGuard;refine Ld (Q1 (Ld (wpAny_nsSet1 (Heap.Ns1.of_empty p) fun h' j G=> ?_)));obtain⟨oD,O,Q,n,r,u⟩:=j.count (Within.cons name v Within.nil);refine Ld (adw n (by rw[r];exact adx (RO u (by rw[Rg,SD,Tv];omega))) ?_);refine Q1 (H h' _ ?_ ?_ fun b ob E J=> ?_)
 .exact(G.2 x a).trans (Heap.get?_update_self _ f rfl)
 .obtain⟨L,P,S,e1,e2,U,N,T⟩:=j;exact⟨L,P,S,e1,e2,U,N,fun y=>by rw[T y]⟩
 .exact(G.2 b (Rr (Heap.lt_size J))).trans ((Heap.get?_update_ne _ _ _ _ E).trans (Heap.get?_push_of_some _ J))
theorem JA (X:K.In s.heap) (f:clsIn K C=lD Z) (hm:Z.mro= .ref C:: .ref B::Hq) (hd:Z.hasDict=QW) (a:findIn K (.ref C) "__setattr__"=lD (lD (.builtin "object.__setattr__"))) (hn:findIn K (.ref C) name=lD QS) (d:s.heap.get? x=lD ⟨.ref C,QS,.fields fs,#[]⟩)
  (e:∀h' Zb,h'.get? x=lD ⟨.ref C,lD s.heap.objs.size,.fields fs,#[]⟩->h'.Ns1 s.heap.objs.size (fun y=>if y=name then lD v else QS)->(∀b o,b≠x->s.heap.get? b=lD o->h'.get? b=lD o)->Q () {s with heap:=h',toks:=Zb}):
  wpAny (model prog w) A (setAttr (.ref x) name v) Q E s:=
 set_plain X (⟨d,rfl,rfl,True.intro⟩:InstAt s.heap x ⟨.ref C,QS,.fields fs,#[]⟩ C QS) a (IL X f hm hd hn d e)
end
section
variable {prog:Rt} {w:RM} {A:RG} {E:QT->Q0->Prop} {h:Heap} {g:Array Wl} {d:aap} {t:Nat} {os:Y3}
variable {nm q:Str} {C N:QX} {bs bm Z:List QT} {hdct:Bool} {sn:List Str} {sub:List QT} {ab:Bool} {col:Option Bool} {dd:Option QX} {k0 k1 k2 k3 k5:Option QT} {B newId Y WL:String}
theorem Da (F:UT B Y WL Z) (T:acY h Z bm)
  (p:h.get? C=lD (excClassObj nm q C N bs bm hdct sn sub ab col dd k0 k1 k2 k3 k5 newId)) (j:h.get? e=lD ⟨.ref C,QS,.fields fs,#[]⟩) (l:fs[0]? =lD (.ref t0))
  (m:∀h' fs',h'.get? e=lD ⟨.ref C,QS,.fields fs',#[]⟩->fs'[0]? =lD (.ref h.objs.size)->(∀i,i≠0->fs'[i]? =fs[i]?)->(∀b o,b≠e->h.get? b=lD o->h'.get? b=lD o)->Q .none ⟨h',g,d,t,os⟩) (hrest:rest.length<=Q8):
  wpAny (model prog w) A (call (.builtin WL) (.ref e::rest)) Q E ⟨h,g,d,t,os⟩:=by
 refine WA (Ve F.init.plain F.initEntry (wpAny_check_init_subU F T p j rfl ?_));unfold Builtin.«BaseException.__init__»;dsimp only;rw[if_neg (by simp)];unfold newTuple Builtin.BaseException.bexcPut;have f:=(Sk.mp l).1;have a:(h.push {cls:= .type "tuple",data:= .seq rest.toArray}).get? e=lD ⟨.ref C,QS,.fields fs,#[]⟩:=Heap.get?_push_of_some _ j;refine Ld (Sb (Ld (Ld (RU a rfl l (Ld (TK a rfl f ?_))))) (by show rest.toArray.size<=Q8;rw[Q9];exact hrest));refine Uj (Q1 (m _ (fs.setIfInBounds 0 (.ref h.objs.size)) ?_ (by simp[f]) (fun i hi=>by rw[Xt (Ne.symm hi)]) fun b o n z=> ?_))
 .exact Heap.get?_update_self (Obj.mapFields (·.setIfInBounds 0 (.ref h.objs.size))) a rfl
 .exact(Heap.get?_update_other _ _ (Ne.symm n)).trans (Heap.get?_push_of_some _ z)
end
end L9
namespace L9
open PySem PySem.Spec PyProof.Rows L2
def Pb (v:V):Prop:=v= .TL\/∃i:Int,v= .int i/\i.natAbs.log2<1920
theorem JL {i:Int} (h:i.natAbs.log2<1920):(Str.ofString (toString i)).length<=5000:=by have e:=int_text_length_le (by decide) h;rw[PySem.ofString_length];omega
theorem MR (I:Inv X pins σ H s) (r:RelV v u) (f:Pb v)
  (h:∀(y:Str) (t:Tok) (a:Q0),y.length<=5000->Inv X pins σ H a->Q (.str y t) a):wpAny (model X.prog X.w) A (formatField u Str.empty) Q E s:=by
 rcases f with rfl|⟨i,rfl,hi⟩
 .obtain rfl:=r;exact wpAny_formatField_none (h _ _ _ (by decide) (I.tok _))
 .obtain⟨t,rfl⟩:=r;exact formatField_int_small hi (h _ _ _ (JL hi) (I.tok _))
def PJ (X:Cx) (h:List Sf) (n:Nat) (t:L2.St->Hp->(Hp->Prop)->Prop):Prop:=
 ∀(a:List (QX×Obj)) (s:Q0) (d:L2.St) (H:Hp) (b:Str) (Q:Hp->Prop),Inv X a d H s->b.length+n<=1000000->t d H Q->
  wpAny (model X.prog X.w) X.A (joinParts b (evalEach h X.env)) (fun v g=>∃(y:Str) (f:Tok) (e:Hp),v= .str y f/\Inv X a d e g/\Q e) X.xe s
section
variable {X:Cx} {e:Sf} {Z:List Sf} {n:Nat} {te:TE} {t:L2.St->Hp->(Hp->Prop)->Prop} {pos:Pos}
theorem M8:PJ X [] 0 (fun _ H Q=>Q H):=by intro a s d H b Q I f h;exact joinParts_nil ⟨_,_,H,rfl,I.tok _,h⟩ (by rw[Tv];omega)
theorem Nc (g:x.length<=5000) (f:PJ X Z n t):PJ X (.Constant (.str x) k pos::Z) (n+5000) t:=by intro a s d H b Q I i h;refine joinParts_consE (joinParts_cons (Calls.Constant_str ?_));have e:=ahC b x;exact⟨by rw[Tv];omega,f a _ d H (b++x) Q (I.tok _) (by omega) h⟩
theorem LQ (g:PE X e te) (d:PJ X Z n t):PJ X (.FormattedValue e (-1) QS pos::Z) (n+5000) (fun σ H Q=>te σ H fun v H1=>Pb v/\t σ H1 Q):=by intro a s σ H b Q I w h;refine joinParts_consE (joinParts_cons (FormattedValue_plain (cB (g a s σ H _ I h) fun u m ⟨v,H1,i,r,f,q⟩=> ?_)));refine MR i r f fun y l o p j=> ?_;have e:=ahC b y;exact⟨by rw[Tv];omega,d a _ σ H1 (b++y) Q j (by omega) q⟩
theorem HM (h:PJ X (f::e2::Z) n t) (hn:n<=900000):PE X (.JoinedStr (f::e2::Z) pos) (fun σ H Q=>t σ H fun H1=>∀y:Str,Q (.str y) H1):=by intro a s σ H Q I b;refine JoinedStr_many (cB (h a s σ H Str.empty _ I (by show 0+n<=1000000;omega) b) fun v j ⟨y,i,H1,d,g,q⟩=> ?_);subst d;exact⟨.str y,H1,g,⟨_,rfl⟩,q y⟩
end
def JQ (C e:QX):Heap->Prop:=fun h=>∃fs t0,h.get? e=lD ⟨.ref C,QS,.fields fs,#[]⟩/\fs[0]? =lD (.ref t0)/\fs[1]? =lD .none
def OE (C e p:QX):Heap->Prop:=fun h=>∃fs a0,h.get? e=lD ⟨.ref C,lD p,.fields fs,#[]⟩/\fs[0]? =lD a0/\fs[1]? =lD .none
structure XC (K:QR) (C B fI:QX):Prop where
 obj:∃nm q N bs sn sub ab col dd k0 k1 k2 k3 k5,K.lookup C=lD (excClassObj nm q C N bs (.ref B::Hq) QW sn sub ab col dd k0 k1 k2 k3 k5 "ValueError.__new__")/\XT K N=QW/\Rp K N "__init__"=lD (lD (.ref fI))
 base:Wu K B Hq "ValueError.__new__"=QW
 sa:R0 K (.ref C) "__setattr__"=lD (lD (.builtin "object.__setattr__"))
theorem yf {K:QR} (q:Wu K B Hq n=QW):V1 K Hq (.ref B::Hq)=QW:=by
 unfold Wu at q;split at q
 .rename_i dd e d b
  split at q
  .simp only[Rx,beq_iff_eq,Bool.not_eq_true'] at q;obtain⟨⟨⟨⟨⟨_,_⟩,_⟩,_⟩,Su⟩,a⟩:=q;unfold V1;dsimp only;rw[b];dsimp only;rw[Su,a,show V1 K Hq Hq=QW from by unfold V1;rw[beq_self_eq_true,Uz],beq_self_eq_true,Tb,Tb,Xs]
  .cases q
 .cases q
section
variable {X:Cx} {B C fI:QX} {pos S U:Pos} {Y:Sf} {Z:List Sf} {t:TA} {b:Str}
theorem FX (h:H a=lD o):bC H a o=H:=by
 funext c;by_cases z:c=a
 .rw[z,aM,h]
 .rw[aH z]
def Lh (C:QX) (t:TA):TE:=fun d H Q=>t d H fun vs a=>∃e y,vs=[.ref e,.str y]/\a e=lD (.ext (JQ C e))/\Q .TL a
theorem Ex {pl:Sem Bool} (hg:Gl X b) (hm:X.mg b=lD (.ref B)) (hr:Xz X.K B (.type "type")=QW) (hf:XA X.K (.ref B) (.type "type") "__init__"=lD (.val (.builtin "ValueError.__init__")))
  (hs:Up X.K (.ref B) "__getattribute__"=lD (lD (.builtin "type.__getattribute__"))) (v:XC X.K C B fI) (ha:PA X (Y::Z) t)
  (dQ:Ru (Y::Z) X.env=(Q2,eval Y X.env)::Ru Z X.env:=by rfl) (XM:(backTo pos (Ru Z X.env)).any (·.1)=Q2:=by rfl) (Yq:(b==("__debug__":Str))=Q2:=by decide)
  (ht:eval (.Call (.Attribute (.Name b S) "__init__" U) (Y::Z) [] pos) X.env=(do
   let ov<-eval (.Name b S) X.env
   standAt U.atName
   let(f,first)<-holding [ov] (getMethod ov "__init__" pl)
   callWith pos f first (backTo pos (Ru (Y::Z) X.env)) (backToKw pos (keywordEach [] X.env))):=by rfl):
  PE X (.Call (.Attribute (.Name b S) "__init__" U) (Y::Z) [] pos) (Lh C t):=by
 intro a s F H Q I h;refine VS (pl:=pl) (kZ I hg hm ?_ Yq) ht;refine PySem.W.method_cls I.XB hs (PySem.W.cls_value I.XB hr hf (by decide) ?_);have A:=ha pos a {s with toks:=s.toks+1} F H _ (I.tok _) h;rw[dQ] at A⊢;refine Calls.callWith_builtin (by show(Q2||(backTo pos (Ru Z X.env)).any (·.1))=Q2;rw[XM]<;>rfl) (Calls.evalArgs_plain (cB A fun us p ⟨vs,E,i,r,e,y,ev,l,q⟩=> ?_));subst ev;obtain⟨M,u2,rfl,R,P⟩:=EK r;obtain rfl:M= .ref e:=R;obtain⟨tk,rfl⟩:=P;obtain⟨⟨fs,t0,g1,g2,g3⟩,_,gk⟩:=(show ObjOk X.prog X.w E p.heap e (.ext (JQ C e)) from i.Su e _ l);obtain⟨nm,q',N,bs,sn,sub,ab,col,dd,k0,k1,k2,k3,k5,lk,Su,hin⟩:=v.obj;have T:=Zh i.XB (yf v.base);obtain⟨h2,g,d,j,os⟩:=p;refine Da TX T (i.XB _ _ lk) g1 g2 (fun h' m n e2 e3 e4=> ?_) (by show 1<=Q8;decide);refine⟨.TL,E,?_,rfl,q⟩;have w:=i.write (x:=e) (e:=e) (o:= .ext (JQ C e)) (h':=h') (t':=j) (by rw[l];exact True.intro) (.inl rfl) (fun b u hb z=>e4 b u hb z) ⟨_,n⟩ ⟨⟨m,_,n,e2,by rw[e3 1 (by decide)];exact g3⟩,⟨_,n⟩,fun h1 h2 ⟨f1,O,L,J,G⟩ hk=>⟨f1,O,hk _ L,J,G⟩⟩;rw[FX l] at w;exact w
def Ow (C:QX) (f:Str) (h g:TE):TS:=fun D a H=>g a H fun v i=>h a i fun x d=>∃e,x= .ref e/\d e=lD (.ext (JQ C e))/\∀p,d p=QS->p≠e->D.nx a (bC (bC d e (.ext (OE C e p))) p (.xd [(f,v)]))
theorem Jf (P:XC X.K C B fI) (hn:R0 X.K (.ref C) f=lD QS) (ha:PE X o ta) (hv:PE X value tv) (hs:SU value (lD (.Attribute o f pos')) pos.line X.env=pure Q2):PS X (.Assign [.Attribute o f pos'] value pos) (Ow C f ta tv):=by
 intro j s F H D I h;refine Yg (cB (hv j s F H _ I h) fun u s1 ⟨v,H1,I1,rv,q⟩=>cB (ha j s1 F H1 _ I1 q) fun ov m ⟨x,R,r,rx,e,ex,i,q2⟩=> ?_) hs;subst ex;obtain rfl:=rx;obtain⟨⟨fs,t0,Q,g2,g3⟩,_,gk⟩:=(show ObjOk X.prog X.w R m.heap e (.ext (JQ C e)) from r.Su e _ i);obtain⟨nm,q',N,bs,sn,sub,ab,col,dd,k0,k1,k2,k3,k5,lk,Su,hin⟩:=P.obj;obtain⟨E,hc,J,L⟩:∃E,aba X.K C=lD E/\E.mro= .ref C:: .ref B::Hq/\E.hasDict=QW:=by unfold aba;rw[lk];exact⟨_,rfl,rfl,rfl⟩
 refine JA r.XB hc J L P.sa hn Q fun h' Zb M e2 A=> ?_;have pe:=So (Heap.lt_size Q);have p:=r.Su.fresh (Q4 _);refine⟨F,_,?_,q2 m.heap.objs.size p pe⟩;have l:∀b o,m.heap.get? b=lD o->b≠m.heap.objs.size:=fun b o z=>Rr (Heap.lt_size z);refine r.un ⟨fun b o z n _ _=>A b o (fun y=>by rw[y,i] at n;cases n) z,fun b o z n _ _=>⟨o.slots,A b o (fun y=>by rw[y,i] at n;cases n) z⟩,fun b o z n _=> ?_,fun b o z _=> ?_,fun b xs z=> ?_,fun b o u z=> ?_,fun b ps z=>⟨#[],?_⟩⟩ ?_
 .rw[aH (l b o z),aH (fun y=>by rw[y,i] at n;cases n)];exact n
 .by_cases y:b=e
  .subst y;exact⟨_,M⟩
  .exact⟨o,A b o y z⟩
 .rw[aH (fun y=>by rw[y,p] at z;cases z),aH (fun y=>by rw[y,i] at z;cases z)];exact z
 .rw[aH (fun y=>by rw[y,p] at z;cases z),aH (fun y=>by rw[y,i] at z;cases z)];exact z
 .rw[aH (fun y=>by rw[y,p] at z;cases z),aH (fun y=>by rw[y,i] at z;cases z),z];simp
 .intro a o z
  by_cases O:a=m.heap.objs.size
  .subst O
   rw[aM] at z;cases z;refine⟨_,e2,fun g=> ?_⟩;show Vz (match g==f with|true=>lD v|false=>TH g []) (if g=f then lD u else QS);cases d:g==f with
   |true=>rw[if_pos (beq_iff_eq.mp d)];exact rv
   |false=>rw[if_neg (fun w=>by rw[beq_iff_eq.mpr w] at d;cases d)];exact True.intro
  .rw[aH O] at z
   by_cases G:a=e
   .subst G;rw[aM] at z;cases z;exact⟨⟨fs,_,M,g2,g3⟩,⟨_,M⟩,fun h1 h2 ⟨f1,t1,z1,z2,T⟩ hk=>⟨f1,t1,hk _ z1,z2,T⟩⟩
   .rw[aH G] at z
    have own:∀b,R b=lD (.own a)->b≠e/\b≠m.heap.objs.size:=fun b y=>⟨(fun k=>by rw[k,i] at y;cases y),(fun k=>by rw[k,p] at y;cases y)⟩;refine(r.Su a o z).Wb (fun b w d y=>A b w (fun k=> ?_) y) (fun b y=>by rw[aH (own b y).2,aH (own b y).1];exact y) fun b xs y=>by rw[aH (fun k=>by rw[k,p] at y;cases y),aH (fun k=>by rw[k,i] at y;cases y)];exact y
    rcases d with d|d
    .exact G (d.symm.trans k)
    .exact(own b d).1 k
end
end L9
namespace L9
open PySem PySem.Spec PyProof.Rows L2 L4
def NT (H:Hp) (e:QX):Hp:=fun a=>if a=e then QS else H a
theorem sE:NT H e e=QS:=if_pos rfl
theorem jz (h:a≠e):NT H e a=H a:=if_neg h
theorem yK {K:QR} (X:K.In h) (G:h.Ns N mg) (e:Rp K N n=lD (lD v)):mg n=lD v:=by
 obtain⟨o,m,p,d,i,_,f⟩:=G;unfold Rp at e;split at e
 .rename_i j l b a
  have:=(X _ _ a).symm.trans d;cases this;cases i;split at e
  .rename_i q g;cases e;rw[<-f];unfold nsFind findBy;rw[<-ZY,g];rfl
  .split at e<;>cases e
 .cases e
theorem LA {K:QR} (i:T4 K (.ref f)=QW) (l:K.lookup f=lD o):o.cls= .type "function":=by unfold T4 aaD at i;dsimp only at i;rw[l] at i;exact Rm (beq_iff_eq.mp i)
section
variable {X:Cx} {Z:List (QX×Obj)} {Y:L2.St} {H:Hp} {s:Q0} {h':Heap} {e:QX} {o:HO}
theorem Hz (I:L2.Inv X Z Y H s) (k:∀b u,s.heap.get? b=lD u->h'.get? b=lD u) (n:s.heap.get? e=QS) (new:ObjOk X.prog X.w (bC H e o) h' e o):L2.Inv X Z Y (bC H e o) {s with heap:=h',toks:=t'}:=by
 have hn:=xD I.Su n;have ne:∀b u,s.heap.get? b=lD u->b≠e:=fun b u z y=>by rw[y,n] at z;cases z
 refine I.un ⟨fun b u z _ _ _=>k b u z,fun b u z _ _ _=>⟨u.slots,k b u z⟩,fun b u z q _=>by rw[aH (ne b u z)];exact q,fun b u z _=>⟨u,k b u z⟩,fun b xs z=> ?_,fun b u v z=> ?_,fun b ps z=>⟨#[],?_⟩⟩ ?_
 .rw[aH (fun y=>by rw[y,hn] at z;cases z)];exact z
 .rw[aH (fun y=>by rw[y,hn] at z;cases z)];exact z
 .rw[aH (fun y=>by rw[y,hn] at z;cases z),z];simp
 .intro a u z
  by_cases y:a=e
  .subst y;rw[aM] at z;cases z;exact new
  .rw[aH y] at z;refine(I.Su a u z).Wb (fun b w _ q=>k b w q) (fun b q=>by rw[aH (fun w=>by rw[w,hn] at q;cases q)];exact q) fun b xs q=>by rw[aH (fun w=>by rw[w,hn] at q;cases q)];exact q
theorem Jr (I:L2.Inv X Z Y H s) (d:H e=lD (.ext φ)):L2.Inv X Z Y (NT H e) s:=by
 have:=I.un (t':=s.toks) (H':=NT H e) ⟨fun b u z _ _ _=>z,fun b u z _ _ _=>⟨u.slots,z⟩,fun b u z q _=> ?_,fun b u z _=>⟨u,z⟩,fun b xs z=> ?_,fun b u v z=> ?_,fun b ps z=>⟨#[],?_⟩⟩ ?_
 .exact this
 .by_cases y:b=e
  .rw[y];exact sE
  .rw[jz y];exact q
 .rw[jz (fun y=>by rw[y,d] at z;cases z)];exact z
 .rw[jz (fun y=>by rw[y,d] at z;cases z)];exact z
 .rw[jz (fun y=>by rw[y,d] at z;cases z),z];simp
 .intro a u z
  have y:a≠e:=fun y=>by rw[y,sE] at z;cases z
  rw[jz y] at z;exact(I.Su a u z).Wb (fun b w _ q=>q) (fun b q=>by rw[jz (fun w=>by rw[w,d] at q;cases q)];exact q) fun b xs q=>by rw[jz (fun w=>by rw[w,d] at q;cases q)];exact q
end
def AG (C:QX) (sp:Sp) (E:XK) (f:TA):TS:=fun _ d H=>f d H fun vs b=>vs.length<=Q8/\∀e,b e=QS->sp (.ref e::(vs++[])) (bC b e (.ext (JQ C e))) (fun v a=>v= .TL/\∃p,a e=lD (.ext (OE C e p))/\E (.ref C) (lD p) (NT a e)) E0
theorem Dt {K:QR}
  (X:XC K C B fI) (Q:K.lookup fI=lD oI) (iI:T4 K (.ref fI)=QW) (FI:FnOk P w K mg base dm k fI fdI ps sp) (bI:Binds K fdI ps [])
  (hr:Tt (k+1) (fV (mF P w) P w K mg base N qual scope f cd A outer s0 H0 E).A)
  (hg:Gl (fV (mF P w) P w K mg base N qual scope f cd A outer s0 H0 E) x) (hm:mg x=lD (.ref C)) (ha:PA (fV (mF P w) P w K mg base N qual scope f cd A outer s0 H0 E) (e0::es) ta)
  (Yq:(x==("__debug__":Str))=Q2:=by decide)
  (S:Ru (e0::es) (fV (mF P w) P w K mg base N qual scope f cd A outer s0 H0 E).env=(Q2,eval e0 (fV (mF P w) P w K mg base N qual scope f cd A outer s0 H0 E).env)::Ru es (fV (mF P w) P w K mg base N qual scope f cd A outer s0 H0 E).env:=by rfl)
  (XM:(backTo Ur (Ru es (fV (mF P w) P w K mg base N qual scope f cd A outer s0 H0 E).env)).any (·.1)=Q2:=by rfl):
  PS (fV (mF P w) P w K mg base N qual scope f cd A outer s0 H0 E) (.Raise (lD (.Call (.Name x np) (e0::es) [] Ur)) QS pos) (AG C sp E ta):=by
 intro j s σ H D I h;obtain⟨nm,qn,Nn,bs,sn,sub,ab,col,dd,k0,k1,k2,k3,k5,O,Su,n⟩:=X.obj;have a:=I.ok.mod.kin;have oC:=a _ _ O;have M:=Heap.Ns.of_isNs (PySem.W.isNs_of_in a Su);have ni:=yK a M n;have oF:=a _ _ Q;have T:=Zh a (yf X.base);refine wR (nm:=nm) (q:=qn) (N:=Nn) (bs:=bs) (hdct:=QW) (sn:=sn) (sub:=sub) (ab:=ab) (col:=col) (dd:=dd) (k0:=k0) (k1:=k1) (k2:=k2) (k3:=k3) (k5:=k5) TX (by left) TX (T.hasType TX.hasBase) (I.ok.hd rfl)
  (by rw[S];exact(VJ _).trans XM) ni (LA iI Q) (kZ I hg hm ⟨rfl,?_⟩ Yq)
 have go:=ha Ur j s σ H _ I h;rw[S] at go⊢;refine Calls.evalArgs_plain (cB go fun d i ⟨vs,H1,g,r,hl,q⟩=> ?_);refine⟨rfl,by rw[<-r.length];exact hl,g.bk _ _ oC,M.keeps g.bk,g.bk _ _ oF,T.keeps g.bk,fun h' e l=> ?_⟩;obtain⟨t,y,y2,y3⟩:=l.there;have hn:=xD g.Su l.new;have R:=q e hn;have G:=Hz (t':=i.toks) (o:= .ext (JQ C e)) g l.keeps l.new ⟨⟨_,t,y,rfl,rfl⟩,⟨_,y⟩,fun h1 h2 ⟨f1,t1,z1,z2,z3⟩ hk=>⟨f1,t1,hk _ z1,z2,z3⟩⟩;have L:Vals (V.ref e::(vs++[])) (QT.ref e::(d++[])):= .cons rfl (r.append .nil);have m:(QT.ref e::d++[]).length=ps.length:=by have z:=L.length;rw[FI.len _ _ _ _ R] at z;exact z.symm
 have old:s0.heap.get? e=QS:=by
  cases z:s0.heap.get? e with
  |none=>rfl
  |some o=>obtain⟨o',J⟩:=g.base.there e o z (fun y=>nomatch y);rw[l.new] at J;cases J
 have bi:=bI {heap:=h',gens:=i.gens,drawn:=i.drawn,toks:=i.toks,os:=i.os} (QT.ref e::d) G.XB m;rw[abb] at bi;refine WA (WB (FI.run _ (fV (mF P w) P w K mg base N qual scope f cd A outer s0 H0 E).stack _ _ ⟨QT.ref e::d,[]⟩ (QT.ref e::(d++[])) _ _ E0 (hr.make C d []) (G.acs.make C d []) bi L R) fun r s' b=> ?_);cases r with
 |error e=>exact b.elim
 |ok fl=>
  cases fl with
  |ret u=>obtain⟨v,H',F,rv,ev,p,U,q3⟩:=G.after b;subst ev;obtain⟨⟨fs,a0,Z,g2,Y⟩,_,_⟩:=(show ObjOk _ _ H' s'.heap e (.ext (OE C e p)) from F.Su e _ U);refine⟨rv,_,F.XB _ _ O,Z,rfl,⟨fs,rfl,Y⟩,?_⟩;exact Km (hd:=QS) (Jr F U) ⟨_,_,Z,rfl,rfl,rfl,g2,Y⟩ old (fun T z=>nomatch z) sE (fun T z=>nomatch z) q3
  |next=>exact False.elim b
  |brk=>exact False.elim b
  |cont=>exact False.elim b
end L9
namespace L9
open PySem PySem.Spec PySem.W PyProof.Rows L2 L3 L4
section
variable {prog:Rt} {w:RM} {A:RG} {E:QT->Q0->Prop} {h:Heap} {g:Array Wl} {d:aap} {t:Nat} {os:Y3} {a C:QX} {o:Obj} {K:QR} {od:Option Obj} {name:Str} {v:QT}
  {n1 q1:Str} {N1:QX} {b1 m1:List QT} {d1:Bool} {s1:List Str} {u1:List QT} {a1:Bool} {c1:Option Bool} {x1:Option QX} {i0 i1 i2 i3 i5:Option QT} {id1:String}
end
def wb (C:QX) (f:Str):Sp:=fun vs H Q _=>∃e v,vs=[.ref e,v]/\Pb v/\H e=lD (.ext (JQ C e))/\∀p,H p=QS->p≠e->Q .TL (bC (bC H e (.ext (OE C e p))) p (.xd [(f,v)]))
def Os:D->Bool
 | .none=>QW
 | .int i=>decide (i.natAbs.log2<1920)
 |_=>Q2
end L9
namespace L3
open PySem PySem.Spec PyProof.Rows L2
mutual
def Qt:QZ->Bool
 | .tuple ds=>No ds
 | .int _=>QW
 | .str _=>QW
 | .bool _=>QW
 | .none=>QW
 |_=>Q2
def No:List QZ->Bool
 |[]=>QW
 |d::r=>Qt d&&No r
end
section
variable {K:QR} {E:XK} {B:ci} {H0:Hp} {O Z:ci} {σ:L2.St} {H H':Hp} {ρ:bt}
theorem Ii (h:Vo K H a xs) (l:H a=lD (.lst ys)):Vo K (fun _=>QS) a xs:=by
 rcases h with(h|⟨o,h⟩)|h
 .rw[l] at h;cases h
 .rw[l] at h;cases h
 .exact .inr h
mutual
theorem HC (f:∀b,O b->¬Z b->∃ys,H b=lD (.lst ys)):∀{v:V} {d:D},DV Z K H v d->Qt d=QW->DV O K H v d
 |_,_,.TL,_=> .TL
 |_,_,.bl b,_=> .bl b
 |_,_,.int i,_=> .int i
 |_,_,.str x,_=> .str x
 |_,_,.tup (a:=a) h hs,e=> .tup ⟨h.1,fun z=>by
   by_cases y:Z a
   .exact h.2 y
   .obtain⟨ys,q⟩:=f a z y;exact Ii h.1 q⟩ (ym f hs e)
 |_,_,.lst h hs,e=>by cases e
theorem ym (a:∀b,O b->¬Z b->∃ys,H b=lD (.lst ys)):∀{vs:List V} {ds:List D},S0 Z K H vs ds->No ds=QW->S0 O K H vs ds
 |_,_,.nil,_=> .nil
 |_,_,.cons h hs,e=>by have d:=Bool.and_eq_true_iff.mp e;exact .cons (HC a h d.1) (ym a hs d.2)
end
end
end L3
namespace PySem
end PySem
namespace PyProof.Rows
open PySem
section
variable {prog:Rt} {w:RM} {A:RG} {E:QT->Q0->Prop} {s:Q0}
theorem rn (b:h.get? a=lD (seqObj "list" vs.toArray n)):∃e,(sortedHeap h a vs out).get? a=lD (seqObj "list" out e):=by have d:=get?_update_seq b (fun _=> #[]);exact⟨_,get?_update_seq (Heap.get?_push_of_some _ (Heap.get?_push_of_some _ d)) _⟩
theorem pd (d:b≠a) (e:h.get? b=lD o):(sortedHeap h a vs out).get? b=lD o:=
 (Heap.get?_update_other _ _ (Ne.symm d)).trans (Heap.get?_push_of_some _ (Heap.get?_push_of_some _ ((Heap.get?_update_other _ _ (Ne.symm d)).trans e)))
theorem Al {l:QX} {vs:List QT} {i:List Int} {Q:QT->Q0->Prop} (j:s.heap.IsTuple l vs.toArray) (v:IntsAre vs i) (g:vs.length<64)
  (h:∀(a h':Heap) (out:Array QT) (e:Nat) (d:List Int),(∀b o,s.heap.get? b=lD o->a.get? b=lD o)->h'.get? a.objs.size=lD (seqObj "list" out e)->(∀b o,a.get? b=lD o->h'.get? b=lD o)->IntsAre out.toList d->d.Perm i->d.Pairwise (·<=·)->Q (.ref a.objs.size) {s with heap:=h'}):
  wpAny (model prog w) A (call (.builtin "sorted") [.ref l]) Q E s:=by
 obtain⟨o,p,u,n,t⟩:=j;refine Calls.call_function_entry kind_sorted plain_sorted entry_sorted (args_sorted1 _) (Ld (m:=checkCount "sorted" 1 1 _) (Q1 (Ld (wpAny_collect_seq l (.inr rfl) p u t (fun a q=>Ld (ahD ?_)) (by rw[Q9,Tv];omega)))));have f:(a.push (seqObj "list" vs.toArray 0)).get? a.objs.size=lD (seqObj "list" vs.toArray 0):=Heap.get?_push_size _ rfl;refine Ld (SG (S3 slot_list_sort ⟨_,f,rfl⟩ entry_list_sort (list_sort_tree f v g fun out d C B y=>⟨_,rfl,Q1 ⟨_,rfl,?_⟩⟩) (args_list_sort _)));obtain⟨e,r⟩:=rn (out:=out) f;exact h a _ out e d q r (fun b F z=>pd (Rr (Heap.lt_size z)) (Heap.get?_push_of_some _ z)) C B y
end
end PyProof.Rows
namespace L9
open PySem PySem.Spec PyProof.Rows L2 L3
section
variable {K:QR} {E:XK}
theorem vF:Us X (.builtin "sorted") (fun xs H Q=>∃(p:QX) (d:List Int),xs=[.ref p]/\Vo X.K H p (d.map V.int)/\d.length<64/\∀(l:QX) (a:List Int),H l=QS->a.Perm d->a.Pairwise (·<=·)->Q (.ref l) (bC H l (.lst (a.map V.int)))):=by
 intro g s B H xs C Q I r h;obtain⟨p,d,rfl,o,y,q⟩:=h;obtain⟨u,rfl,m⟩:=kM r;cases m;obtain⟨J,rv,pl,F⟩:=I.tuple o;have t:=rv.length;rw[QV] at t;refine Al pl (l8 rv) (by omega) fun z G f e a v w A hi i n=> ?_;have b:=i.length_eq;have j:=I.kept (t':=s.toks) v;refine⟨.ref z.objs.size,_,j.laid A (Q4 _) ?_,rfl,q _ a (j.Su.fresh (Q4 _)) i n⟩;refine⟨?_,f.toList,e,i9 hi,w⟩;rw[QV,b];have:(64:Nat)<=Q8:=by decide
 omega
theorem u7:Us X (.builtin "sorted") (fun xs H Q=>(∃(p:QX) (a:List Int),xs=[.ref p]/\VR X.K H p (a.map V.int)/\a.length<64/\∀(l:QX) (b:List Int),H l=QS->b.Perm a->b.Pairwise (·<=·)->Q (.ref l) (bC H l (.lst (b.map V.int))))\/
  (∃(p:QX) (a:List Int),xs=[.ref p]/\Vo X.K H p (a.map V.int)/\a.length<64/\∀(l:QX) (b:List Int),H l=QS->b.Perm a->b.Pairwise (·<=·)->Q (.ref l) (bC H l (.lst (b.map V.int))))):=L2.Us.or xQ vF
def gW:List D->Option RV
 |[.tuple ds]=>(match oH ds with
  |some a=>if a.length<64 then lD (.ow ((kr a).map .int)) else QS
  |none=>QS)
 |ds=>uY ds
theorem Ah:EB K (fun xs H Q=>(∃(p:QX) (b:List Int),xs=[.ref p]/\VR K H p (b.map V.int)/\b.length<64/\∀(l:QX) (d:List Int),H l=QS->d.Perm b->d.Pairwise (·<=·)->Q (.ref l) (bC H l (.lst (d.map V.int))))\/
  (∃(p:QX) (b:List Int),xs=[.ref p]/\Vo K H p (b.map V.int)/\b.length<64/\∀(l:QX) (d:List Int),H l=QS->d.Perm b->d.Pairwise (·<=·)->Q (.ref l) (bC H l (.lst (d.map V.int))))) gW:=by
 intro O H xs ds rv Q n g e q;unfold gW at e;split at e
 .split at e
  .rename_i b i
   split at e
   .rename_i hn
    cases e;cases g with
    |cons o m=>cases m;obtain⟨a,vs,rfl,h,r⟩:=Bu o;rw[qA r i] at h;refine .inr ⟨a,b,rfl,h.1,hn,fun l d j f dQ=> ?_⟩;have t:=k7 (f.trans (eU b).symm) dQ (eB b);subst t;exact q.new (rj _) l j
   .cases e
  .cases e
 .exact .inl (uH O H xs ds rv Q n g e q)
end
end L9
namespace L9
open PySem PySem.W PyProof.Rows Builtin Builtin.ObjectAttr
open PySem.Spec L2
open L3 L4
def LH:D->Option RV
 | .tuple ds=>lD (.fz (.tuple ds.reverse))
 |_=>QS
theorem AB {K:QR} {O:ci} {H:Hp}:∀{vs:List V} {ds:List D},S0 O K H vs ds->S0 O K H vs.reverse ds.reverse
 |_,_,.nil=> .nil
 |_,_,.cons h t=>by rw[S4,S4];exact(AB t).append (.cons h .nil)
theorem Mu {K:QR} {E:XK} {h:TE} {fa:FE} (ha:EO K E h fa):EO K E (Ox K h (FV (Qr (rU fun i=> .int (-i)) (tC (.int 1))))) (OH LH fa):=by
 intro B z O j H ρ Q R w;refine ha B z O j H ρ _ R (w.bind.imp fun a e A x C r g n=> ?_);obtain⟨d,l,e⟩:=e.Sh;obtain⟨rv,f,e⟩:=e.Sh;have dx:=pA g n l;unfold LH at f;split at f
 .cases f;obtain⟨b,vs,rfl,p,o⟩:=Bu dx;refine⟨1,rfl,-1,rfl,rfl,b,vs,rfl,p.1,?_⟩;exact Fin.aan (AB o) g.od (mi (rv:= .fz (.tuple _)) g fun u v y q t m=>e u v y (r.trans q) t m)
 .cases f
end L9
namespace LD
open PySem PyProof.Rows L2 L3
mutual
def kd:QZ->Bool
 | .none=>QW
 | .int _=>QW
 | .str x=>QZ.strOk x
 | .tuple xs=>kds xs
 |_=>Q2
def kds:List QZ->Bool
 |[]=>QW
 |x::r=>kd x&&kds r
end
def keyD:QZ->Bool
 | .tuple xs=>kds xs&&decide ((QZ.tuple xs).depth<=8)
 |_=>Q2
mutual
theorem kd_lay:∀d:QZ,kd d=QW->d.canLay0=QW
 | .none,_=>rfl
 | .int _,_=>rfl
 | .str x,h=>by unfold QZ.canLay0;unfold kd at h;exact h
 | .tuple xs,h=>by unfold QZ.canLay0;unfold kd at h;exact Au xs h
 | .bool _,h| .list _,h| .dict _,h=>by simp[kd] at h
theorem Au:∀xs:List QZ,kds xs=QW->QZ.canLayAll0 xs=QW
 |[],_=>rfl
 |x::r,h=>by unfold kds at h;rw[Rx] at h;unfold QZ.canLayAll0;rw[kd_lay x h.1,Au r h.2];rfl
end
mutual
theorem kd_eqv:∀d e:QZ,kd d=QW->kd e=QW->QZ.eqv d e=QW->d=e
 | .none,e,_,h,q=>by cases e<;>simp_all [kd,QZ.eqv]
 | .int i,e,_,h,q=>by cases e<;>simp_all [kd,QZ.eqv]
 | .str x,e,_,h,q=>by cases e<;>simp_all [kd,QZ.eqv]
 | .tuple xs,e,g,h,q=>by
  cases e with
  |tuple a=>rw[QZ.eqv] at q;unfold kd at g h;rw[kds_eqv xs a g h q]
  |_=>simp_all [kd,QZ.eqv]
 | .bool _,_,h,_,_| .list _,_,h,_,_| .dict _,_,h,_,_=>by simp[kd] at h
theorem kds_eqv:∀xs ys:List QZ,kds xs=QW->kds ys=QW->QZ.eqvAll xs ys=QW->xs=ys
 |[],[],_,_,_=>rfl
 |[],_::_,_,_,q=>by simp[QZ.eqvAll] at q
 |_::_,[],_,_,q=>by simp[QZ.eqvAll] at q
 |x::xs,y::ys,g,h,q=>by unfold kds at g h;rw[QZ.eqvAll] at q;rw[Rx] at g h q;rw[kd_eqv x y g.1 h.1 q.1,kds_eqv xs ys g.2 h.2 q.2]
end
theorem Fv [Decidable (d=e)] (hd:kd d=QW) (a:kd e=QW):QZ.eqv d e=decide (d=e):=by
 by_cases q:d=e
 .subst q;rw[decide_eq_true rfl];exact SeqAt.eqv_refl d (kd_lay d hd)
 .rw[decide_eq_false q]
  cases z:QZ.eqv d e with
  |false=>rfl
  |true=>exact absurd (kd_eqv d e hd a z) q
theorem keyD_kd (h:keyD d=QW):kd d=QW/\d.depth<=8:=by
 cases d with
 |tuple xs=>unfold keyD at h;rw[Rx] at h;exact⟨by unfold kd;exact h.1,of_decide_eq_true h.2⟩
 |_=>simp[keyD] at h
mutual
def sA (w:RM):QZ->Int
 | .none=>reduceHash 0xFCA86420
 | .int i=>hashInt i
 | .str x=>hashStr w x
 | .tuple xs=>reduceHash (Builtin.Tuple.tupleHashOf (tq w xs))
 |_=>0
def tq (w:RM):List QZ->List Int
 |[]=>[]
 |x::r=>sA w x::tq w r
end
mutual
def Pi:QZ->Nat
 | .tuple xs=>HD xs+1
 |_=>1
def HD:List QZ->Nat
 |[]=>0
 |x::r=>Pi x+HD r
end
section
variable {prog:Rt} {w:RM} {E:QT->Q0->Prop}
mutual
theorem BX:∀(d:QZ) (v:QT) (f:List QX) (A:RG) (s:Q0) (Q:Int->Q0->Prop),kd d=QW->abp s.heap v d f->A.units+d.depth<cLine->Q (sA w d) {s with toks:=s.toks+Pi d}->wpAny (model prog w) A (pyHash v) Q E s
 | .none,_,_,A,s,Q,_,r,hu,h=>by cases r;exact Y4 (T:= "NoneType") rfl F.slot_NoneType_hash F.entry_NoneType_hash (F.args_NoneType_hash_1 _) (adE _) (.inr (by omega)) (Ld (Q1 (Ld (wpAny_mkInt (Q1 ⟨_,_,rfl,h⟩)))))
 | .int i,_,_,A,s,Q,_,r,_,h=>by cases r;exact ads h
 | .str x,_,_,A,s,Q,_,r,_,h=>by cases r;exact adt h
 | .tuple xs,_,_,A,s,Q,hk,r,hu,h=>by
  cases r with
  | @tuple a o vs n _ _ h1 h2 h3 h4=>
   refine Y4 (T:= "tuple") ⟨_,h1,h2⟩ F.slot_tuple_hash F.entry_tuple_hash (F.args_tuple_hash_1 _) (adE _) (.inr (by omega)) ?_;show wpAny _ _ (Builtin.Tuple.tupleItemsOf (.ref a)>>=_) _ _ s;refine Ld (wpAny_tupleItemsOf h1 h3 ?_);refine Ld ?_;rw[<-aaa];unfold kd at hk;refine ur xs vs.toList _ A.in1 s #[] _ hk h4 (by simp only[QZ.depth,RG.in1_units] at hu⊢;omega) fun b e=> ?_;show wpAny _ _ (retInt (Builtin.Tuple.tupleHashOf b.toList)) _ _ _;rw[e];refine Ld (wpAny_mkInt (Q1 ⟨_,_,rfl,?_⟩));unfold sA Pi at h
   simpa [Xg] using h
 | .bool _,_,_,_,_,_,h,_,_,_| .list _,_,_,_,_,_,h,_,_,_| .dict _,_,_,_,_,_,h,_,_,_=>by simp[kd] at h
theorem ur:∀(xs:List QZ) (vs:List QT) (f:List QX) (A:RG) (s:Q0) (b:Array Int) (Q:Array Int->Q0->Prop),kds xs=QW->Ze s.heap vs xs f->A.units+QZ.depthAll xs<cLine->
  (∀b':Array Int,b'.toList=b.toList++tq w xs->Q b' {s with toks:=s.toks+HD xs})->
  wpAny (model prog w) A (forIn vs b fun x r=>do let h<-pyHash x;pure PUnit.unit;pure (ForInStep.yield (r.push h))) Q E s
 |[],_,_,A,s,b,Q,_,x,_,h=>by cases x;exact Q1 (h b (by simp[tq]))
 |k::xs,_,_,A,s,b,Q,hk,x,hu,h=>by
  cases x with
  |cons d a=>
   unfold kds at hk;simp only[Rx,QZ.depthAll] at hk hu;rw[U2];refine Ld (Ld (BX k _ _ A s _ hk.1 d (by omega) ?_));refine Ld (Q1 (Q1 ?_));refine ur xs _ _ A _ _ Q hk.2 a (by omega) fun b' e=> ?_;have:=h b' (by simp[e,tq]);unfold HD at this
   simpa [Xg] using this
end
theorem wU:∀(n:Nat) (d:QZ) (v:QT) (j:List QX) (A:RG) (s:Q0) (Q:Bool->Q0->Prop),kd d=QW->abp s.heap v d j->d.depth<=n->Q QW s->wpAny (model prog w) A (eqIsQuiet n v) Q E s
 |n,.none,_,_,A,s,Q,_,r,_,h=>by cases r;rw[Yc _ rfl];exact Q1 h
 |n,.int i,_,_,A,s,Q,_,r,_,h=>by cases r;rw[Yc _ rfl];exact Q1 h
 |n,.str i,_,_,A,s,Q,_,r,_,h=>by cases r;rw[Yc _ rfl];exact Q1 h
 |0,.tuple xs,_,_,A,s,Q,hk,r,hn,h=>by simp only[QZ.depth] at hn;omega
 |n+1,.tuple xs,_,_,A,s,Q,hk,r,hn,h=>by
  cases r with
  | @tuple a o vs m _ _ h1 h2 h3 h4=>
   have g:s.TypeIs (.ref a) "tuple":=⟨_,h1,h2⟩;simp only[QZ.depth] at hn;unfold eqIsQuiet;refine Ld (WW g F.slot_tuple_eq.lookup ?_);refine Ld (Wn g isSubtype_tuple_tuple ?_);simp only[YH,TJ,if_false];refine Ld (SH h1 h3 ?_);refine Ld ?_;rw[<-aaa];unfold kd at hk;refine wpAny_forIn_list _ (fun b r e=>r.1=QS/\e=s/\∃ys bs,kds ys=QW/\Ze s.heap b ys bs/\QZ.depthAll ys<=n) _ ?_ ?_ _ _ ⟨rfl,rfl,xs,_,hk,h4,by omega⟩
   .rintro v b r e ⟨f,rfl,ys,bs,k1,k2,k3⟩
    cases k2 with
    | @cons _ _ y ys' _ _ g1 g2=>unfold kds at k1;simp only[Rx,QZ.depthAll] at k1 k3;refine Ld (wU n y v _ A e _ k1.1 g1 (by omega) ?_);simp only[YH,TJ,if_false];exact Q1 ⟨rfl,rfl,ys',_,k1.2,g2,by omega⟩
   .rintro⟨p,l⟩ e ⟨f,rfl,_⟩;simp only at f;subst f;exact Q1 h
 |_,.bool _,_,_,_,_,_,h,_,_,_|_,.list _,_,_,_,_,_,h,_,_,_|_,.dict _,_,_,_,_,_,h,_,_,_=>by simp[kd] at h
end
mutual
theorem uh {h h':Heap} {x:QX} {b:Obj} {j:Array UH} {l:Nat} (e:h.get? x=lD b) (g:b.data= .dict j l) (f:Heap.SameBut x h h'):∀(d:QZ) (v:QT) (i:List QX),kd d=QW->abp h v d i->abp h' v d i
 | .none,_,_,_,r=>by cases r;exact .none
 | .int _,_,_,_,r=>by cases r;exact .int _ _
 | .str _,_,_,_,r=>by cases r;exact .str _ _
 | .tuple xs,_,_,k,r=>by
  cases r with
  | @tuple a o vs n _ _ h1 h2 h3 h4=>
   have m:a≠x:=by rintro rfl;rw[e] at h1;cases h1;rw[g] at h3;exact nomatch h3
   unfold kd at k;exact .tuple ((f.2 a m).trans h1) h2 h3 (sN e g f xs _ _ k h4)
 | .bool _,_,_,h,_| .list _,_,_,h,_| .dict _,_,_,h,_=>by simp[kd] at h
theorem sN {h h':Heap} {x:QX} {a:Obj} {l:Array UH} {m:Nat} (b:h.get? x=lD a) (f:a.data= .dict l m) (e:Heap.SameBut x h h'):∀(ds:List QZ) (vs:List QT) (g:List QX),kds ds=QW->Ze h vs ds g->Ze h' vs ds g
 |[],_,_,_,r=>by cases r;exact .nil
 |d::ds,_,_,k,r=>by
  cases r with
  |cons j i=>unfold kds at k;rw[Rx] at k;exact .cons (uh b f e d _ _ k.1 j) (sN b f e ds _ _ k.2 i)
end
abbrev KD:={d:QZ//keyD d=QW}
noncomputable instance kdDec:DecidableEq KD:=fun _ _=>Classical.propDecidable _
def hV (prog:Rt) (w:RM):HeapKind prog w KD where
 is:=fun h k a=>∃as,abp h (.ref a) k.1 as
 hash:=fun k=>sA w k.1
 draws:=fun k=>Pi k.1
 room:=fun A=>A.units+8<cLine
 inj:=fun⟨_,r⟩ ⟨_,f⟩=>Subtype.ext (abp.unique r _ _ f).1
 keeps:=fun{h h' k a d o es ep} ⟨as,r⟩ ho hd hs=>⟨as,uh ho hd hs k.1 _ _ (keyD_kd k.2).1 r⟩
 pyHash:=fun{A E s k a Q} hu ⟨as,r⟩ q=>BX k.1 _ as A s Q (keyD_kd k.2).1 r (by have:=(keyD_kd k.2).2;omega) q
 eqBool:=fun{A E s x y a b Q} hu ⟨as,r⟩ ⟨bs,f⟩ q=>SeqAt.eqAt_reads x.1 y.1 A s _ _ as bs r f (kd_lay _ (keyD_kd x.2).1) (kd_lay _ (keyD_kd y.2).1) (by have:=(keyD_kd x.2).2;omega) prog w E Q (by
  haveI:Decidable (x.1=y.1):=Classical.propDecidable _
  rw[Fv (keyD_kd x.2).1 (keyD_kd y.2).1];by_cases e:x=y
  .rw[decide_eq_true e] at q;rw[decide_eq_true (congrArg Subtype.val e)];exact q
  .rw[decide_eq_false e] at q;rw[decide_eq_false fun z=>e (Subtype.ext z)];exact q)
 quiet:=fun{A E s k a Q} ⟨as,r⟩ q=>wU 8 k.1 _ as A s Q (keyD_kd k.2).1 r (keyD_kd k.2).2 q
def Qx (a:QX) (xs:List (KD×QX×V)) (w:RM) (h:Heap):Prop:=
 (xs.length<=Q8/\(a==Ti)=Q2/\(xs.map (·.1)).Nodup)/\∃o es ep,h.get? a=lD o/\o.ExactDict/\o.data= .dict es ep/\Paired (fun(x:KD×QX×V) (e:UH)=>e.hash=sA w x.1.1/\e.key= .ref x.2.1/\RelV x.2.2 e.val) xs es.toList
abbrev DkO (a:QX) (xs:List (KD×QX×V)):HO:= .exw (Qx a xs)
abbrev PrD (O:ci) (K:QR) (H:Hp):List (KD×QX×V)->List (D×D)->Prop:=
 Paired fun x a=>x.1.1=a.1/\L3.DV O K H (.ref x.2.1) a.1/\L3.DV O K H x.2.2 a.2
end LD
namespace L10
open PySem L2 L3
inductive AV where
 |fz (d:D)
 |rf (i:Nat)
inductive SV where
 |fz (d:D)
 |rf (i:Nat)
 |tp (l:List AV)
def AV.sv:AV->SV
 | .fz d=> .fz d
 | .rf i=> .rf i
inductive Cell where
 |lst (xs:List SV)
 |Xd (Rz:List (cH×SV))
 |obj (C:Str) (fs:List (Str×SV))
 |dd (Rz:List (D×D))
 |dead
abbrev a9:=List Cell
abbrev bx:=List (Option SV)
inductive RS (α:Type) where
 |ok (a:α) (Z:a9)
 |er (x:Xc) (Z:a9)
 |bad
def RS.bind (r:RS α) (f:α->a9->RS β):RS β:=match r with
 | .ok a Z=>f a Z
 | .er x Z=> .er x Z
 | .bad=> .bad
def RS.Sh (Z:a9):Option α->RS α
 |some a=> .ok a Z
 |none=> .bad
theorem RS.bind_ok (a:α) (Z:a9) (f:α->a9->RS β):(RS.ok a Z).bind f=f a Z:=rfl
def Lv (α:List QX) (Z:a9):ci:=fun b=>∃(i:Nat) (c:Cell),α[i]? =lD b/\Z[i]? =lD c/\c≠Cell.dead
def ow (B:ci) (α:List QX) (Z:a9):ci:=fun b=>B b\/Lv α Z b
section
variable (O:ci) (K:QR) (H:Hp) (Z:List QX)
def AOk (v:V):AV->Prop
 | .fz d=>DV O K H v d
 | .rf i=>∃a,Z[i]? =lD a/\v= .ref a
def Uw (v:V):SV->Prop
 | .fz d=>DV O K H v d
 | .rf i=>∃a,Z[i]? =lD a/\v= .ref a
 | .tp l=>∃a xs,v= .ref a/\V2 O K H a xs/\Paired (AOk O K H Z) xs l
abbrev Um:List V->List SV->Prop:=Paired (Uw O K H Z)
def COk (a:QX):Cell->Prop
 | .lst xs=>∃vs,H a=lD (.lst vs)/\Um O K H Z vs xs
 | .Xd Rz=>∃ws:List (cH×V),H a=lD (.dK ws)/\Paired (fun(p:cH×V) (q:cH×SV)=>p.1=q.1/\Uw O K H Z p.2 q.2) ws Rz
 | .obj C fs=>∃Ca dx ws,Rp K Rk C=lD (lD (.ref Ca))/\H a=lD (.ins Ca dx ws)/\Paired (fun(p:Str×V) (q:Str×SV)=>p.1=q.1/\Uw O K H Z p.2 q.2) ws fs
 | .dd Rz=>∃xs,H a=lD (LD.DkO a xs)/\LD.PrD O K H xs Rz
 | .dead=>True
def Ug (a:L2.St) (ρ:bx):Prop:=a.length=ρ.length/\∀(i:Nat) (x:SV),ρ[i]? =lD (lD x)->∃v,a[i]? =lD (lD v)/\Uw O K H Z v x
end
structure RF (B:ci) (K:QR) (H:Hp) (α:List QX) (Z:a9):Prop where
 len:α.length=Z.length
 nd:∀(i j:Nat) (a:QX),α[i]? =lD a->α[j]? =lD a->i=j
 bn:∀a,B a->H a≠QS
 ba:∀a,B a->∀i:Nat,α[i]?≠lD a
 al:∀(i:Nat) (a:QX),α[i]? =lD a->H a≠QS
 Ye:∀(i:Nat) (a:QX) (c:Cell),α[i]? =lD a->Z[i]? =lD c->COk (ow B α Z) K H α a c
structure Ta (α:List QX) (Z:a9) (H:Hp) (α':List QX) (Z':a9) (H':Hp):Prop where
 pre:∀(i:Nat) (a:QX),α[i]? =lD a->α'[i]? =lD a
 kp:∀b o,H b=lD o->¬Lv α Z b->H' b=lD o
 lv:∀b,Lv α' Z' b->Lv α Z b\/H b=QS
section
variable {B O Q:ci} {K:QR} {E:XK} {H H' R N:Hp} {Y X U S:List QX} {Z T Z1 M:a9} {σ:L2.St} {ρ:bx} {v:V}
theorem Ta.refl:Ta Y Z H Y Z H:=⟨fun _ _ h=>h,fun _ _ h _=>h,fun _ h=> .inl h⟩
theorem Ta.trans (a:Ta Y Z H U Z1 R) (b:Ta U Z1 R S M N):Ta Y Z H S M N:=by
 have d:∀b o,H b=lD o->¬Lv Y Z b->¬Lv U Z1 b:=fun b o h n z=>(a.lv b z).elim n fun q=>by rw[h] at q;cases q
 refine⟨fun i p h=>b.pre i p (a.pre i p h),fun p o h n=>b.kp p o (a.kp p o h n) (d p o h n),fun p h=> ?_⟩;rcases b.lv p h with h|h
 .exact a.lv p h
 .cases q:H p with
  |none=>exact .inr rfl
  |some o=>refine .inl (Classical.byContradiction fun n=> ?_);rw[a.kp p o q n] at h;cases h
theorem Ta.same (s:S6 H H'):Ta Y Z H Y Z H':=⟨fun _ _ h=>h,fun b o h _=>s b o h,fun _ h=> .inl h⟩
theorem Ta.ev (e:Ta Y Z H X T H'):Ev (ow B Y Z) H (ow B X T) H':=fun b o h n=>
 ⟨e.kp b o h fun z=>n (.inr z),fun z=>z.elim (fun q=>n (.inl q)) fun q=>(e.lv b q).elim (fun q=>n (.inr q)) fun q=>by rw[h] at q;cases q⟩
theorem AOk.ev (e:Ev O H Q H') (p:∀(i:Nat) (a:QX),Y[i]? =lD a->X[i]? =lD a) (h:AOk O K H Y v x):AOk Q K H' X v x:=by
 cases x with
 |fz d=>exact DV.ev e h
 |rf i=>obtain⟨a,f,b⟩:=h;exact⟨a,p i a f,b⟩
theorem Uw.ev (e:Ev O H Q H') (p:∀(i:Nat) (a:QX),Y[i]? =lD a->X[i]? =lD a) (h:Uw O K H Y v x):Uw Q K H' X v x:=by
 cases x with
 |fz d=>exact DV.ev e h
 |rf i=>obtain⟨a,f,b⟩:=h;exact⟨a,p i a f,b⟩
 |tp l=>obtain⟨a,xs,f,b,g⟩:=h;exact⟨a,xs,f,b.ev e,Paired.Vn g fun _ _ q=>q.ev e p⟩
theorem Uw.TU (e:Ta Y Z H X T H') (h:Uw (ow B Y Z) K H Y v x):Uw (ow B X T) K H' X v x:=h.ev e.ev e.pre
theorem Um.TU (e:Ta Y Z H X T H') (h:Um (ow B Y Z) K H Y vs xs):Um (ow B X T) K H' X vs xs:=Paired.Vn h fun _ _ q=>q.TU e
theorem Ug.TU (e:Ta Y Z H X T H') (h:Ug (ow B Y Z) K H Y σ ρ):Ug (ow B X T) K H' X σ ρ:=⟨h.1,fun i x q=>let⟨v,h1,h2⟩:=h.2 i x q;⟨v,h1,h2.TU e⟩⟩
theorem COk.ev (e:Ev O H Q H') (p:∀(i:Nat) (a:QX),Y[i]? =lD a->X[i]? =lD a) (ha:∀o,H a=lD o->H' a=lD o) (h:COk O K H Y a c):COk Q K H' X a c:=by
 cases c with
 |lst xs=>obtain⟨vs,d,b⟩:=h;exact⟨vs,ha _ d,Paired.Vn b fun _ _ q=>q.ev e p⟩
 |Xd Rz=>obtain⟨ws,d,b⟩:=h;exact⟨ws,ha _ d,Paired.Vn b fun _ _ q=>⟨q.1,q.2.ev e p⟩⟩
 |obj C fs=>obtain⟨g,dx,ws,f,d,b⟩:=h;exact⟨g,dx,ws,f,ha _ d,Paired.Vn b fun _ _ q=>⟨q.1,q.2.ev e p⟩⟩
 |dd Rz=>obtain⟨xs,d,b⟩:=h;exact⟨xs,ha _ d,Paired.Vn b fun _ _ q=>⟨q.1,q.2.1.ev e,q.2.2.ev e⟩⟩
 |dead=>trivial
theorem RF.Y9 (s:RF B K H Y Z):ph (ow B Y Z) H:=fun a h z=>z.elim (fun q=>s.bn a q h) fun⟨i,c,q,_⟩=>s.al i a q h
theorem RF.owd (s:RF B K H Y Z):∀a,ow B Y Z a->H a≠QS:=fun a z h=>s.Y9 a h z
theorem RF.grow (s:RF B K H Y Z) (e:S6 H H'):RF B K H' Y Z:=by have n:∀a,H a≠QS->H' a≠QS:=fun a h z=>h (e.free z);exact⟨s.len,s.nd,fun a h=>n a (s.bn a h),s.ba,fun i a h=>n a (s.al i a h),fun i a c d b=>(s.Ye i a c d b).ev (Ev.grow e) (fun _ _ h=>h) fun o h=>e _ _ h⟩
theorem RF.at (s:RF B K H Y Z) {i:Nat} (h:Z[i]? =lD c):∃a,Y[i]? =lD a:=by have:i<Z.length:=(QU.mp h).1;rw[<-s.len] at this;exact⟨_,Q5 this⟩
theorem RF.abA (s:RF B K H Y Z) {i:Nat} (h:Y[i]? =lD a):¬B a:=fun z=>s.ba a z i h
theorem zK {i:Nat} {c l:Cell} (h:Z[i]? =lD c) (m:c≠ .dead) (n:l≠ .dead) {b:QX}:Lv Y (Z.set i l) b↔Lv Y Z b:=by
 constructor
 .rintro⟨j,d,f,a,g⟩
  rcases cA a with⟨rfl,rfl⟩|⟨_,a⟩
  .exact⟨j,c,f,h,m⟩
  .exact⟨j,d,f,a,g⟩
 .rintro⟨j,d,f,a,g⟩
  by_cases e:j=i
  .subst e;exact⟨j,l,f,by rw[Ss (QU.mp h).1],n⟩
  .exact⟨j,d,f,by rw[Sd (fun z=>e z.symm)];exact a,g⟩
theorem MN (h:Z[i]? =lD c) (a:c≠ .dead) (d:c'≠ .dead):ow B Y (Z.set i c')=ow B Y Z:=by funext b;exact propext ⟨fun z=>z.imp id (zK h a d).mp,fun z=>z.imp id (zK h a d).mpr⟩
theorem Ta.put (ha:Y[i]? =lD a) (h:Z[i]? =lD c) (d:c≠ .dead) (f:c'≠ .dead):Ta Y Z H Y (Z.set i c') (bC H a o):=
 ⟨fun _ _ h=>h,fun b g q n=>by have z:b≠a:=fun e=>n ⟨i,c,by rw[e];exact ha,h,d⟩;rw[aH z];exact q,fun b z=> .inl ((zK h d f).mp z)⟩
theorem RF.put (s:RF B K H Y Z) (ha:Y[i]? =lD a) (h:Z[i]? =lD c) (l:c≠ .dead) (m:c'≠ .dead) (new:COk (ow B Y Z) K (bC H a o) Y a c'):RF B K (bC H a o) Y (Z.set i c'):=by
 have e:Ta Y Z H Y (Z.set i c') (bC H a o):=Ta.put ha h l m;have n:∀b,H b≠QS->bC H a o b≠QS:=fun b h=>by
  by_cases z:b=a
  .subst z;rw[aM];simp
  .rw[aH z];exact h
 refine⟨by rw[Sg];exact s.len,s.nd,fun b h=>n b (s.bn b h),s.ba,fun j b h=>n b (s.al j b h),fun j b d f g=> ?_⟩;rcases cA g with⟨rfl,rfl⟩|⟨p,g⟩
 .rw[ha] at f;cases f;rw[MN h l m];exact new
 .exact(s.Ye j b d f g).ev e.ev e.pre fun u q=>by rw[aH (fun z=>p (s.nd j i a (by rw[<-z];exact f) ha))];exact q
theorem rS {i:Nat} {a:QX} {c:Cell} {o:HO} (ha:Y[i]? =lD a) (h:Z[i]? =lD c) (b:c≠ .dead):Ev (ow B Y Z) H (ow B Y Z) (bC H a o):=Ev.mut (.inr ⟨i,c,ha,h,b⟩) o
theorem bE {Y:Type} {l:List Y} {x y:Y} {i:Nat} (h:(l++[x])[i]? =lD y):l[i]? =lD y\/(i=l.length/\y=x):=by
 by_cases hi:i<l.length
 .rw[Ra hi] at h;exact .inl h
 .rw[RE (by omega)] at h
  cases q:i - l.length with
  |zero=>rw[q] at h;cases h;exact .inr ⟨by omega,rfl⟩
  |succ n=>rw[q] at h;cases h
theorem eN {Y:Type} {l:List Y} {x y:Y} {i:Nat} (h:l[i]? =lD y):(l++[x])[i]? =lD y:=by rw[Ra (QU.mp h).1];exact h
theorem aY:(l++[x])[l.length]? =lD x:=by simp
theorem sj (g:Y.length=Z.length) (h:Lv (Y++[p]) (Z++[c]) b):Lv Y Z b\/b=p:=by
 obtain⟨i,d,a,e,f⟩:=h;rcases bE a with a|⟨e1,e2⟩
 .rcases bE e with e|⟨e1,e2⟩
  .exact .inl ⟨i,d,a,e,f⟩
  .have:=(QU.mp a).1;omega
 .exact .inr e2
theorem Ta.Yf (f:Y.length=Z.length) (s:S6 H H') (d:H p=QS):Ta Y Z H (Y++[p]) (Z++[c]) H':=
 ⟨fun i a h=>eN h,fun b u q _=>s b u q,fun b z=>(sj f z).imp id fun e=>by rw[e];exact d⟩
theorem RF.Yf (s:RF B K H Y Z) (e:S6 H H') (l:H p=QS) (m:H' p≠QS) (new:COk (ow B (Y++[p]) (Z++[c])) K H' (Y++[p]) p c):RF B K H' (Y++[p]) (Z++[c]):=by
 have ev:Ta Y Z H (Y++[p]) (Z++[c]) H':=Ta.Yf s.len e l;have n:∀b,H b≠QS->H' b≠QS:=fun b h z=>h (e.free z);refine⟨by rw[Q3,Q3,s.len];rfl,fun i j a f g=> ?_,fun a h=>n a (s.bn a h),fun a h i q=> ?_,fun i a h=> ?_,fun i a d f g=> ?_⟩
 .rcases bE f with g1|⟨e1,e2⟩<;>rcases bE g with g2|⟨e3,e4⟩
  .exact s.nd i j a g1 g2
  .exact absurd (by rw[e4];exact l) (s.al i a g1)
  .exact absurd (by rw[e2];exact l) (s.al j a g2)
  .omega
 .rcases bE q with q|⟨_,e2⟩
  .exact s.ba a h i q
  .subst e2;exact s.bn a h l
 .rcases bE h with h|⟨_,e2⟩
  .exact n a (s.al i a h)
  .subst e2;exact m
 .rcases bE g with g|⟨e1,e2⟩
  .rcases bE f with f|⟨e1,_⟩
   .exact(s.Ye i a d f g).ev ev.ev ev.pre fun o q=>e _ _ q
   .have:=(QU.mp g).1;have:=s.len;omega
  .rcases bE f with f|⟨_,e3⟩
   .have:=(QU.mp f).1;have:=s.len;omega
   .subst e2 e3;exact new
def WS (K:QR) (E:XK) (B:ci) (H:Hp) (Y:List QX) (Z:a9) (P:A->List QX->a9->Hp->Prop):RS A->Prop
 | .ok a T=>∀X H',Ta Y Z H X T H'->RF B K H' X T->P a X T H'
 | .er x T=>∀c dx X H',Ta Y Z H X T H'->RF B K H' X T->XOk K (ow B X T) H' c dx x->E c dx H'
 | .bad=>False
theorem WS.from (e:Ta Y Z H U Z1 R) (h:WS K E B H Y Z P r):WS K E B R U Z1 P r:=by
 cases r with
 |ok a M=>exact fun S N d b=>h S N (e.trans d) b
 |er x M=>exact fun c dx S N d b=>h c dx S N (e.trans d) b
 |bad=>exact h
theorem WS.bind (h:WS K E B H Y Z P (r.bind k)):WS K E B H Y Z (fun a U Z1 R=>WS K E B R U Z1 P (k a Z1)) r:=by
 cases r with
 |ok a Z1=>exact fun U R b _=>WS.from b h
 |er x Z1=>exact h
 |bad=>exact h
theorem WS.Sh (h:WS K E B H Y Z P ((RS.Sh Z o).bind k)):∃a,o=lD a/\WS K E B H Y Z P (k a Z):=by
 cases o with
 |none=>exact h.elim
 |some a=>exact⟨a,rfl,h⟩
theorem WS.imp (h:WS K E B H Y Z P r) (g:∀a X T H',Ta Y Z H X T H'->RF B K H' X T->P a X T H'->P' a X T H'):WS K E B H Y Z P' r:=by
 cases r with
 |ok a Z1=>exact fun U R d b=>g a U Z1 R d b (h U R d b)
 |er x Z1=>exact h
 |bad=>exact h
theorem WS.now (s:RF B K H Y Z) (h:WS K E B H Y Z P (.ok a Z)):P a Y Z H:=h Y H .refl s
end
abbrev dC:=bx->a9->RS SV
abbrev vg:=bx->a9->RS Bool
abbrev yp:=bx->a9->RS (List SV)
def dc (K:QR) (E:XK) (t:TE) (f:dC):Prop:=
 ∀(B:ci) (b:L2.St) (H:Hp) (α:List QX) (Z:a9) (ρ:bx) (Q:VK),RF B K H α Z->Ug (ow B α Z) K H α b ρ->WS K E B H α Z (fun x a e d=>∀v,Uw (ow B a e) K d a v x->Q v d) (f ρ Z)->t b H Q
def yk (K:QR) (E:XK) (t:TT) (f:vg):Prop:=
 ∀(B:ci) (a:L2.St) (H:Hp) (α:List QX) (Z:a9) (ρ:bx) (Q:Bool->Hp->Prop),RF B K H α Z->Ug (ow B α Z) K H α a ρ->WS K E B H α Z (fun b _ _ d=>Q b d) (f ρ Z)->t a H Q
def wS (K:QR) (E:XK) (t:TA) (f:yp):Prop:=
 ∀(B:ci) (b:L2.St) (H:Hp) (α:List QX) (Z:a9) (ρ:bx) (Q:List V->Hp->Prop),RF B K H α Z->Ug (ow B α Z) K H α b ρ->WS K E B H α Z (fun xs a e d=>∀vs,Um (ow B a e) K d a vs xs->Q vs d) (f ρ Z)->t b H Q
section
variable {B O M:ci} {K:QR} {E:XK} {H H' T H2:Hp} {Y N X J:List QX} {Z Z' Z1 P:a9} {U:L2.St} {ρ:bx} {v:V}
def KF:Option SV->Option PV
 |some (.fz d)=>lD (.fz d)
 |_=>QS
def cy (ρ:bx):bt:=ρ.map KF
theorem uF {i:Nat} (h:(cy ρ)[i]? =lD (lD x)):∃d,x= .fz d/\ρ[i]? =lD (lD (.fz d)):=by
 unfold cy at h;rw[Q7] at h;cases q:ρ[i]? with
 |none=>rw[q] at h;cases h
 |some o=>
  rw[q] at h;have a:=Rm h;unfold KF at a;split at a
  .cases a;exact⟨_,rfl,rfl⟩
  .cases a
theorem D2 (s:RF B K H Y Z) (a:Ug (ow B Y Z) K H Y U ρ):Rl K (ow B Y Z) H (ow B Y Z) U H (cy ρ):=by
 refine⟨S6.refl _,fun _ h=>h,s.owd,s.Y9,by unfold cy;rw[QV];exact a.1,fun i x h=> ?_,fun i j ds l w h=> ?_⟩
 .obtain⟨d,rfl,b⟩:=uF h;obtain⟨v,g,f⟩:=a.2 i _ b;exact⟨v,g,f⟩
 .obtain⟨d,e,_⟩:=uF h;cases e
def kO (Z:a9):RV->RS SV
 | .fz d=> .ok (.fz d) Z
 | .ow ds=> .ok (.rf Z.length) (Z++[.lst (ds.map .fz)])
abbrev PQ (B:ci) (K:QR) (Q:VK):SV->List QX->a9->Hp->Prop:=fun x N Z' H'=>∀v,Uw (ow B N Z') K H' N v x->Q v H'
theorem lY (O:ci) (Y:List QX):∀{vs:List V} {ds:List D},S0 O K H vs ds->Um O K H Y vs (ds.map .fz)
 |_,_,.nil=> .nil
 |_,_,.cons h t=> .cons h (lY O Y t)
theorem FW:∀{vs:List V} {ds:List D},Um O K H Y vs (ds.map .fz)->S0 O K H vs ds
 |_,[],.nil=> .nil
 |_,_::_,.cons h t=> .cons h (FW t)
theorem tt (s:RF B K H Y Z) (w:WS K E B H Y Z (PQ B K Q) (kO Z (.ow ds))) (e:S6 H H') (a:H p=QS) (h:H' p=lD (.lst vs)) (hd:S0 M K H' vs ds) (d:∀b,ow B Y Z b->M b) (f:M p):Q (.ref p) H':=by
 have sub:∀b,ow B (Y++[p]) (Z++[.lst (ds.map .fz)]) b->M b:=fun b z=>z.elim (fun q=>d b (.inl q)) fun q=>(sj s.len q).elim (fun q=>d b (.inr q)) fun q=>by rw[q];exact f
 exact w (Y++[p]) H' (Ta.Yf s.len e a) (s.Yf e a (by rw[h];simp) ⟨vs,h,lY _ _ (hd.ev (Ev.sub sub))⟩) (.ref p) ⟨p,by rw[<-s.len];exact aY,rfl⟩
theorem G2 (s:RF B K H Y Z) (w:WS K E B H Y Z (PQ B K Q) (kO Z rv)):Fin (ow B Y Z) K H Q rv:=by
 cases rv with
 |fz d=>exact fun v H' e a=>w Y H' (Ta.same e) (s.grow e) v a
 |ow ds=>exact fun p vs H' e f h a=>tt s w e f h a (fun b z=> .inl z) (.inr rfl)
def ag (f:FE):dC:=fun ρ Z=>match f (cy ρ) with
 | .ok (.fz d,_)=> .ok (.fz d) Z
 | .ok (.ow ds,_)=>kO Z (.ow ds)
 | .ok (.pl _,_)=> .bad
 | .er x=> .er x Z
 | .bad=> .bad
theorem ao (h:EO K E t f):dc K E t (ag f):=by
 intro B U H Y Z ρ Q s g w;refine h (ow B Y Z) H (ow B Y Z) U H (cy ρ) Q (D2 s g) ?_;unfold ag at w;cases q:f (cy ρ) with
 |bad=>rw[q] at w;exact w.elim
 |er x=>rw[q] at w;exact fun c dx H' e k=>w c dx Y H' (Ta.same e) (s.grow e) k
 |ok r=>
  obtain⟨pv,b⟩:=r;rw[q] at w;intro M v H' e R p;cases pv with
  |fz d=>exact w Y H' (Ta.same R.same) (s.grow R.same) v (DV.ev (Ev.sub R.bo) p)
  |ow ds=>obtain⟨a,vs,rfl,n,m,l,j,o⟩:=p;exact tt s w R.same m l j R.bo n
  |pl i=>exact w.elim
def bT (f:FT):vg:=fun ρ Z=>match f (cy ρ) with
 | .ok (b,_)=> .ok b Z
 | .er x=> .er x Z
 | .bad=> .bad
theorem i8 (h:Zw K E t f):yk K E t (bT f):=by
 intro B U H Y Z ρ Q s d w;refine h (ow B Y Z) H (ow B Y Z) U H (cy ρ) Q (D2 s d) ?_;unfold bT at w;cases q:f (cy ρ) with
 |bad=>rw[q] at w;exact w.elim
 |er x=>rw[q] at w;exact fun c dx H' e k=>w c dx Y H' (Ta.same e) (s.grow e) k
 |ok r=>obtain⟨b,a⟩:=r;rw[q] at w;exact fun M H' e R=>w Y H' (Ta.same R.same) (s.grow R.same)
def az (i:Nat):dC:=fun ρ Z=>match ρ[i]? with
 |some (lD x)=> .ok x Z
 |_=> .bad
theorem aU:dc K E (yh i) (az i):=by
 intro B U H Y Z ρ Q s a w;unfold az at w;cases q:ρ[i]? with
 |none=>rw[q] at w;exact w.elim
 |some o=>
  cases o with
  |none=>rw[q] at w;exact w.elim
  |some x=>rw[q] at w;obtain⟨v,d,b⟩:=a.2 i x q;exact⟨v,d,WS.now s w v b⟩
def gC (K:QR) (C:Str) (fs:List Str):Prop:=∃Ca,Rp K Rk C=lD (lD (.ref Ca))/\Zl K Ca/\∀f∈fs,Vr K Ca f
def bv (C f:Str) (e:dC):dC:=fun ρ Z=>(e ρ Z).bind fun x Z1=>match x with
 | .rf i=>(match Z1[i]? with
  |some (.obj D fs)=>if D=C then RS.Sh Z1 (fs.lookup f) else .bad
  |_=> .bad)
 |_=> .bad
theorem ut:∀{ws:List (Str×V)} {fs:List (Str×SV)},Paired (fun(p:Str×V) (q:Str×SV)=>p.1=q.1/\Uw O K H Y p.2 q.2) ws fs->fs.lookup f=lD x->∃v,ws.lookup f=lD v/\Uw O K H Y v x
 |_,_,.nil,h=>by cases h
 |(a,v)::ws,(b,y)::fs,.cons ⟨h1,h2⟩ t,h=>by
  cases h1;rw[Rn] at h⊢;split at h
  .cases h;exact⟨v,rfl,h2⟩
  .exact ut t h
theorem uC:∀{ws:List (Str×V)} {fs:List (Str×SV)},Paired (fun(p:Str×V) (q:Str×SV)=>p.1=q.1/\Uw O K H Y p.2 q.2) ws fs->fs.lookup f=QS->ws.lookup f=QS
 |_,_,.nil,h=>rfl
 |(a,v)::ws,(b,y)::fs,.cons ⟨h1,h2⟩ t,h=>by
  cases h1;rw[Rn] at h⊢;split at h
  .cases h
  .exact uC t h
theorem cz (p:gC K C L) (o:f∈L) (ha:dc K E ta fa):dc K E (Mp K ta f) (bv C f fa):=by
 intro B U H Y Z ρ Q s j w;refine ha B U H Y Z ρ _ s j (w.bind.imp fun x X Z1 T I e b v m=> ?_);cases x with
 |fz d=>exact b.elim
 |tp l=>exact b.elim
 |rf i=>
  obtain⟨a,ha,rfl⟩:=m;dsimp only at b;cases q:Z1[i]? with
  |none=>rw[q] at b;exact b.elim
  |some c=>
   rw[q] at b;cases c with
   |obj D fs=>
    dsimp only at b;by_cases z:D=C
    .subst z
     rw[if_pos rfl] at b;obtain⟨G,dx,ws,y,t,r⟩:=e.Ye i a _ ha q;cases ql:fs.lookup f with
     |none=>rw[ql] at b;exact b.elim
     |some x=>rw[ql] at b;obtain⟨u,n,h⟩:=ut r ql;obtain⟨R,g,F,A⟩:=p;rw[y] at g;cases g;exact⟨a,G,dx,ws,u,rfl,t,F,A f o,n,WS.now e b u h⟩
    .rw[if_neg z] at b;exact b.elim
   |_=>exact b.elim
def aQ {Y a:Type} (f:Y->Option a):List Y->Option (List a)
 |[]=>lD []
 |x::r=>match f x with
  |some y=>(match aQ f r with
   |some b=>lD (y::b)
   |none=>QS)
  |none=>QS
def C1:Nat->a9->SV->Option D
 |_,_,.fz d=>lD d
 |0,_,_=>QS
 |n+1,Z,.rf i=>match Z[i]? with
  |some (.lst xs)=>(aQ (C1 n Z) xs).map .list
  |_=>QS
 |n+1,Z,.tp l=>(aQ (fun x=>C1 n Z x.sv) l).map .tuple
theorem cR {Y a:Type} {f:Y->Option a} {R:V->Y->Prop} {S:V->a->Prop} (h:∀v x y,R v x->f x=lD y->S v y):∀{vs:List V} {xs:List Y} {d:List a},Paired R vs xs->aQ f xs=lD d->Paired S vs d
 |_,_,_,.nil,e=>by cases e;exact .nil
 |_,_,_,.cons (b:=x) (l₂:=xs) r t,e=>by
  unfold aQ at e;cases q:f x with
  |none=>rw[q] at e;cases e
  |some y=>
   rw[q] at e;dsimp only at e;cases q2:aQ f xs with
   |none=>rw[q2] at e;cases e
   |some d=>rw[q2] at e;cases e;exact .cons (h _ _ _ r q) (cR h t q2)
theorem jD:∀{vs:List V} {ds:List D},Paired (DV O K H) vs ds->S0 O K H vs ds
 |_,_,.nil=> .nil
 |_,_,.cons h t=> .cons h (jD t)
theorem KH:Ev O H Y9 H:=Ev.sub fun _ z=>z.elim
theorem lh (s:RF B K H Y Z):∀(n:Nat) {v:V} {x:SV} {d:D},Uw (ow B Y Z) K H Y v x->C1 n Z x=lD d->DV Y9 K H v d
 |n,v,.fz d',d,h,e=>by
  have g:lD d'=lD d:=by cases n<;>exact e
  cases g;exact DV.ev KH h
 |0,v,.rf i,d,h,e=>by cases e
 |0,v,.tp l,d,h,e=>by cases e
 |n+1,v,.rf i,d,h,e=>by
  obtain⟨a,ha,rfl⟩:=h;unfold C1 at e;cases q:Z[i]? with
  |none=>rw[q] at e;cases e
  |some c=>
   rw[q] at e;cases c with
   |lst xs=>
    dsimp only at e;cases q2:aQ (C1 n Z) xs with
    |none=>rw[q2] at e;cases e
    |some ds=>rw[q2] at e;cases e;obtain⟨vs,f,b⟩:=s.Ye i a _ ha q;exact .lst ⟨Vb.of f,fun z=>z.elim⟩ (jD (cR (R:=Uw (ow B Y Z) K H Y) (fun v x y r e=>lh s n r e) b q2))
   |_=>cases e
 |n+1,v,.tp l,d,h,e=>by
  obtain⟨a,xs,rfl,f,b⟩:=h;unfold C1 at e;cases q2:aQ (fun x=>C1 n Z x.sv) l with
  |none=>rw[q2] at e;cases e
  |some ds=>rw[q2] at e;cases e;exact .tup (f.ev KH) (jD (cR (fun v x y r e=>lh s n (by cases x<;>exact r) e) b q2))
def wF:SV->Option D
 | .fz d=>lD d
 |_=>QS
def sh (Z:a9):SV->Option D
 | .fz d=>lD d
 | .rf i=>match Z[i]? with
  |some (.lst xs)=>(aQ wF xs).map .list
  |_=>QS
 | .tp _=>QS
theorem DN (s:RF B K H Y Z) (h:Uw (ow B Y Z) K H Y v x) (e:sh Z x=lD d):DX (ow B Y Z) K H v d:=by
 cases x with
 |fz g=>cases e;exact DV.x h
 |tp l=>cases e
 |rf i=>
  obtain⟨a,ha,rfl⟩:=h;unfold sh at e;dsimp only at e;cases q:Z[i]? with
  |none=>rw[q] at e;cases e
  |some c=>
   rw[q] at e;cases c with
   |lst xs=>
    dsimp only at e;cases q2:aQ wF xs with
    |none=>rw[q2] at e;cases e
    |some ds=>
     rw[q2] at e;cases e;obtain⟨vs,f,b⟩:=s.Ye i a _ ha q;refine⟨a,vs,rfl,Vb.of f,jD (cR (fun v x y r e=> ?_) b q2)⟩;cases x with
     |fz d=>cases e;exact r
     |rf i=>cases e
     |tp l=>cases e
   |_=>cases e
def JV:D->Bool
 | .none=>QW
 | .bool _=>QW
 | .int _=>QW
 | .str _=>QW
 |_=>Q2
theorem IU (h:JV d=QW) (a:DV O K H v d):DV M K H' v d:=by
 cases a with
 |TL=>exact .TL
 |bl b=>exact .bl b
 |int i=>exact .int i
 |str x=>exact .str x
 |tup _ _=>cases h
 |lst _ _=>cases h
def xt (Z:a9):RV->RS SV
 | .fz d=>if JV d=QW then .ok (.fz d) Z else .bad
 | .ow _=> .bad
theorem EU (s:RF B K H Y Z) (w:WS K E B H Y Z (PQ B K Q) (xt Z rv)):Fin Y9 K H Q rv:=by
 cases rv with
 |fz d=>
  have w:WS K E B H Y Z (PQ B K Q) (if JV d=QW then RS.ok (SV.fz d) Z else RS.bad):=w;by_cases z:JV d=QW
  .rw[if_pos z] at w;exact fun v H' e a=>w Y H' (Ta.same e) (s.grow e) v (IU z a)
  .rw[if_neg z] at w;exact w.elim
 |ow ds=>exact w.elim
theorem D4:ph Y9 H:=fun _ _ z=>z
def oz (f:D->D->Option RV) (x y:SV) (Z:a9):RS SV:=match sh Z x,sh Z y with
 |some dx,lD a=>(RS.Sh Z (f dx a)).bind fun rv Z1=>kO Z1 rv
 |_,_=>(RS.Sh Z (C1 6 Z x)).bind fun dx Z1=>(RS.Sh Z1 (C1 6 Z1 y)).bind fun a P=>(RS.Sh P (f dx a)).bind fun rv b=>xt b rv
theorem zX (m:mw K r f) (s:RF B K H Y Z) (l:Uw (ow B Y Z) K H Y x a) (j:Uw (ow B Y Z) K H Y y b) (w:WS K E B H Y Z (PQ B K Q) (oz f a b Z)):r x y H Q:=by
 have d:WS K E B H Y Z (PQ B K Q) ((RS.Sh Z (C1 6 Z a)).bind fun dx Z1=>(RS.Sh Z1 (C1 6 Z1 b)).bind fun h P=>(RS.Sh P (f dx h)).bind fun rv n=>xt n rv)->r x y H Q:=fun w=>by obtain⟨dx,e,w⟩:=w.Sh;obtain⟨h,g,w⟩:=w.Sh;obtain⟨rv,i,w⟩:=w.Sh;exact m Y9 H x y dx h rv Q D4 (DV.x (lh s 6 l e)) (DV.x (lh s 6 j g)) i (EU s w)
 unfold oz at w;cases e:sh Z a with
 |none=>rw[e] at w;exact d w
 |some dx=>
  cases g:sh Z b with
  |none=>rw[e,g] at w;exact d w
  |some h=>rw[e,g] at w;obtain⟨rv,i,w⟩:=w.Sh;exact m _ H x y dx h rv Q s.Y9 (DN s l e) (DN s j g) i (G2 s w)
def kI (f:D->D->Option RV) (fa fb:dC):dC:=fun ρ Z=>(fa ρ Z).bind fun x Z1=>(fb ρ Z1).bind fun y P=>oz f x y P
theorem fD (j:mw K r f) (ha:dc K E ta fa) (l:dc K E tb fb):dc K E (Nm r ta tb) (kI f fa fb):=by intro B U H Y Z ρ Q s a w;refine ha B U H Y Z ρ _ s a (w.bind.imp fun x X Z1 T n g d v h=> ?_);refine l B U T X Z1 ρ _ g (a.TU n) (d.bind.imp fun y J P H2 m e b u i=> ?_);exact zX j e (h.TU m) i b
def Ki:SV->Option Bool
 | .fz (.bool b)=>lD b
 |_=>QS
theorem IV (e:Ki x=lD b) (h:Uw O K H Y v x):v= .bl b:=by
 unfold Ki at e;split at e
 .cases e;cases h;rfl
 .cases e
def bU (fa:dC):vg:=fun ρ Z=>(fa ρ Z).bind fun x Z1=>RS.Sh Z1 (Ki x)
theorem fL (ha:dc K E ta fa):yk K E (FC ta) (bU fa):=by
 intro B U H Y Z ρ Q s d w;refine ha B U H Y Z ρ _ s d (w.bind.imp fun x X Z1 T g e a v f=> ?_);cases q:Ki x with
 |none=>rw[q] at a;exact a.elim
 |some b=>rw[q] at a;exact⟨b,IV q f,WS.now e a⟩
theorem Fr (ha:dc K E ta fa):yk K E (tB ta) (bU fa):=fL ha
def mn (fa fb:vg):vg:=fun ρ Z=>(fa ρ Z).bind fun b Z1=>if b=QW then fb ρ Z1 else .ok Q2 Z1
def Gn (fa fb:vg):vg:=fun ρ Z=>(fa ρ Z).bind fun b Z1=>if b=QW then .ok QW Z1 else fb ρ Z1
def yg (fa:vg):vg:=fun ρ Z=>(fa ρ Z).bind fun b Z1=> .ok (!b) Z1
theorem Bs (i:yk K E t f) (h:yk K E u g):yk K E (Ml t u) (mn f g):=by
 intro B U H Y Z ρ Q s d w;refine i B U H Y Z ρ _ s d (w.bind.imp fun b X Z1 T j e a=> ?_);cases b with
 |true=>exact h B U T X Z1 ρ Q e (d.TU j) a
 |false=>exact WS.now e a
theorem Ln (i:yk K E t f) (h:yk K E u g):yk K E (Qi t u) (Gn f g):=by
 intro B U H Y Z ρ Q s d w;refine i B U H Y Z ρ _ s d (w.bind.imp fun b X Z1 T j e a=> ?_);cases b with
 |true=>exact WS.now e a
 |false=>exact h B U T X Z1 ρ Q e (d.TU j) a
theorem Jp (g:yk K E t f):yk K E (OG t) (yg f):=by intro B U H Y Z ρ Q s d w;exact g B U H Y Z ρ _ s d (w.bind.imp fun b X Z1 T h e a=>WS.now e a)
def lL:vg:=fun _ Z=> .ok QW Z
theorem sS:yk K E DY lL:=fun B U H Y Z ρ Q s a w=>WS.now s w
def Dl (fa fb:dC):dC:=fun ρ Z=>(bU fa ρ Z).bind fun b Z1=>if b=QW then fb ρ Z1 else .ok (.fz (.bool Q2)) Z1
theorem Bl (ha:dc K E ta fa) (f:dc K E tb fb):dc K E (Hd ta tb) (Dl fa fb):=by
 intro B U H Y Z ρ Q s d w;refine fL ha B U H Y Z ρ (fun c T=>if c=QW then tb U T Q else Q (.bl Q2) T) s d (w.bind.imp fun b X Z1 T g e a=> ?_);cases b with
 |true=>exact f B U T X Z1 ρ Q e (d.TU g) a
 |false=>exact WS.now e a _ (.bl Q2)
def LG (c:vg) (fa fb:dC):dC:=fun ρ Z=>(c ρ Z).bind fun b Z1=>if b=QW then fa ρ Z1 else fb ρ Z1
theorem MK (g:yk K E t c) (ha:dc K E ta fa) (h:dc K E tb fb):dc K E (PH t ta tb) (LG c fa fb):=by
 intro B U H Y Z ρ Q s a w;refine g B U H Y Z ρ _ s a (w.bind.imp fun b X Z1 T f e d=> ?_);cases b with
 |true=>exact ha B U T X Z1 ρ Q e (a.TU f) d
 |false=>exact h B U T X Z1 ρ Q e (a.TU f) d
def aV:yp:=fun _ Z=> .ok [] Z
def am (fa:dC) (a:yp):yp:=fun ρ Z=>(fa ρ Z).bind fun x Z1=>(a ρ Z1).bind fun xs P=> .ok (x::xs) P
theorem bF:wS K E pQ aV:=fun B U H Y Z ρ Q s a w=>WS.now s w [] .nil
theorem aC (ha:dc K E ta fa) (i:wS K E tr fr):wS K E (jW ta tr) (am fa fr):=by intro B U H Y Z ρ Q s b w;refine ha B U H Y Z ρ _ s b (w.bind.imp fun x X Z1 T l g e v h=> ?_);refine i B U T X Z1 ρ _ g (b.TU l) (e.bind.imp fun xs J P H2 j f d vs a=> ?_);exact WS.now f d (v::vs) (.cons (h.TU j) a)
def Pq:SV->Option AV
 | .fz d=>lD (.fz d)
 | .rf i=>lD (.rf i)
 | .tp _=>QS
def Pn (xs:List SV):Option SV:=match aQ wF xs with
 |some ds=>lD (.fz (.tuple ds))
 |none=>(aQ Pq xs).map .tp
def jR (fa:yp):dC:=fun ρ Z=>(fa ρ Z).bind fun xs Z1=>if xs.length<=1000 then RS.Sh Z1 (Pn xs) else .bad
theorem Ad (r:Uw O K H Y v x) (e:wF x=lD d):DV O K H v d:=by
 cases x with
 |fz d=>cases e;exact r
 |rf i=>cases e
 |tp l=>cases e
theorem MJ (r:Uw O K H Y v x) (e:Pq x=lD d):AOk O K H Y v d:=by
 cases x with
 |fz d=>cases e;exact r
 |rf i=>cases e;exact r
 |tp l=>cases e
theorem jE (ha:wS K E ta fa):dc K E (Mc ta) (jR fa):=by
 intro B U H Y Z ρ Q s j w;refine ha B U H Y Z ρ _ s j (w.bind.imp fun xs X Z1 T m d a vs f=> ?_);by_cases hn:xs.length<=1000
 .rw[if_pos hn] at a
  refine⟨by rw[f.length];exact zR hn,fun p i=> ?_⟩;have b:S6 T (bC T p (.tup vs)):=b4 i _;have e:Ta X Z1 T X Z1 (bC T p (.tup vs)):=Ta.same b;have h:V2 (ow B X Z1) K (bC T p (.tup vs)) p vs:=⟨Vo.of aM,fun z=>absurd z (d.Y9 p i)⟩;unfold Pn at a;cases q:aQ wF xs with
  |some ds=>rw[q] at a;exact a X _ e (d.grow b) _ (.tup h (jD (cR (R:=Uw (ow B X Z1) K T X) (fun v x y r g=>(Ad r g).ev e.ev) f q)))
  |none=>
   rw[q] at a;dsimp only at a;cases q2:aQ Pq xs with
   |none=>rw[q2] at a;exact a.elim
   |some l=>rw[q2] at a;exact a X _ e (d.grow b) _ ⟨p,vs,rfl,h,cR (R:=Uw (ow B X Z1) K T X) (fun v x y r g=>(MJ r g).ev e.ev e.pre) f q2⟩
 .rw[if_neg hn] at a;exact a.elim
def NG (f:List D->Option RV) (xs:List SV) (Z:a9):RS SV:=match aQ (sh Z) xs with
 |some ds=>(RS.Sh Z (f ds)).bind fun rv Z1=>kO Z1 rv
 |_=>(RS.Sh Z (aQ (C1 6 Z) xs)).bind fun ds Z1=>(RS.Sh Z1 (f ds)).bind fun rv a=>xt a rv
def BV (f:List D->Option RV) (fa:yp):dC:=fun ρ Z=>(fa ρ Z).bind fun xs Z1=>NG f xs Z1
theorem kh (h:EB K r f) (ha:wS K E ta fa):dc K E (KL r ta) (BV f fa):=by
 intro B U H Y Z ρ Q s i w;refine ha B U H Y Z ρ _ s i (w.bind.imp fun xs X Z1 T l b a vs g=> ?_);unfold NG at a;cases q1:aQ (sh Z1) xs with
 |none=>rw[q1] at a;obtain⟨ds,j,a⟩:=a.Sh;obtain⟨rv,d,a⟩:=a.Sh;exact h Y9 T vs ds rv Q D4 (cR (R:=Uw (ow B X Z1) K T X) (fun v x y r e=>DV.x (lh b 6 r e)) g j) d (EU b a)
 |some ds=>rw[q1] at a;obtain⟨rv,d,a⟩:=a.Sh;exact h _ T vs ds rv Q b.Y9 (cR (R:=Uw (ow B X Z1) K T X) (fun v x y r e=>DN b r e) g q1) d (G2 b a)
end
section
variable {B O O':ci} {K:QR} {E:XK} {H H' M L:Hp} {Y J X U:List QX} {Z N Z1 T:a9} {S:L2.St} {ρ:bx} {v:V}
theorem zP:∀{vs:List V} {xs:List β} {i:Nat} {x:β},Paired R vs xs->xs[i]? =lD x->∃v,vs[i]? =lD v/\R v x
 |_,_,_,_,.nil,e=>by simp at e
 |_,_,0,_,.cons h _,e=>by simp at e;subst e;exact⟨_,rfl,h⟩
 |_,_,i+1,x,.cons _ t,e=>by obtain⟨v,b,a⟩:=zP t (by simpa using e);exact⟨v,by simpa using b,a⟩
theorem KO {vs:List V} (h:Paired R vs xs) (e:lx xs i=lD x):∃v,lx vs i=lD v/\R v x:=by
 unfold lx at e⊢;rw[h.length];cases q:KR xs.length i with
 |none=>rw[q] at e;cases e
 |some j=>rw[q] at e;exact zP h e
def Du:SV->Option Int
 | .fz (.int i)=>lD i
 |_=>QS
theorem BR (e:Du x=lD i) (h:Uw O K H Y v x):v= .int i:=by
 unfold Du at e;split at e
 .cases e;cases h;rfl
 .cases e
def IK (x y:SV) (Z:a9):RS SV:=match x with
 | .fz _=>oz bq x y Z
 | .rf j=>(match Z[j]? with
  |some (.lst xs)=>(RS.Sh Z (Du y)).bind fun i Z1=>RS.Sh Z1 (lx xs i)
  |_=> .bad)
 | .tp l=>(RS.Sh Z (Du y)).bind fun i Z1=>RS.Sh Z1 ((lx l i).map AV.sv)
def fY (fa fb:dC):dC:=fun ρ Z=>(fa ρ Z).bind fun x Z1=>(fb ρ Z1).bind fun y T=>IK x y T
theorem fX (ha:dc K E ta fa) (C:dc K E tb fb):dc K E (Nm (Px K) ta tb) (fY fa fb):=by
 intro B S H Y Z ρ Q s r w;refine ha B S H Y Z ρ _ s r (w.bind.imp fun x X Z1 M G A t v e=> ?_);refine C B S M X Z1 ρ _ A (r.TU G) (t.bind.imp fun y U T L F f b u n=> ?_);have e:=e.TU F;unfold IK at b;cases x with
 |fz d=>exact zX bN f e n b
 |rf j=>
  obtain⟨a,ha,rfl⟩:=e;dsimp only at b;cases q:T[j]? with
  |none=>rw[q] at b;exact b.elim
  |some c=>
   rw[q] at b;cases c with
   |lst xs=>
    obtain⟨i,h,b⟩:=WS.Sh b;cases qa:lx xs i with
    |none=>rw[qa] at b;exact b.elim
    |some x=>rw[qa] at b;obtain⟨vs,p,o⟩:=f.Ye j a _ ha q;obtain⟨z,m,g⟩:=KO o qa;exact .inl ⟨a,vs,i,z,rfl,BR h n,VR.of p,m,WS.now f b z g⟩
   |_=>exact b.elim
 |tp l=>
  obtain⟨a,xs,rfl,p,o⟩:=e;obtain⟨i,h,b⟩:=WS.Sh b;cases qa:lx l i with
  |none=>rw[qa] at b;exact b.elim
  |some x=>rw[qa] at b;obtain⟨z,m,g⟩:=KO o qa;exact .inr (.inl ⟨a,xs,i,z,rfl,BR h n,p.1,m,WS.now f b z (by cases x<;>exact g)⟩)
theorem Io (h:Lv Y (Z.set i .dead) b):Lv Y Z b:=by
 obtain⟨j,c,e,a,d⟩:=h;rcases cA a with⟨rfl,rfl⟩|⟨_,a⟩
 .exact absurd rfl d
 .exact⟨j,c,e,a,d⟩
theorem Ta.kill:Ta Y Z H Y (Z.set i .dead) H:=⟨fun _ _ h=>h,fun _ _ h _=>h,fun _ h=> .inl (Io h)⟩
theorem RF.kill (s:RF B K H Y Z) (i:Nat):RF B K H Y (Z.set i .dead):=by
 have e:Ta Y Z H Y (Z.set i .dead) H:=Ta.kill;refine⟨by rw[Sg];exact s.len,s.nd,s.bn,s.ba,s.al,fun j b d f a=> ?_⟩;rcases cA a with⟨rfl,rfl⟩|⟨g,a⟩
 .exact trivial
 .exact(s.Ye j b d f a).ev e.ev e.pre fun u q=>q
theorem RF.acj (s:RF B K H Y Z) (ha:Y[i]? =lD a):¬ow B Y (Z.set i .dead) a:=by
 rintro(z|⟨j,c,e,d,b⟩)
 .exact s.abA ha z
 .have:=s.nd j i a e ha
  subst this;rcases cA d with⟨_,rfl⟩|⟨f,_⟩
  .exact b rfl
  .exact f rfl
def lz (g:a9->SV->Option (D×a9)):a9->List SV->Option (List D×a9)
 |Z,[]=>lD ([],Z)
 |Z,x::r=>match g Z x with
  |some (d,Z1)=>(match lz g Z1 r with
   |some (ds,T)=>lD (d::ds,T)
   |none=>QS)
  |none=>QS
def frz:Nat->a9->SV->Option (D×a9)
 |_,Z,.fz d=>lD (d,Z)
 |0,_,_=>QS
 |n+1,Z,.rf i=>match Z[i]? with
  |some (.lst xs)=>(match lz (frz n) Z xs with
   |some (ds,Z1)=>lD (.list ds,Z1.set i .dead)
   |none=>QS)
  |_=>QS
 |n+1,Z,.tp l=>match lz (frz n) Z (l.map AV.sv) with
  |some (ds,Z1)=>lD (.tuple ds,Z1)
  |none=>QS
theorem wc (a:∀{Z N:a9} {v:V} {x:SV} {d:D},RF B K H Y Z->Uw (ow B Y Z) K H Y v x->g Z x=lD (d,N)->RF B K H Y N/\Ta Y Z H Y N H/\L3.DV (ow B Y N) K H v d):
  ∀{vs:List V} {xs:List SV} {ds:List D} {Z N:a9},RF B K H Y Z->Um (ow B Y Z) K H Y vs xs->lz g Z xs=lD (ds,N)->RF B K H Y N/\Ta Y Z H Y N H/\L3.S0 (ow B Y N) K H vs ds
 |_,_,_,Z,N,s,.nil,e=>by cases e;exact⟨s,.refl,.nil⟩
 |_,_,_,Z,N,s,.cons (b:=x) (l₂:=xs) r t,e=>by
  unfold lz at e;cases q:g Z x with
  |none=>rw[q] at e;cases e
  |some p=>
   obtain⟨d,Z1⟩:=p;rw[q] at e;dsimp only at e;obtain⟨j,h,n⟩:=a s r q;cases q2:lz g Z1 xs with
   |none=>rw[q2] at e;cases e
   |some l=>obtain⟨ds,T⟩:=l;rw[q2] at e;cases e;obtain⟨i,f,m⟩:=wc a j (Um.TU h t) q2;exact⟨i,h.trans f,.cons (n.ev f.ev) m⟩
theorem uW:∀{vs:List V} {l:List AV},Paired (AOk O K H Y) vs l->Um O K H Y vs (l.map AV.sv)
 |_,_,.nil=> .nil
 |_,_,.cons (b:=x) h t=> .cons (by cases x<;>exact h) (uW t)
theorem uZ:∀(n:Nat) {Z N:a9} {v:V} {x:SV} {d:D},RF B K H Y Z->Uw (ow B Y Z) K H Y v x->frz n Z x=lD (d,N)->RF B K H Y N/\Ta Y Z H Y N H/\L3.DV (ow B Y N) K H v d
 |n,Z,N,v,.fz d',d,s,h,e=>by
  have o:lD (d',Z)=lD (d,N):=by cases n<;>exact e
  cases o;exact⟨s,.refl,h⟩
 |0,_,_,v,.rf i,d,s,h,e=>by cases e
 |0,_,_,v,.tp l,d,s,h,e=>by cases e
 |n+1,Z,N,v,.rf i,d,s,h,e=>by
  obtain⟨a,ha,rfl⟩:=h;unfold frz at e;cases q:Z[i]? with
  |none=>rw[q] at e;cases e
  |some c=>
   rw[q] at e;cases c with
   |lst xs=>
    dsimp only at e;obtain⟨vs,j,g⟩:=s.Ye i a _ ha q;cases q2:lz (frz n) Z xs with
    |none=>rw[q2] at e;cases e
    |some p=>obtain⟨ds,Z1⟩:=p;rw[q2] at e;cases e;obtain⟨b,f,m⟩:=wc (fun s h e=>uZ n s h e) s g q2;exact⟨b.kill i,f.trans Ta.kill,vK j (b.acj ha) (m.ev (Ta.kill).ev)⟩
   |_=>cases e
 |n+1,Z,N,v,.tp l,d,s,h,e=>by
  obtain⟨a,xs,rfl,j,g⟩:=h;unfold frz at e;cases q2:lz (frz n) Z (l.map AV.sv) with
  |none=>rw[q2] at e;cases e
  |some p=>obtain⟨ds,Z1⟩:=p;rw[q2] at e;cases e;obtain⟨b,f,m⟩:=wc (fun s h e=>uZ n s h e) s (uW g) q2;exact⟨b,f,.tup (j.ev f.ev) m⟩
def L5 (x:SV) (Z:a9):RS SV:=match frz 4 Z x with
 |some (d,Z1)=> .ok (.fz d) Z1
 |none=> .bad
def lA (f:dC):dC:=fun ρ Z=>(f ρ Z).bind fun x Z1=>L5 x Z1
theorem iy (h:dc K E t f):dc K E t (lA f):=by
 intro B S H Y Z ρ Q s b w;refine h B S H Y Z ρ _ s b (w.bind.imp fun x X Z1 M m g a v i=> ?_);unfold L5 at a;cases q:frz 4 Z1 x with
 |none=>rw[q] at a;exact a.elim
 |some p=>obtain⟨d,T⟩:=p;rw[q] at a;obtain⟨e,j,l⟩:=uZ 4 g i q;exact a X M j e v l
theorem XOk.sub (h:∀b,O' b->O b) (k:XOk K O H c dx x):XOk K O' H c dx x:=by obtain⟨i,fs,g,a⟩:=k;exact⟨i,fs,g,fun f d e=>let⟨g1,v,g2,g3⟩:=a f d e;⟨g1,v,g2,g3.ev (Ev.sub h)⟩⟩
def xS (F:FN) (n:Nat) (xs:List SV) (Z:a9):RS SV:=if xs.length=n then(match aQ wF xs with
 |some ds=>(match F ds with
  | .ok rv=>kO Z rv
  | .er x=> .er x Z
  | .bad=> .bad)
 |none=>(RS.Sh Z (aQ (C1 6 Z) xs)).bind fun ds Z1=>(match F ds with
  | .ok rv=>xt Z1 rv
  |_=> .bad)) else .bad
def jY:RS A->RS A
 | .er _ _=> .bad
 |r=>r
def jf (F:FN) (n:Nat) (fa:yp):dC:=fun ρ Z=>(fa ρ Z).bind fun xs Z1=>jY (xS F n xs Z1)
theorem WS.e0 (h:WS K E B H Y Z P (jY r)):WS K E0 B H Y Z P r:=by
 cases r with
 |ok a Z=>exact h
 |er x Z=>exact h.elim
 |bad=>exact h
theorem IP (s:RF B K H Y Z) (b:Um (ow B Y Z) K H Y vs xs) (w:WS K E B H Y Z (PQ B K Q) (xS F n xs Z)):nz K n F vs H Q E:=by
 unfold xS at w;by_cases hn:xs.length=n
 .rw[if_pos hn] at w
  refine⟨b.length.trans hn,?_⟩;cases q:aQ wF xs with
  |some ds=>
   rw[q] at w;refine⟨ow B Y Z,ds,s.owd,jD (cR (R:=Uw (ow B Y Z) K H Y) (fun v x y r e=>Ad r e) b q),?_⟩;dsimp only at w;cases qF:F ds with
   |ok rv=>rw[qF] at w;exact G2 s w
   |er x=>rw[qF] at w;exact fun c dx H' e k=>w c dx Y H' (Ta.same e) (s.grow e) k
   |bad=>rw[qF] at w;exact w.elim
  |none=>
   rw[q] at w;obtain⟨ds,d,w⟩:=WS.Sh w;refine⟨Y9,ds,fun a z=>z.elim,jD (cR (R:=Uw (ow B Y Z) K H Y) (fun v x y r e=>lh s 6 r e) b d),?_⟩;cases qF:F ds with
   |ok rv=>rw[qF] at w;exact EU s w
   |er x=>rw[qF] at w;exact w.elim
   |bad=>rw[qF] at w;exact w.elim
 .rw[if_neg hn] at w;exact w.elim
theorem BG (ha:wS K E ta fa):dc K E (ng (nz K n F) [] E0 ta) (jf F n fa):=by intro B S H Y Z ρ Q s b w;refine ha B S H Y Z ρ _ s b (w.bind.imp fun xs X Z1 M f d a vs e=> ?_);rw[RB];exact IP d e (WS.e0 a)
abbrev i7:=List SV->a9->RS SV
def d4 (K:QR) (n:Nat) (F:i7):Sp:=fun vs H Q E=>vs.length=n/\∃(B:ci) (Y:List QX) (Z:a9) (xs:List SV),RF B K H Y Z/\Um (ow B Y Z) K H Y vs xs/\WS K E B H Y Z (PQ B K Q) (F xs Z)
def LR (F:i7) (n:Nat) (fa:yp):dC:=fun ρ Z=>(fa ρ Z).bind fun xs Z1=>if xs.length=n then F xs Z1 else .bad
def lU (F:i7) (n:Nat) (fa:yp):dC:=fun ρ Z=>(fa ρ Z).bind fun xs Z1=>if xs.length=n then jY (F xs Z1) else .bad
theorem Fj (ha:wS K E ta fa):dc K E (ng (d4 K n F) [] E ta) (LR F n fa):=by
 intro B S H Y Z ρ Q s d w;refine ha B S H Y Z ρ _ s d (w.bind.imp fun xs X Z1 M f e a vs b=> ?_);rw[RB];by_cases hn:xs.length=n
 .rw[if_pos hn] at a;exact⟨b.length.trans hn,B,X,Z1,xs,e,b,a⟩
 .rw[if_neg hn] at a;exact a.elim
theorem je (ha:wS K E ta fa):dc K E (ng (d4 K n F) [] E0 ta) (lU F n fa):=by
 intro B S H Y Z ρ Q s d w;refine ha B S H Y Z ρ _ s d (w.bind.imp fun xs X Z1 M f e a vs b=> ?_);rw[RB];by_cases hn:xs.length=n
 .rw[if_pos hn] at a;exact⟨b.length.trans hn,B,X,Z1,xs,e,b,WS.e0 a⟩
 .rw[if_neg hn] at a;exact a.elim
def lH (Z:a9) (C m:Str):SV->Bool
 | .rf i=>match Z[i]? with
  |some (.obj D fs)=>decide (D=C)&&(fs.lookup m).isNone
  |_=>Q2
 |_=>Q2
def rp (C m:Str) (F:i7) (n:Nat) (fo:dC) (fa:yp):dC:=fun ρ Z=>(fo ρ Z).bind fun x Z1=>if lH Z1 C m x=QW then(fa ρ Z1).bind fun xs T=>(if(x::xs).length=n then F (x::xs) T else .bad) else .bad
def bc (C m:Str) (F:i7) (n:Nat) (fo:dC) (fa:yp):dC:=fun ρ Z=>(fo ρ Z).bind fun x Z1=>if lH Z1 C m x=QW then(fa ρ Z1).bind fun xs T=>(if(x::xs).length=n then jY (F (x::xs) T) else .bad) else .bad
theorem Gk (g:Rp K Rk C=lD (lD (.ref Ca))) (s:RF B K H Y Z) (f:Uw (ow B Y Z) K H Y v x) (h:lH Z C m x=QW):∃a dx fs,v= .ref a/\H a=lD (.ins Ca dx fs)/\fs.lookup m=QS:=by
 cases x with
 |fz d=>cases h
 |tp l=>cases h
 |rf i=>
  obtain⟨a,ha,rfl⟩:=f;unfold lH at h;dsimp only at h;cases q:Z[i]? with
  |none=>rw[q] at h;cases h
  |some c=>
   rw[q] at h;cases c with
   |obj D fs=>rw[Rx] at h;obtain⟨n,j⟩:=h;have e:=of_decide_eq_true n;subst e;obtain⟨r,dx,ws,b,p,o⟩:=s.Ye i a _ ha q;rw[g] at b;cases b;exact⟨a,dx,ws,rfl,p,uC o (Option.isNone_iff_eq_none.mp j)⟩
   |_=>cases h
theorem Gb (p:Rp K Rk C=lD (lD (.ref Ca))) (o:dc K E to fo) (ha:wS K E ta fa):dc K E (uf Ca m (d4 K n F) [] E to ta) (rp C m F n fo fa):=by
 intro B S H Y Z ρ Q s f w;refine o B S H Y Z ρ _ s f (w.bind.imp fun x X Z1 M u g d v i=> ?_);by_cases h:lH Z1 C m x=QW
 .rw[if_pos h] at d
  obtain⟨a,dx,fs,rfl,r,q⟩:=Gk p g i h;refine⟨a,dx,fs,rfl,r,q,?_⟩;refine ha B S M X Z1 ρ _ g (f.TU u) (d.bind.imp fun xs U T L t l b vs e=> ?_);rw[RB];have j:Um (ow B U T) K L U (.ref a::vs) (x::xs):= .cons (i.TU t) e;by_cases hn:(x::xs).length=n
  .rw[if_pos hn] at b;exact⟨j.length.trans hn,B,U,T,_,l,j,b⟩
  .rw[if_neg hn] at b;exact b.elim
 .rw[if_neg h] at d;exact d.elim
theorem CV (p:Rp K Rk C=lD (lD (.ref Ca))) (o:dc K E to fo) (ha:wS K E ta fa):dc K E (uf Ca m (d4 K n F) [] E0 to ta) (bc C m F n fo fa):=by
 intro B S H Y Z ρ Q s f w;refine o B S H Y Z ρ _ s f (w.bind.imp fun x X Z1 M u g d v i=> ?_);by_cases h:lH Z1 C m x=QW
 .rw[if_pos h] at d
  obtain⟨a,dx,fs,rfl,r,q⟩:=Gk p g i h;refine⟨a,dx,fs,rfl,r,q,?_⟩;refine ha B S M X Z1 ρ _ g (f.TU u) (d.bind.imp fun xs U T L t l b vs e=> ?_);rw[RB];have j:Um (ow B U T) K L U (.ref a::vs) (x::xs):= .cons (i.TU t) e;by_cases hn:(x::xs).length=n
  .rw[if_pos hn] at b;exact⟨j.length.trans hn,B,U,T,_,l,j,WS.e0 b⟩
  .rw[if_neg hn] at b;exact b.elim
 .rw[if_neg h] at d;exact d.elim
def C2:SV->Bool
 | .fz .none=>QW
 |_=>Q2
def ud (C:Str) (F:i7) (n:Nat) (xs:List SV) (Z:a9):RS SV:=if(SV.rf Z.length::xs).length=n then(F (.rf Z.length::xs) (Z++[.obj C []])).bind fun r T=>(if C2 r=QW then .ok (.rf Z.length) T else .bad) else .bad
def DA (C:Str) (F:i7) (n:Nat) (fa:yp):dC:=fun ρ Z=>(fa ρ Z).bind fun xs Z1=>ud C F n xs Z1
def uE (C:Str) (F:i7) (n:Nat) (fa:yp):dC:=fun ρ Z=>(fa ρ Z).bind fun xs Z1=>jY (ud C F n xs Z1)
theorem Kd (h:C2 x=QW) (a:Uw O K H Y v x):v= .TL:=by
 unfold C2 at h;split at h
 .cases a;rfl
 .cases h
theorem EA (o:Rp K Rk C=lD (lD (.ref Ca))) (s:RF B K H Y Z) (m:Um (ow B Y Z) K H Y vs xs) (w:WS K E B H Y Z (PQ B K Q) (ud C F n xs Z)):
  ∀x dx,H x=QS->H dx=QS->dx≠x->d4 K n F (.ref x::(vs++[])) (bC (bC H dx (.own x)) x (.ins Ca dx [])) (fun v L=>v= .TL/\Q (.ref x) L) E:=by
 intro x dx b f q;rw[RB];unfold ud at w;have g:S6 H (bC (bC H dx (.own x)) x (.ins Ca dx [])):=(b4 f _).trans (b4 (by rw[aH (fun z=>q z.symm)];exact b) _);have e:Ta Y Z H (Y++[x]) (Z++[.obj C []]) (bC (bC H dx (.own x)) x (.ins Ca dx [])):=Ta.Yf s.len g b;have l:RF B K (bC (bC H dx (.own x)) x (.ins Ca dx [])) (Y++[x]) (Z++[.obj C []]):=s.Yf g b (by rw[aM];simp) ⟨Ca,dx,[],o,aM,.nil⟩;have i:∀{J:List QX} {N:a9} {H':Hp},Ta (Y++[x]) (Z++[.obj C []]) (bC (bC H dx (.own x)) x (.ins Ca dx [])) J N H'->Uw (ow B J N) K H' J (.ref x) (.rf Z.length):=fun e=>⟨x,e.pre _ _ (by rw[<-s.len];exact aY),rfl⟩;by_cases hn:(SV.rf Z.length::xs).length=n
 .rw[if_pos hn] at w
  have h:Um (ow B (Y++[x]) (Z++[.obj C []])) K (bC (bC H dx (.own x)) x (.ins Ca dx [])) (Y++[x]) (.ref x::vs) (.rf Z.length::xs):= .cons (i .refl) (Um.TU e m);refine⟨h.length.trans hn,B,_,_,_,l,h,?_⟩;refine WS.imp (WS.from e w.bind) fun r U T L p j a v d=> ?_;by_cases z:C2 r=QW
  .rw[if_pos z] at a;exact⟨Kd z d,WS.now j a _ (i p)⟩
  .rw[if_neg z] at a;exact a.elim
 .rw[if_neg hn] at w;exact w.elim
theorem HU (f:Rp K Rk C=lD (lD (.ref Ca))) (ha:wS K E ta fa):dc K E (w6 Ca (d4 K n F) [] E ta) (DA C F n fa):=by intro B S H Y Z ρ Q s b w;refine ha B S H Y Z ρ _ s b (w.bind.imp fun xs X Z1 M g d a vs e=> ?_);exact EA f d e a
theorem Ef (f:Rp K Rk C=lD (lD (.ref Ca))) (ha:wS K E ta fa):dc K E (w6 Ca (d4 K n F) [] E0 ta) (uE C F n fa):=by intro B S H Y Z ρ Q s b w;refine ha B S H Y Z ρ _ s b (w.bind.imp fun xs X Z1 M g d a vs e=> ?_);exact EA f d e (WS.e0 a)
def im (Z:a9):SV->Option (Nat×List SV)
 | .rf i=>match Z[i]? with
  |some (.lst xs)=>lD (i,xs)
  |_=>QS
 |_=>QS
theorem vU (s:RF B K H Y Z) (b:Uw (ow B Y Z) K H Y v x) (h:im Z x=lD (i,xs)):Z[i]? =lD (.lst xs)/\∃a vs,Y[i]? =lD a/\v= .ref a/\H a=lD (.lst vs)/\Um (ow B Y Z) K H Y vs xs:=by
 cases x with
 |fz d=>cases h
 |tp l=>cases h
 |rf j=>
  obtain⟨a,ha,rfl⟩:=b;unfold im at h;dsimp only at h;cases q:Z[j]? with
  |none=>rw[q] at h;cases h
  |some c=>
   rw[q] at h;cases c with
   |lst m=>have e:=Rm h;cases e;obtain⟨vs,g,f⟩:=s.Ye i a _ ha q;exact⟨q,a,vs,ha,rfl,g,f⟩
   |_=>cases h
theorem vj (h:Paired R vs xs) (r:R v x):Paired R (vs++[v]) (xs++[x]):=by
 induction h with
 |nil=>exact .cons r .nil
 |cons a _ b=>exact .cons a b
def tL (fo fe:dC):dC:=fun ρ Z=>(fo ρ Z).bind fun o Z1=>(RS.Sh Z1 (im Z1 o)).bind fun _ Z1=>(fe ρ Z1).bind fun x T=>(RS.Sh T (im T o)).bind fun p a=>
 if p.2.length<1000000 then .ok (.fz .none) (a.set p.1 (.lst (p.2++[x]))) else .bad
theorem uU (C:dc K E to fo) (F:dc K E te fe):dc K E (Qh K "list" uR to (jW te pQ)) (tL fo fe):=by
 intro B S H Y Z ρ Q s g w;refine C B S H Y Z ρ _ s g (w.bind.imp fun o X Z1 M e1 l d v m=> ?_);obtain⟨⟨i0,t⟩,y,d⟩:=WS.Sh d;obtain⟨_,p,e,_,rfl,I,_⟩:=vU l m y;refine⟨.inl ⟨rfl,e,VR.of I⟩,?_⟩;refine F B S M X Z1 ρ _ l (g.TU e1) (d.bind.imp fun x U T L R j b u A=> ?_);obtain⟨⟨i,xs⟩,q,b⟩:=WS.Sh b;obtain⟨f,a,vs,ha,P,G,n⟩:=vU j (m.TU R) q;cases P;dsimp only at b;by_cases hn:xs.length<1000000
 .rw[if_pos hn] at b;have ev:Ev (ow B U T) L (ow B U T) (bC L p (.lst (vs++[u]))):=rS ha f (by intro z;cases z);refine⟨p,vs,u,rfl,rfl,G,uG (by rw[n.length];exact hn),?_⟩;exact b U _ (Ta.put ha f (by intro z;cases z) (by intro z;cases z)) (j.put ha f (by intro z;cases z) (by intro z;cases z) ⟨_,aM,vj (Paired.Vn n fun _ _ r=>r.ev ev fun _ _ h=>h) (A.ev ev fun _ _ h=>h)⟩) _ .TL
 .rw[if_neg hn] at b;exact b.elim
end
inductive FlS where
 |nx (ρ:bx)
 |bk (ρ:bx)
 |ct (ρ:bx)
 |rt (x:SV)
abbrev eT:=bx->a9->RS FlS
abbrev CN:=SV->bx->a9->RS bx
abbrev DD:=List SV->bx->a9->RS bx
def xB (B:ci) (K:QR) (D:Ends):FlS->List QX->a9->Hp->Prop
 | .nx ρ,α,Z,H=>∀σ,Ug (ow B α Z) K H α σ ρ->D.nx σ H
 | .bk ρ,α,Z,H=>∀σ,Ug (ow B α Z) K H α σ ρ->D.bk σ H
 | .ct ρ,α,Z,H=>∀σ,Ug (ow B α Z) K H α σ ρ->D.ct σ H
 | .rt x,α,Z,H=>∀v,Uw (ow B α Z) K H α v x->D.rt v H
def mG (K:QR) (E:XK) (t:TS) (g:eT):Prop:=
 ∀(B:ci) (a:L2.St) (H:Hp) (α:List QX) (Z:a9) (ρ:bx) (D:Ends),RF B K H α Z->Ug (ow B α Z) K H α a ρ->WS K E B H α Z (xB B K D) (g ρ Z)->t D a H
def MQ (K:QR) (E:XK) (g:TG) (f:CN):Prop:=
 ∀(B:ci) (d:L2.St) (H:Hp) (α:List QX) (Z:a9) (ρ:bx) (v:V) (x:SV) (Q:L2.St->Hp->Prop),RF B K H α Z->Ug (ow B α Z) K H α d ρ->Uw (ow B α Z) K H α v x->WS K E B H α Z (fun b a h e=>∀σ',Ug (ow B a h) K e a σ' b->Q σ' e) (f x ρ Z)->g v d H Q
def Kb (K:QR) (E:XK) (g:Mq) (f:DD):Prop:=
 ∀(B:ci) (d:L2.St) (H:Hp) (α:List QX) (Z:a9) (ρ:bx) (vs:List V) (xs:List SV) (Q:L2.St->Hp->Prop),RF B K H α Z->Ug (ow B α Z) K H α d ρ->Um (ow B α Z) K H α vs xs->WS K E B H α Z (fun b a h e=>∀σ',Ug (ow B a h) K e a σ' b->Q σ' e) (f xs ρ Z)->g vs d H Q
section
variable {B O O':ci} {K:QR} {E:XK} {H H' P N:Hp} {U M T Y:List QX} {Z Z' Z1 X:a9} {S:L2.St} {ρ:bx} {v:V}
theorem Ug.set (a:Ug O K H U S ρ) (h:Uw O K H U v x):Ug O K H U (S.set i (lD v)) (ρ.set i (lD x)):=by
 refine⟨by rw[Sg,Sg];exact a.1,fun j y d=> ?_⟩;rcases cA d with⟨rfl,e⟩|⟨l,b⟩
 .cases e;refine⟨v,?_,h⟩;rw[Ss];have:=uM d;rw[a.1];exact this
 .obtain⟨u,g,f⟩:=a.2 j y b;exact⟨u,by rw[Sd (fun z=>l z.symm)];exact g,f⟩
def gA (i:Nat):CN:=fun x ρ Z=> .ok (ρ.set i (lD x)) Z
theorem bz:MQ K E (ug i) (gA i):=fun B S H U Z ρ v x Q s a h w=>WS.now s w _ (a.set h)
def Gv:DD:=fun xs ρ Z=>match xs with
 |[]=> .ok ρ Z
 |_=> .bad
def uP (f:CN) (g:DD):DD:=fun xs ρ Z=>match xs with
 |x::r=>(f x ρ Z).bind fun a Z1=>g r a Z1
 |[]=> .bad
theorem Ci:Kb K E Nd Gv:=by
 intro B S H U Z ρ vs xs Q s a h w;cases h with
 |nil=>exact⟨rfl,WS.now s w _ a⟩
 |cons _ _=>exact w.elim
theorem sL (o:MQ K E t f) (n:Kb K E u g):Kb K E (El t u) (uP f g):=by
 intro B S H U Z ρ vs xs Q s l h w;cases h with
 |nil=>exact w.elim
 |cons a b=>refine⟨_,_,rfl,o B S H U Z ρ _ _ _ s l a (WS.imp (WS.bind w) fun e T Z1 P p m j d i=> ?_)⟩;exact n B d P T Z1 e _ _ _ m i (Um.TU p b) j
def FU:SV->Option (List SV)
 | .fz (.tuple ds)=>lD (ds.map .fz)
 | .tp l=>lD (l.map AV.sv)
 |_=>QS
theorem MO (h:Uw O K H U v x) (e:FU x=lD xs):∃a vs,v= .ref a/\V2 O K H a vs/\Um O K H U vs xs:=by
 unfold FU at e;split at e
 .cases e
  cases h with
  |tup h d=>exact⟨_,_,rfl,h,lY _ _ d⟩
 .cases e;obtain⟨a,b,rfl,g,f⟩:=h;exact⟨a,b,rfl,g,uW f⟩
 .cases e
def OI (n:Nat) (f:DD):CN:=fun x ρ Z=>(RS.Sh Z (FU x)).bind fun xs Z1=>if xs.length=n then f xs ρ Z1 else .bad
theorem A9 (h:Kb K E t f):MQ K E (Nj K n t) (OI n f):=by
 intro B S H U Z ρ v x Q s d e w;obtain⟨xs,q,w⟩:=WS.Sh w;obtain⟨a,vs,rfl,g,b⟩:=MO e q;by_cases hn:xs.length=n
 .rw[if_pos hn] at w;exact⟨a,vs,rfl,g.1,b.length.trans hn,h B S H U Z ρ vs xs Q s d b w⟩
 .rw[if_neg hn] at w;exact w.elim
def cK:eT:=fun ρ Z=> .ok (.nx ρ) Z
def aX (f g:eT):eT:=fun ρ Z=>(f ρ Z).bind fun a Z1=>match a with
 | .nx ρ1=>g ρ1 Z1
 |a=> .ok a Z1
def b3 (f:dC):eT:=fun ρ Z=>(f ρ Z).bind fun _ Z1=> .ok (.nx ρ) Z1
def dL (f:dC) (g:CN):eT:=fun ρ Z=>(f ρ Z).bind fun x Z1=>(g x ρ Z1).bind fun a X=> .ok (.nx a) X
def cC (c:vg) (f g:eT):eT:=fun ρ Z=>(c ρ Z).bind fun b Z1=>if b=QW then f ρ Z1 else g ρ Z1
def gU (f:dC):eT:=fun ρ Z=>(f ρ Z).bind fun x Z1=> .ok (.rt x) Z1
def uI:eT:=fun _ Z=> .ok (.rt (.fz .none)) Z
def OL:eT:=fun _ _=> .bad
theorem eS:mG K E FQ cK:=fun B S H U Z ρ D s a w=>WS.now s w S a
theorem uw:mG K E Ep OL:=fun B S H U Z ρ D s a w=>w.elim
theorem F4:mG K E K8 uI:=fun B S H U Z ρ D s a w=>WS.now s w .TL .TL
theorem aR (l:mG K E t f) (j:mG K E u g):mG K E (HH t u) (aX f g):=by
 intro B S H U Z ρ D s i w;refine l B S H U Z ρ {D with nx:=u D} s i (WS.imp (WS.bind w) fun m T Z1 P n d b=> ?_);cases m with
 |nx a=>exact fun e h=>j B e P T Z1 a D d h b
 |rt x=>exact WS.now (E:=E) d b
 |bk a=>exact WS.now (E:=E) d b
 |ct a=>exact WS.now (E:=E) d b
theorem ji (h:dc K E t f):mG K E (Bq t) (b3 f):=by intro B S H U Z ρ D s a w;exact h B S H U Z ρ _ s a (WS.imp (WS.bind w) fun x T Z1 P e d b v g=>WS.now d b S (a.TU e))
theorem cJ (h:dc K E t f) (n:MQ K E g fg):mG K E (CK t g) (dL f fg):=by intro B S H U Z ρ D s b w;refine h B S H U Z ρ _ s b (WS.imp (WS.bind w) fun x T Z1 P o l i v m=> ?_);exact n B S P T Z1 ρ v x _ l (b.TU o) m (WS.imp (WS.bind i) fun d Y X N q j e a p=>WS.now j e a p)
theorem iV (i:yk K E c fc) (l:mG K E t f) (j:mG K E u g):mG K E (Nw c t u) (cC fc f g):=by
 intro B S H U Z ρ D s a w;refine i B S H U Z ρ _ s a (WS.imp (WS.bind w) fun b T Z1 P h e d=> ?_);cases b with
 |true=>exact l B S P T Z1 ρ D e (a.TU h) d
 |false=>exact j B S P T Z1 ρ D e (a.TU h) d
theorem eC (h:dc K E t f):mG K E (LL t) (gU f):=by intro B S H U Z ρ D s b w;exact h B S H U Z ρ _ s b (WS.imp (WS.bind w) fun x T Z1 P g d a v e=>WS.now d a v e)
def DZ (i:Nat) (f:D->D->Option RV) (fe:dC):eT:=fun ρ Z=>(az i ρ Z).bind fun x Z1=>(fe ρ Z1).bind fun y X=>(oz f x y X).bind fun z a=> .ok (.nx (ρ.set i (lD z))) a
theorem Ju (m:mw K r f) (n:dc K E te fe):mG K E (OV i te r) (DZ i f fe):=by
 intro B S H U Z ρ D s a w;unfold DZ az at w;cases q:ρ[i]? with
 |none=>rw[q] at w;exact w.elim
 |some o=>
  cases o with
  |none=>rw[q] at w;exact w.elim
  |some x=>rw[q] at w;obtain⟨v,A,p⟩:=a.2 i x q;refine⟨v,A,n B S H U Z ρ _ s a (WS.imp (WS.bind w) fun y T Z1 P b h e u j=> ?_)⟩;exact zX m h (p.TU b) j (WS.imp (WS.bind e) fun z Y X N C g d t l=>WS.now g d _ ((a.TU (b.trans C)).set l))
def eP (f:Str) (x:SV):List (Str×SV)->List (Str×SV)
 |[]=>[(f,x)]
 |(g,y)::r=>if g=f then(g,x)::r else(g,y)::eP f x r
theorem rl (h:Uw O K H U v x):∀{ws:List (Str×V)} {fs:List (Str×SV)},Paired (fun(p:Str×V) (q:Str×SV)=>p.1=q.1/\Uw O K H U p.2 q.2) ws fs->Paired (fun(p:Str×V) (q:Str×SV)=>p.1=q.1/\Uw O K H U p.2 q.2) (iS f v ws) (eP f x fs)
 |_,_,.nil=> .cons ⟨rfl,h⟩ .nil
 |(g,u)::ws,(g',y)::fs,.cons ⟨e,k⟩ t=>by
  cases e;unfold iS eP;by_cases z:g=f
  .rw[if_pos z,if_pos z];exact .cons ⟨rfl,h⟩ t
  .rw[if_neg z,if_neg z];exact .cons ⟨rfl,k⟩ (rl h t)
def E4 (Z:a9) (C:Str):SV->Option (Nat×List (Str×SV))
 | .rf i=>match Z[i]? with
  |some (.obj D fs)=>if D=C then lD (i,fs) else QS
  |_=>QS
 |_=>QS
theorem N8 (s:RF B K H U Z) (b:Uw (ow B U Z) K H U v x) (h:E4 Z C x=lD (i,fs)):Z[i]? =lD (.obj C fs)/\∃a Ca dx ws,U[i]? =lD a/\v= .ref a/\Rp K Rk C=lD (lD (.ref Ca))/\H a=lD (.ins Ca dx ws)/\Paired (fun(p:Str×V) (q:Str×SV)=>p.1=q.1/\Uw (ow B U Z) K H U p.2 q.2) ws fs:=by
 cases x with
 |fz d=>cases h
 |tp l=>cases h
 |rf j=>
  obtain⟨a,ha,rfl⟩:=b;unfold E4 at h;dsimp only at h;cases q:Z[j]? with
  |none=>rw[q] at h;cases h
  |some c=>
   rw[q] at h;cases c with
   |obj D n=>
    dsimp only at h;by_cases z:D=C
    .subst z;rw[if_pos rfl] at h;have e:=Rm h;cases e;obtain⟨Ca,dx,ws,m,g,f⟩:=s.Ye i a _ ha q;exact⟨q,a,Ca,dx,ws,ha,rfl,m,g,f⟩
    .rw[if_neg z] at h;cases h
   |_=>cases h
def fP (C f:Str) (fo fe:dC):eT:=fun ρ Z=>(fe ρ Z).bind fun x Z1=>(fo ρ Z1).bind fun o X=>(RS.Sh X (E4 X C o)).bind fun p a=>if p.2.length<100 then .ok (.nx ρ) (a.set p.1 (.obj C (eP f x p.2))) else .bad
theorem lm (hc:gC K C L) (Q:f∈L) (J:dc K E to fo) (R:dc K E te fe):mG K E (Mb K to te f) (fP C f fo fe):=by
 intro B S H U Z ρ D s e w;refine R B S H U Z ρ _ s e (WS.imp (WS.bind w) fun x T Z1 P y F A v G=> ?_);refine J B S P T Z1 ρ _ F (e.TU y) (WS.imp (WS.bind A) fun o Y X N t j b u I=> ?_);obtain⟨⟨i,fs⟩,q,b⟩:=WS.Sh b;obtain⟨g,a,d,dx,ws,ha,rfl,m,h1,l⟩:=N8 j I q;obtain⟨Cb,n,g1,g2⟩:=hc;rw[m] at n;cases n;dsimp only at b;by_cases hn:fs.length<100
 .rw[if_pos hn] at b;have ev:Ev (ow B Y X) N (ow B Y X) (bC N a (.ins d dx (iS f v ws))):=rS ha g (by intro z;cases z);have p:Ta Y X N Y (X.set i (.obj C (eP f x fs))) (bC N a (.ins d dx (iS f v ws))):=Ta.put ha g (by intro z;cases z) (by intro z;cases z);have hl:=Paired.length l;refine⟨a,d,dx,ws,rfl,h1,g1,g2 f Q,by omega,?_⟩;refine b Y _ p (j.put ha g (by intro z;cases z) (by intro z;cases z) ⟨d,dx,_,m,aM,rl ((G.TU t).ev ev fun _ _ h=>h) (Paired.Vn l fun _ _ r=>⟨r.1,r.2.ev ev fun _ _ h=>h⟩)⟩) S ((e.TU (y.trans t)).TU p)
 .rw[if_neg hn] at b;exact b.elim
abbrev NQ:=bx->a9->RS (List D)
def Pt (K:QR) (E:XK) (b:TI) (d:NQ):Prop:=
 ∀(B:ci) (S:L2.St) (H:Hp) (U:List QX) (Z:a9) (ρ:bx) (a:It->Hp->Prop),RF B K H U Z->Ug (ow B U Z) K H U S ρ->WS K E B H U Z (fun ds M Z' H'=>∀J,yQ K J (ow B M Z') H' ds->a J H') (d ρ Z)->b S H a
def nt (f:FI):NQ:=fun ρ Z=>match f (cy ρ) with
 | .ok (ds,_)=> .ok ds Z
 | .er x=> .er x Z
 | .bad=> .bad
theorem rE (h:IO K E wi f):Pt K E wi (nt f):=by
 intro B S H U Z ρ j s d w;refine h (ow B U Z) H (ow B U Z) S H (cy ρ) j (D2 s d) ?_;unfold nt at w;cases q:f (cy ρ) with
 |bad=>rw[q] at w;exact w.elim
 |er x=>rw[q] at w;exact fun c dx H' e k=>w c dx U H' (Ta.same e) (s.grow e) k
 |ok r=>obtain⟨ds,a⟩:=r;rw[q] at w;exact fun O' J H' e R g=>w U H' (Ta.same R.same) (s.grow R.same) J fun l N i n=>g l N (fun b o h z=>i b o h fun y=>z (R.bo b y)) n
def jX (fe:dC):NQ:=fun ρ Z=>(fe ρ Z).bind fun x Z1=>(match frz 4 Z1 x with
 |some (d,X)=>RS.Sh X (eY d)
 |none=> .bad)
theorem nA (h:dc K E tl fe):Pt K E (Hb K tl) (jX fe):=by
 intro B S H U Z ρ n s g w;refine h B S H U Z ρ _ s g (WS.imp (WS.bind w) fun x T Z1 P m i a v j=> ?_);cases q:frz 4 Z1 x with
 |none=>rw[q] at a;exact a.elim
 |some p=>
  obtain⟨d,X⟩:=p;rw[q] at a;obtain⟨e,f,l⟩:=uZ 4 i j q;dsimp only at a;cases qs:eY d with
  |none=>rw[qs] at a;exact a.elim
  |some ds=>
   rw[qs] at a;cases l with
   |tup h b=>cases qs;exact⟨_,rfl,.inr ⟨⟨_,h.1⟩,a T P f e _ (DM h b)⟩⟩
   |lst h b=>cases qs;exact⟨_,rfl,.inl ⟨⟨_,h.1.sq⟩,a T P f e _ (A6 h b)⟩⟩
   |_=>cases qs
def kz (gt:CN) (b:eT):List D->eT
 |[],ρ,Z=> .ok (.nx ρ) Z
 |d::r,ρ,Z=>(gt (.fz d) ρ Z).bind fun a Z1=>(b a Z1).bind fun e X=>match e with
  | .nx ρ2=>kz gt b r ρ2 X
  | .ct ρ2=>kz gt b r ρ2 X
  | .bk ρ2=> .ok (.nx ρ2) X
  | .rt x=> .ok (.rt x) X
def xb (a:NQ) (gt:CN) (b:eT):eT:=fun ρ Z=>(a ρ Z).bind fun ds Z1=>kz gt b ds ρ Z1
theorem u6 (hi:Pt K E wi fi) (hg:MQ K E g gt) (hb:mG K E tb b):mG K E (Lx wi g tb) (xb fi gt b):=by
 intro B S H U Z ρ D s L w;refine hi B S H U Z ρ _ s L (WS.imp (WS.bind w) fun ds T Z1 P e1 s1 w1 J it=> ?_);refine⟨fun i m a H'=>m=ds.length - i/\i<=ds.length/\∃Y X ρ2,Ta T Z1 P Y X H'/\RF B K H' Y X/\Ug (ow B Y X) K H' Y a ρ2/\WS K E B H' Y X (xB B K D) (kz gt b (ds.drop i) ρ2 X),⟨_,rfl,RZ _,T,Z1,ρ,.refl,s1,L.TU e1,w1⟩,?_⟩;rintro i m j N ⟨rfl,hi,Y,X,ρ2,e2,s2,Zv,w2⟩;obtain⟨go,n⟩:=it (ow B Y X) N e2.ev s2.Y9;by_cases t:i<ds.length
 .obtain⟨g1,g2⟩:=go i t
  refine .inr ⟨g1,fun a H'=>i+1<=ds.length/\∃Y X ρ2,Ta T Z1 P Y X H'/\RF B K H' Y X/\Ug (ow B Y X) K H' Y a ρ2/\WS K E B H' Y X (xB B K D) (kz gt b (ds.drop (i+1)) ρ2 X),fun a H' ⟨h1,h2⟩=>⟨ds.length - (i+1),by omega,rfl,h1,h2⟩,fun x I y=> ?_⟩;obtain⟨Q,d,hd,dv⟩:=g2 x I y;have ed:ds.drop i=d::ds.drop (i+1):=by obtain⟨_,q⟩:=QU.mp hd;rw[Ua t,q]
  rw[ed] at w2;have G:Ta Y X N Y X I:=Ta.same Q;refine hg B j I Y X ρ2 x (.fz d) _ (s2.grow Q) (Zv.TU G) dv (WS.imp (WS.bind (WS.from G w2)) fun A C Z4 H4 e4 s4 w3 z F=> ?_);refine hb B z H4 C Z4 A _ s4 F (WS.imp (WS.bind w3) fun fl l R H5 e5 r p=> ?_);have o:=e2.trans (G.trans (e4.trans e5));cases fl with
  |nx f=>exact fun u h=>⟨t,l,R,f,o,r,h,p⟩
  |ct f=>exact fun u h=>⟨t,l,R,f,o,r,h,p⟩
  |bk f=>exact WS.now (E:=E) r p
  |rt x=>exact WS.now (E:=E) r p
 .have e:i=ds.length:=by omega
  subst e;rw[Uy (Q4 _)] at w2;exact .inl ⟨n,WS.now s2 w2 j Zv⟩
def tN (c:vg) (b:eT):Nat->eT
 |0,_,_=> .bad
 |n+1,ρ,Z=>(c ρ Z).bind fun k Z1=>if k=QW then(b ρ Z1).bind fun a X=>match a with
  | .nx ρ2=>tN c b n ρ2 X
  | .ct ρ2=>tN c b n ρ2 X
  | .bk ρ2=> .ok (.nx ρ2) X
  | .rt x=> .ok (.rt x) X else .ok (.nx ρ) Z1
def rV (c:vg) (b:eT):eT:=tN c b 1000000
theorem oQ (F:yk K E c fc) (G:mG K E tb b):mG K E (Fu c tb) (rV fc b):=by
 intro B S H U Z ρ D s A w;refine⟨fun m d H'=>∃Y X a,Ta U Z H Y X H'/\RF B K H' Y X/\Ug (ow B Y X) K H' Y d a/\WS K E B H' Y X (xB B K D) (tN fc b m a X),⟨_,U,Z,ρ,.refl,s,A,w⟩,?_⟩;rintro m f N ⟨Y,X,a,L,C,t,u⟩;cases m with
 |zero=>exact u.elim
 |succ m=>
  refine F B f N Y X a _ C t (WS.imp (WS.bind u) fun k p Q R r y l=> ?_);cases k with
  |true=>
   rw[if_pos rfl] at l⊢;refine⟨fun d H'=>∃Y X a,Ta U Z H Y X H'/\RF B K H' Y X/\Ug (ow B Y X) K H' Y d a/\WS K E B H' Y X (xB B K D) (tN fc b m a X),fun d H' q=>⟨m,UR m,q⟩,?_⟩;refine G B f R p Q a _ y (t.TU r) (WS.imp (WS.bind l) fun I h z H5 J n j=> ?_);have i:=L.trans (r.trans J);cases I with
   |nx e=>exact fun o g=>⟨h,z,e,i,n,g,j⟩
   |ct e=>exact fun o g=>⟨h,z,e,i,n,g,j⟩
   |bk e=>exact WS.now (E:=E) n j
   |rt x=>exact WS.now (E:=E) n j
  |false=>rw[if_neg Rc] at l⊢;exact WS.now y l f (t.TU r)
end
section
variable {B O O':ci} {K:QR} {E:XK} {H H' S L:Hp} {U R X Y:List QX} {Z Z' Z1 T:a9} {M:L2.St} {ρ:bx} {v:V}
def dY (gt:CN) (ft:vg) (fe:dC):List D->bx->a9->List SV->RS (List SV)
 |[],_,Z,acc=> .ok acc Z
 |d::r,ρ,Z,acc=>(gt (.fz d) ρ Z).bind fun a Z1=>(ft a Z1).bind fun b T=>if b=QW then(fe a T).bind fun x e=>(if acc.length<1000000 then dY gt ft fe r a e (acc++[x]) else .bad) else dY gt ft fe r a T acc
def pc (n:Nat) (fj:List Nat) (ρ:bx):bx:=Q6 n QS++fj.map fun j=>(ρ[j]?).join
def lS (n:Nat) (fj:List Nat) (a:NQ) (gt:CN) (ft:vg) (fe:dC):dC:=fun ρ Z=>(a ρ Z).bind fun ds Z1=>(jY (dY gt ft fe ds (pc n fj ρ) Z1 [])).bind fun xs T=> .ok (.rf T.length) (T++[.lst xs])
theorem HP {own:List Str} {b:List (Str×Nat)} {n:Nat} {fj:List Nat} (hn:own.length=n) (g:b.map (·.2)=fj) (h:Ug O K H U M ρ):Ug O K H U (iY own b M) (pc n fj ρ):=by
 unfold iY pc;rw[Bb hn];have i:b.length=fj.length:=by rw[<-g,QV]
 refine⟨by rw[Q3,Q3,RK,RK,QV,QV,i],fun j x a=> ?_⟩;by_cases f:j<n
 .rw[Ra (by rw[RK];exact f),Tz,if_pos f] at a;cases a
 .rw[RE (by rw[RK];omega),RK,Q7] at a⊢
  subst g;rw[Q7] at a;cases q:b[j - n]? with
  |none=>rw[q] at a;cases a
  |some p=>
   rw[q] at a;have d:(ρ[p.2]?).join=lD x:=Rm a;have e:ρ[p.2]? =lD (lD x):=by
    cases qq:ρ[p.2]? with
    |none=>rw[qq] at d;cases d
    |some o=>rw[qq] at d;exact congrArg lD d
   obtain⟨u,m,l⟩:=h.2 p.2 x e;exact⟨u,by show lD ((M[p.2]?).join)=_;rw[m];rfl,l⟩
theorem x4 {p:QX} {c:Cell} (a:U.length=Z.length) (e:c≠ .dead):ow (cj B p) U Z=ow B (U++[p]) (Z++[c]):=by
 funext b;refine propext ⟨fun z=> ?_,fun z=> ?_⟩
 .rcases z with(z|z)|⟨i,d,h1,h2,h3⟩
  .exact .inl z
  .exact .inr ⟨U.length,c,by rw[z];exact aY,by rw[a];exact aY,e⟩
  .exact .inr ⟨i,d,eN h1,eN h2,h3⟩
 .rcases z with z|z
  .exact .inl (.inl z)
  .rcases sj a z with z|z
   .exact .inr z
   .exact .inl (.inr z)
theorem RF.adopt {p:QX} {vs:List V} {xs:List SV} (s:RF (cj B p) K H U Z) (l:H p=lD (.lst vs)) (m:Um (ow (cj B p) U Z) K H U vs xs) (n:¬B p):RF B K H (U++[p]) (Z++[.lst xs]):=by
 have t:ow (cj B p) U Z=ow B (U++[p]) (Z++[.lst xs]):=x4 s.len (by intro z;cases z);have b:∀(i:Nat) (a:QX),U[i]? =lD a->(U++[p])[i]? =lD a:=fun i a h=>eN h;have g:∀i:Nat,U[i]?≠lD p:=s.ba p (.inr rfl);refine⟨by rw[Q3,Q3,s.len];rfl,fun i j a e f=> ?_,fun a h=>s.bn a (.inl h),fun a h i q=> ?_,fun i a h=> ?_,fun i a d e f=> ?_⟩
 .rcases bE e with g1|⟨e1,e2⟩<;>rcases bE f with g2|⟨e3,e4⟩
  .exact s.nd i j a g1 g2
  .rw[e4] at g1;exact absurd g1 (g i)
  .rw[e2] at g2;exact absurd g2 (g j)
  .omega
 .rcases bE q with q|⟨_,e2⟩
  .exact s.ba a (.inl h) i q
  .subst e2;exact n h
 .rcases bE h with h|⟨_,e2⟩
  .exact s.al i a h
  .rw[e2,l];simp
 .rw[<-t]
  rcases bE f with g2|⟨e1,e2⟩
  .rcases bE e with g1|⟨e1,_⟩
   .exact(s.Ye i a d g1 g2).ev .refl b fun o q=>q
   .have:=(QU.mp g2).1;have:=s.len;omega
  .rcases bE e with g1|⟨_,e3⟩
   .have:=(QU.mp g1).1;have:=s.len;omega
   .rw[e2,e3];exact⟨vs,l,Paired.Vn m fun _ _ r=>r.ev .refl b⟩
theorem RF.hide {p:QX} {o:HO} (s:RF B K H U Z) (f:H p=QS):RF (cj B p) K (bC H p o) U Z:=by have d:S6 H (bC H p o):=b4 f o;have g:=s.grow d;have ev:Ev (ow B U Z) H (ow (cj B p) U Z) (bC H p o):=fun b u h n=>⟨d b u h,fun z=>z.elim (fun z=>z.elim (fun z=>n (.inl z)) fun z=>by rw[z,f] at h;cases h) fun z=>n (.inr z)⟩;refine⟨g.len,g.nd,fun a h=>h.elim (g.bn a) fun e=>by rw[e,aM];simp,fun a h i q=>h.elim (fun h=>g.ba a h i q) fun e=>by rw[e] at q;exact s.al i p q f,g.al,fun i a c l j=> ?_⟩;exact(s.Ye i a c l j).ev ev (fun _ _ h=>h) fun o q=>d _ _ q
theorem RF.adP {p:QX} {o d:HO} (s:RF (cj B p) K H U Z) (g:H p=lD o):RF (cj B p) K (bC H p d) U Z:=by
 have ev:Ev (ow (cj B p) U Z) H (ow (cj B p) U Z) (bC H p d):=Ev.mut (.inl (.inr rfl)) d;have n:∀b,H b≠QS->bC H p d b≠QS:=fun b h=>by
  by_cases z:b=p
  .subst z;rw[aM];simp
  .rw[aH z];exact h
 refine⟨s.len,s.nd,fun a h=>n a (s.bn a h),s.ba,fun i a h=>n a (s.al i a h),fun i a c e f=>(s.Ye i a c e f).ev ev (fun _ _ h=>h) fun u q=> ?_⟩;have:a≠p:=fun z=>s.ba p (.inr rfl) i (by rw[<-z];exact e);rw[aH this];exact q
theorem Ta.dd {p:QX} {o:HO} (e:Ta X Z1 S U Z H) (a:S p=QS):Ta X Z1 S U Z (bC H p o):=⟨e.pre,fun b u h n=>by rw[aH (b8 h a)];exact e.kp b u h n,e.lv⟩
theorem RF.acC {p:QX} (s:RF (cj B p) K H U Z):RF B K H U Z:=
 ⟨s.len,s.nd,fun a h=>s.bn a (.inl h),fun a h=>s.ba a (.inl h),s.al,fun i a c e d=>(s.Ye i a c e d).ev (fun b o h n=>⟨h,fun y=>n (y.elim (fun y=> .inl (.inl y)) .inr)⟩) (fun _ _ h=>h) fun _ h=>h⟩
theorem z9 {own:List Str} {fv:List (Str×Nat)} {g:TG} {tc:TT} {te:TE} {gt:CN} {ft:vg} {fe:dC} {n:Nat} {fj:List Nat} {J:It} {Q:VK} {ds:List D} (hn:own.length=n) (hf:fv.map (·.2)=fj)
  (hg:MQ K E g gt) (ht:yk K E tc ft) (he:dc K E te fe) (s1:RF B K S X Z1) (sl1:Ug (ow B X Z1) K S X M ρ) (it:yQ K J (ow B X Z1) S ds) (w1:WS K E B S X Z1 (PQ B K Q) ((dY gt ft fe ds (pc n fj ρ) Z1 []).bind fun xs T=> .ok (.rf T.length) (T++[.lst xs]))):
  ∀D,S D=QS->DG J D (iY own fv M) g tc te S fun H'=>Q (.ref D) H':=by
 intro p P;have slc:Ug (ow B X Z1) K S X (iY own fv M) (pc n fj ρ):=HP hn hf sl1;generalize qr:dY gt ft fe ds (pc n fj ρ) Z1 []=rr at w1;by_cases w:rr= .bad
 .subst w;exact w1.elim
 .
  have hB:¬B p:=fun z=>s1.bn p z P;have evH:∀{Y:List QX} {T:a9} {H':Hp},Ta X Z1 S Y T H'->Ev (ow B X Z1) S (ow (cj B p) Y T) H':=fun e b o h n=>⟨e.kp b o h fun z=>n (.inr z),fun z=>by
   rcases z with(z|z)|z
   .exact n (.inl z)
   .rw[z,P] at h;cases h
   .exact(e.lv b z).elim (fun q=>n (.inr q)) fun q=>by rw[h] at q;cases q⟩
  refine⟨fun i m σ' H'=>m=ds.length - i/\i<=ds.length/\∃Y T ρc acc ys,Ta X Z1 S Y T H'/\RF (cj B p) K H' Y T/\Ug (ow (cj B p) Y T) K H' Y σ' ρc/\H' p=lD (.lst ys)/\Um (ow (cj B p) Y T) K H' Y ys acc/\dY gt ft fe (ds.drop i) ρc T acc=rr,
   ⟨_,rfl,RZ _,X,Z1,pc n fj ρ,[],[],Ta.same (b4 P _),s1.hide P,?_,aM,.nil,qr⟩,?_⟩
  .exact⟨slc.1,fun j x hx=>let⟨v,h1,h2⟩:=slc.2 j x hx;⟨v,h1,h2.ev (evH (Ta.same (b4 P _))) fun _ _ h=>h⟩⟩
  .rintro i m σ2 L ⟨rfl,hi,Y,T,ρ2,acc,ys,e2,s2,Zv,hy,vy,f⟩
   obtain⟨go,stop⟩:=it (ow (cj B p) Y T) L (evH e2) s2.Y9;by_cases Va:i<ds.length
   .obtain⟨g1,g2⟩:=go i Va
    refine .inr ⟨g1,fun σ5 C=>i+1<=ds.length/\∃Y T ρc acc ys,Ta X Z1 S Y T C/\RF (cj B p) K C Y T/\Ug (ow (cj B p) Y T) K C Y σ5 ρc/\C p=lD (.lst ys)/\Um (ow (cj B p) Y T) K C Y ys acc/\dY gt ft fe (ds.drop (i+1)) ρc T acc=rr,
     fun σ5 C ⟨h1,h2⟩=>⟨ds.length - (i+1),by omega,rfl,h1,h2⟩,fun x H3 y=> ?_⟩
    obtain⟨s3,d,hd,dv⟩:=g2 x H3 y;have ed:ds.drop i=d::ds.drop (i+1):=by obtain⟨_,q⟩:=QU.mp hd;rw[Ua Va,q]
    rw[ed] at f;unfold dY at f;have e3:Ta Y T L Y T H3:=Ta.same s3;have kD:∀{αx αy:List QX} {Zx Zy:a9} {Hx Hy:Hp} {o:HO},RF (cj B p) K Hx αx Zx->Ta αx Zx Hx αy Zy Hy->Hx p=lD o->Hy p=lD o:=fun sx ex h=>ex.kp _ _ h fun⟨i,c,q,_⟩=>sx.ba p (.inr rfl) i q;have t:∀{G:List QX} {Z3:a9} {H3:Hp} {z:Xc} {A:a9},Ta X Z1 S G Z3 H3->RS.er z A=rr->∀c dx R H',Ta G Z3 H3 R A H'->RF (cj B p) K H' R A->XOk K (ow (cj B p) R A) H' c dx z->E c dx H':=fun{G Z3 H3 z A} e3 q c dx R H' e s' x'=>by subst q;exact w1 c dx R H' (e3.trans e) s'.acC (XOk.sub (fun b y=>y.elim (fun y=> .inl (.inl y)) .inr) x')
    refine hg (cj B p) σ2 H3 Y T ρ2 x (.fz d) _ (s2.grow s3) (Zv.TU e3) dv ?_;cases qg:gt (.fz d) ρ2 T with
    |er z A=>rw[qg] at f;exact t (e2.trans e3) f
    |bad=>rw[qg] at f;exact w f.symm
    |ok l Z4=>
     rw[qg] at f;intro α4 H4 e4 s4 σ4 sl4;refine ht (cj B p) σ4 H4 α4 Z4 l _ s4 sl4 ?_;have f:((ft l Z4).bind fun b T=>if b=QW then(fe l T).bind fun x Z3=>(if acc.length<1000000 then dY gt ft fe (ds.drop (i+1)) l Z3 (acc++[x]) else .bad) else dY gt ft fe (ds.drop (i+1)) l T acc)=rr:=f;cases qt:ft l Z4 with
     |er z A=>rw[qt] at f;exact t (e2.trans (e3.trans e4)) f
     |bad=>rw[qt] at f;exact w f.symm
     |ok b Z5=>
      rw[qt] at f;intro α5 C e5 s5;have I:=sl4.TU e5;have u:=e3.trans (e4.trans e5);cases b with
      |false=>have f:dY gt ft fe (ds.drop (i+1)) l Z5 acc=rr:=f;exact⟨Va,α5,Z5,l,acc,ys,e2.trans u,s5,I,kD s2 u hy,Um.TU u vy,f⟩
      |true=>
       have f:((fe l Z5).bind fun x Z3=>(if acc.length<1000000 then dY gt ft fe (ds.drop (i+1)) l Z3 (acc++[x]) else .bad))=rr:=f;rw[if_pos rfl];refine he (cj B p) σ4 C α5 Z5 l _ s5 I ?_;cases qe:fe l Z5 with
       |er z A=>rw[qe] at f;exact t (e2.trans u) f
       |bad=>rw[qe] at f;exact w f.symm
       |ok x6 Z6=>
        rw[qe] at f;intro F H6 e6 s6 v6 hv6;have f:(if acc.length<1000000 then dY gt ft fe (ds.drop (i+1)) l Z6 (acc++[x6]) else .bad)=rr:=f;by_cases N:acc.length<1000000
        .rw[if_pos N] at f;have e36:=u.trans e6;have hy6:H6 p=lD (.lst ys):=kD s2 e36 hy;have vy6:=Um.TU e36 vy;have em:Ev (ow (cj B p) F Z6) H6 (ow (cj B p) F Z6) (bC H6 p (.lst (ys++[v6]))):=Ev.mut (.inl (.inr rfl)) _;have sl6:=I.TU e6;refine⟨ys,hy6,uG (by rw[vy6.length];exact N),Va,F,Z6,l,acc++[x6],ys++[v6],(e2.trans e36).dd P,s6.adP hy6,⟨sl6.1,fun j x hx=>let⟨v,h1,h2⟩:=sl6.2 j x hx;⟨v,h1,h2.ev em fun _ _ h=>h⟩⟩,aM,vj (Paired.Vn vy6 fun _ _ r=>r.ev em fun _ _ h=>h) (hv6.ev em fun _ _ h=>h),f⟩
        .rw[if_neg N] at f;exact absurd f.symm w
   .have e:i=ds.length:=by omega
    subst e;rw[Uy (Q4 _)] at f;have f:RS.ok acc T=rr:=f;subst f;refine .inl ⟨stop,?_⟩;refine w1 (Y++[p]) L ⟨fun i a h=>eN (e2.pre i a h),e2.kp,fun b z=>(sj s2.len z).elim (e2.lv b) fun z=> .inr (by rw[z];exact P)⟩ (s2.adopt hy vy hB) (.ref p) ⟨p,by rw[<-s2.len];exact aY,rfl⟩
theorem L6 {A C:Type} {P:C->List QX->a9->Hp->Prop} {r:RS A} {k:A->a9->C} {m:A->a9->a9} (w:WS K E B H U Z P ((jY r).bind fun a o=> .ok (k a o) (m a o))):WS K E0 B H U Z P (r.bind fun a o=> .ok (k a o) (m a o)):=by
 cases r with
 |ok a o=>exact w
 |er x o=>exact w.elim
 |bad=>exact w
theorem mZ {own:List Str} {f:List (Str×Nat)} {a:TI} {g:TG} {d:TT} {b:TE} {h:NQ} {gt:CN} {ft:vg} {fe:dC} {n:Nat} {fj:List Nat} (hn:own.length=n) (p:f.map (·.2)=fj)
  (hi:Pt K E a h) (o:MQ K E0 g gt) (m:yk K E0 d ft) (q:dc K E0 b fe):dc K E (yw own f a g d b) (lS n fj h gt ft fe):=by
 intro B M H U Z ρ Q s e w;refine hi B M H U Z ρ _ s e (WS.imp (WS.bind w) fun ds X Z1 S r j i J l=> ?_);exact z9 hn p o m q j (e.TU r) l (L6 i)
def dj (N:Nat) (g:eT):i7:=fun xs Z=>(g (xs.map lD++Q6 (N - xs.length) QS) Z).bind fun a Z1=>match a with
 | .rt x=> .ok x Z1
 | .nx _=> .ok (.fz .none) Z1
 |_=> .bad
theorem G1 {N:List Str} {vs:List V} {xs:List SV} (h:Um O K H U vs xs):Ug O K H U (L2.start N vs) (xs.map lD++Q6 (N.length - xs.length) QS):=by
 have b:vs.length=xs.length:=Paired.length h;unfold L2.start;refine⟨by rw[Q3,Q3,QV,QV,RK,RK,b],fun i x a=> ?_⟩;by_cases hi:i<xs.length
 .rw[Ra (by rw[QV];exact hi),Q7] at a
  cases q:xs[i]? with
  |none=>rw[q] at a;cases a
  |some d=>rw[q] at a;cases a;obtain⟨v,e,f⟩:=zP h q;refine⟨v,?_,f⟩;rw[Ra (by rw[QV,b];exact hi),Q7,e];rfl
 .rw[RE (by rw[QV];omega),Tz] at a;split at a<;>cases a
theorem z4 {N:List Str} {vs:List V} {xs:List SV} {g:eT} {t:TS} {Q:VK} {n:Nat} (e:mG K E t g) (h:d4 K n (dj N.length g) vs H Q E):t {nx:=fun _ H'=>Q .TL H',rt:=Q} (L2.start N vs) H:=by
 obtain⟨j,B,U,Z,xs,s,d,w⟩:=h;refine e B _ H U Z _ _ s (G1 d) (WS.imp (WS.bind w) fun f X Z1 S l b a=> ?_);cases f with
 |rt x=>exact WS.now (E:=E) b a
 |nx ρ=>exact fun M i=>WS.now (E:=E) b a .TL .TL
 |bk ρ=>exact a.elim
 |ct ρ=>exact a.elim
end
theorem QH {P:Rt} {w:RM} {K:QR} {mg:Str->Option QT} {base:Heap} {x a:Str} {b:Ts} {f:QX} {fd:Sj} {N ps:List Str} {k n m:Nat} {g:eT} {e:i7} (F:Ut K x a b f fd) (S:TN N ps (aG b)) (hn:ps.length=n) (hm:N.length=m) (o:e=dj m g)
  (p:∀(d:QT) (A:RG) (outer:List Env) (s:Q0) (H:Hp) (E:XK),Tt k (A.deeper (Ry a (aG b) s.heap.objs.size f d))->
   ∃t,Xi (fV dm P w K mg base N a (aG b) f d A outer s H E).nox (cr b) t/\mG K E t g):FnOk P w K mg base dm (k+1) f fd ps (d4 K n e):=by
 subst o hm;refine F.ok S (fun vs H Q E h=>h.1.trans hn.symm) (fun d A outer s H vs Q E l h=> ?_);obtain⟨t,i,j⟩:=p d A outer s H E l;exact⟨t,i,z4 (xs:=[]) j h⟩
theorem PL {P:Rt} {w:RM} {K:QR} {mg:Str->Option QT} {base:Heap} {x a:Str} {b:Ts} {f:QX} {fd:Sj} {N ps:List Str} {k n m:Nat} {g:eT} {i:i7} (F:Ut K x a b f fd) (S:TN N ps (aG b)) (hn:ps.length=n) (hm:N.length=m) (q:i=dj m g)
  (v:∀(d:QT) (A:RG) (outer:List Env) (s:Q0) (H:Hp) (E:XK),Tt k (A.deeper (Ry a (aG b) s.heap.objs.size f d))->
   ∃t,Xi (fV (L4.mF P w) P w K mg base N a (aG b) f d A outer s H E) (cr b) t/\mG K E t g):FnOk P w K mg base (L4.mF P w) (k+1) f fd ps (d4 K n i):=by
 subst q hm;obtain⟨B,z,kV,r,y,C,d,ct,G,rfl,j,u⟩:=F.ex;refine G0 j u S (fun vs H Q E h=>h.1.trans hn.symm) fun A outer s H vs Q E p e=> ?_;obtain⟨t,l,o⟩:=v d A outer s H E p;exact⟨t,l,z4 (xs:=[]) o e⟩
abbrev Jb (P:Rt) (w:RM) (K:QR) (mg:Str->Option QT) (base:Heap) (k:Nat) (x:Str) (ps:List Str) (n:Nat) (F:i7):Prop:=xk P w K mg base k x ps (d4 K n F)
end L10
namespace PySem.W
open PySem PySem.Calls PyProof.Rows PyProof.V PySem.Spec
section
variable {prog:Rt} {w:RM} {A:RG} {E:QT->Q0->Prop} {s:Q0} {T:String} {r d:QX} {n:Nat} {P:Nat->QT->Prop} {OK:Heap->Prop}
theorem collect_kdl (K:KdlSrc prog w T r d n P OK) (i:A.handled=QS) (Su:OK s.heap) (hn:n<=Q8)
  (l:∀h' tk acc,(∀b o,s.heap.get? b=lD o->h'.get? b=lD o)->Wo P acc n->Q acc.toList {s with heap:=h',toks:=tk}):wpAny (model prog w) A (collect (.ref r)) Q E s:=by
 have f:=K.there _ Su;unfold collect;refine Ld (wpAny_runValue (UA F.entry_proto_collect ?_));rw[RG.under_plainId F.plain_proto_collect _];refine Ld (Sb ?_);refine Q1 ⟨T6 F.plain_list_iadd _,UA F.entry_list_iadd ?_⟩;rw[RG.under_plainId F.plain_list_iadd _];have j:(s.heap.push {cls:= .type "list",data:= .seq ([]:List QT).toArray}).get? s.heap.objs.size=lD {cls:= .type "list",data:= .seq ([]:List QT).toArray}:=Heap.get?_push_size _ rfl;refine kdl_extend (R:=wants (fun v g=>wpAny (model prog w) A (match v with| .ref a=>(load a>>=fun o=>match o.data with| .seq xs _=>pure xs.toList|_=>unsupported "internal:collect")|_=>unsupported "internal:collect") Q E g) E) (s:={s with heap:=s.heap.push {cls:= .type "list",data:= .seq ([]:List QT).toArray}}) K i (K.keep _ _ Su fun b _ o e=>Heap.get?_push_of_some _ e) _ (So f.1) (So f.2) _ 0 j (fun h' tk q t h p m=> ?_) hn;refine Ld (acd p ?_);exact Q1 (l h' tk q (fun b o e=>h b o (Rr (Heap.lt_size e)) (Heap.get?_push_of_some _ e)) m)
end
end PySem.W
namespace PyProof.Rows
open PySem
section
variable {prog:Rt} {w:RM} {A:RG} {E:QT->Q0->Prop} {s:Q0} {T:String} {r d:QX} {n:Nat} {P:Nat->QT->Prop} {OK:Heap->Prop}
theorem zm (K:PySem.W.KdlSrc prog w T r d n P OK) (p:A.handled=QS) (Su:OK s.heap) (l:n<64) (t:∀acc:Array QT,Wo P acc n->IntsAre acc.toList ns)
  (h:∀(a h':Heap) (g:Nat) (out:Array QT) (e:Nat) (f:List Int),(∀b o,s.heap.get? b=lD o->a.get? b=lD o)->h'.get? a.objs.size=lD (seqObj "list" out e)->(∀b o,a.get? b=lD o->h'.get? b=lD o)->IntsAre out.toList f->f.Perm ns->f.Pairwise (·<=·)->Q (.ref a.objs.size) {s with heap:=h',toks:=g}):
  wpAny (model prog w) A (call (.builtin "sorted") [.ref r]) Q E s:=by
 refine Calls.call_function_entry kind_sorted plain_sorted entry_sorted (args_sorted1 _) (Ld (Q1 (Ld (PySem.W.collect_kdl K p Su (by rw[Tv];omega) (fun a g acc m hi=>Ld (ahD ?_ (hsz:=by rw[Sa,hi.1,Tv];omega)))))));have i:(a.push (seqObj "list" acc.toList.toArray 0)).get? a.objs.size=lD (seqObj "list" acc.toList.toArray 0):=Heap.get?_push_size _ rfl;have j:=t acc hi;refine Ld (SG (S3 slot_list_sort ⟨_,i,rfl⟩ entry_list_sort (list_sort_tree i j (by rw[Sa,hi.1];exact l) fun out f y v u=>⟨_,rfl,Q1 ⟨_,rfl,?_⟩⟩) (args_list_sort _)));obtain⟨e,q⟩:=rn i;exact h a _ g out e f m q (fun b B z=>pd (Rr (Heap.lt_size z)) (Heap.get?_push_of_some _ z)) y v u
end
end PyProof.Rows
namespace L10
open PySem PySem.Spec PyProof.Rows L2 L3
def Pw (p d:QX):HO:= .ext fun h=>h.IsValuesView p d
theorem Pa (x:h.IsValuesView p d):ObjOk P w H h p (Pw p d):=⟨x,let⟨o,a,_⟩:=x;⟨o,a⟩,fun f e ⟨o,a,b⟩ k=>⟨o,k o a,b⟩⟩
def KS:V->List V->Hp->VK->Prop:=fun x vs H Q=>∃a Rz,x= .ref a/\vs=[]/\H a=lD (.dK Rz)/\∀p,H p=QS->Q (.ref p) (bC H p (Pw p a))
theorem ub:PK X "dict.values" KS:=by intro f s l H x xs v m Q I g d h;obtain⟨a,Rz,rfl,rfl,e,q⟩:=h;cases g;cases d;obtain⟨z,j,vs,i,dd⟩:=xT I.Su e;refine call_meetsIn Vm dd.typeIs PySem.F.entry_dict_values (PySem.F.args_dict_values_1 _) (meets_dict_values (cV X.prog X.w) a j) ⟨⟨vs,dd⟩,?_⟩;refine⟨.ref s.heap.objs.size,_,I.laid (fun b o e=>Heap.get?_push_of_some _ e) (Q4 _) (Pa ⟨_,Heap.get?_push_size _ rfl,rfl,rfl⟩),rfl,q _ (I.Su.fresh (Q4 _))⟩
def Ew:List V->Hp->VK->Prop:=fun xs H Q=>∃p a Rz,xs=[.ref p]/\H p=lD (Pw p a)/\H a=lD (.dK Rz)/\∀l,H l=QS->Q (.ref l) (bC H l (.lst (Rz.map (·.2))))
theorem B3:∀{Rz:List (κ×V)} {vs:List (κ×QT)},KV Rz vs->Vals (Rz.map (·.2)) (vs.map (·.2))
 |_,_,.nil=> .nil
 |_,_,.cons h t=> .cons h.2 (B3 t)
theorem ro (m:X.calm=QW):Us X (.type "list") Ew:=by intro f s B H xs C Q I r h;obtain⟨p,a,Rz,rfl,t,e,q⟩:=h;obtain⟨u,rfl,i⟩:=kM r;cases i;obtain⟨z,F,vs,b,dd⟩:=xT I.Su e;obtain⟨J,A⟩:=dd.dictAt;obtain⟨g,_,_⟩:=I.Su p _ t;refine PySem.W.kdl_call (PySem.W.kdl_values) (I.ok.hd m) ⟨g,A⟩ (by rw[<-b.length];exact z) fun G E d c l n hi=> ?_;have y:=PySem.W.kdl_vals_eq d.toList (by rw[Sa];exact hi.1) fun j v w=>hi.2 j v (by rw[<-UI];exact w);refine⟨.ref s.heap.objs.size,_,I.laid (o:= .lst (Rz.map (·.2))) l (Q4 _) ⟨by rw[QV];exact z,d.toList,c,by rw[y];exact B3 b,by rw[Zi];exact n⟩,rfl,q _ (I.Su.fresh (Q4 _))⟩
def EE:List V->Hp->VK->Prop:=fun xs H Q=>∃(p:QX) (Rz:List (cH×V)) (a:List Int),xs=[.ref p]/\H p=lD (.dK Rz)/\Rz.map (·.1)=a.map Sum.inl/\a.length<64/\∀(l:QX) (b:List Int),H l=QS->b.Perm a->b.Pairwise (·<=·)->Q (.ref l) (bC H l (.lst (b.map V.int)))
theorem sY:∀{vs:List (cH×QT)} {a:List Int} {us:List QT},vs.map (·.1)=a.map Sum.inl->us.length=vs.length->(∀(j:Nat) (u:QT),us[j]? =lD u->∃k x,vs[j]? =lD (k,x)/\(cV prog w).is k u=QW)->IntsAre us a
 |[],[],[],_,_,_=> .nil
 |[],[],_::_,_,h,_=>by simp at h
 |[],_::_,_,h,_,_=>by simp at h
 |_::_,[],_,h,_,_=>by simp at h
 |_::_,_::_,[],_,h,_=>by simp at h
 |(k,y)::vs,n::a,u::us,h1,h2,h3=>by rw[Ri,Ri,aiT] at h1;obtain⟨g,x,e,d⟩:=h3 0 u rfl;cases e;have f:=h1.1;subst f;obtain⟨t,rfl⟩:=QT.isInt_shape (show QT.isInt n u=QW from d);exact .cons _ _ (sY h1.2 (by simpa using h2) fun j b e=>h3 (j+1) b (by simpa using e))
theorem se (B:X.calm=QW):Us X (.builtin "sorted") EE:=by
 intro f s N H xs O Q I r h;obtain⟨p,Rz,g,rfl,e,F,C,q⟩:=h;obtain⟨u,rfl,n⟩:=kM r;cases n;obtain⟨z,A,vs,b,dd⟩:=xT I.Su e;obtain⟨T,K⟩:=dd.dictAt;have i:vs.map (·.1)=g.map Sum.inl:=by rw[<-b.keys];exact F
 have R:vs.length=g.length:=by have:=congrArg Vu i;simpa using this
 refine zm (PySem.W.kdl_dict A) (I.ok.hd B) K (by omega) (fun L hi=>sY i (by rw[Sa];exact hi.1) fun j v G=>hi.2 j v (by rw[<-UI];exact G)) fun E S P d J o w y M hi l t=> ?_;have a:=l.length_eq;have m:=I.kept (t':=s.toks) w;refine⟨.ref E.objs.size,_,m.laid M (Q4 _) ?_,rfl,q _ o (m.Su.fresh (Q4 _)) l t⟩;refine⟨?_,d.toList,J,i9 hi,y⟩;rw[QV,a];have:(64:Nat)<=Q8:=by decide
 omega
end L10
namespace PySem
open Sem (wp)
namespace F
theorem lk_tuple_keys:typeLookup (.type "tuple") "keys"=pure QS:=by rw[WX,U4];kernel_rfl
theorem lk_tuple_hook:typeLookup (.type "tuple") "__getattr__"=pure QS:=by rw[WX,U4];kernel_rfl
theorem sub_ae:isSubtype (.type "AttributeError") (.type "AttributeError")=pure QW:=by rw[afM];kernel_rfl
end F
section
variable {prog:Rt} {w:RM} {A:RG} {E:QT->Q0->Prop} {h:Heap} {g:Array Wl} {d:aap} {t:Nat} {os:Y3} {a:QX} {o:Obj}
theorem zY {α:Type} {name f:Str} {Q:α->Q0->Prop} {E:QT->Q0->Prop} (hm:f.length<=Q8) (l:A.handled=QS) (i:∀e h' t',(∀b o,h.get? b=lD o->h'.get? b=lD o)->(⟨h',g,d,t',os⟩:Q0).TypeIs e "AttributeError"->E e ⟨h',g,d,t',os⟩):
  wpAny (model prog w) A (raiseAttrError (.ref a) name f:Sem α) Q E ⟨h,g,d,t,os⟩:=by
 have j:¬f.length>Q8:=Nat.not_lt.mpr hm;unfold raiseAttrError newExc newTuple
 repeat (any_goals (first|assumption|wp_step))
 refine YE (a:=QW) F.sub_ae ?_
 repeat (any_goals (first|assumption|wp_step))
 refine abT l (i _ _ _ (fun b o e=> ?_) ?_)
 .exact(Heap.get?_update_other _ _ (Ne.symm (Rr (Heap.lt_size (Heap.get?_push_of_some _ e))))).trans (Heap.get?_push_of_some _ (Heap.get?_push_of_some _ e))
 .exact⟨_,Heap.get?_update_self _ (Heap.get?_push_size _ rfl) rfl,rfl⟩
theorem n6 {f:Tok} {Q:Fin->Q0->Prop} {E:QT->Q0->Prop} {p:Array QT} {n:Nat} {i:Array (Option QT)} (j:h.get? a=lD ⟨.type "tuple",QS,.seq p n,i⟩) (m:A.handled=QS) (l:∀e h' t',(∀b o,h.get? b=lD o->h'.get? b=lD o)->(⟨h',g,d,t',os⟩:Q0).TypeIs e "AttributeError"->E e ⟨h',g,d,t',os⟩):
  wpAny (model prog w) A (Builtin.«object.__getattribute__» ⟨[.ref a,.str "keys" f],[]⟩) Q E ⟨h,g,d,t,os⟩:=by
 have q:(⟨h,g,d,t,os⟩:Q0).TypeIs (.ref a) "tuple":=⟨_,j,rfl⟩;have r:=F.lk_tuple_keys
 repeat (any_goals (first|assumption|wp_step))
 exact zY (by left) m l
theorem tM {f:Tok} {Q:QT->Q0->Prop} {E:QT->Q0->Prop} {u:Array QT} {n:Nat} {l:Array (Option QT)} (i:h.get? a=lD ⟨.type "tuple",QS,.seq u n,l⟩) (q:A.handled=QS) (m:∀e h' t',(∀b o,h.get? b=lD o->h'.get? b=lD o)->(⟨h',g,d,t',os⟩:Q0).TypeIs e "AttributeError"->E e ⟨h',g,d,t',os⟩):
  wpAny (model prog w) A (getAttrBy (.ref a) (.str "keys" f) Q2) Q E ⟨h,g,d,t,os⟩:=by
 have r:(⟨h,g,d,t,os⟩:Q0).TypeIs (.ref a) "tuple":=⟨_,i,rfl⟩;have z:=F.slot_tuple_getattribute.lookup;have y:=F.slot_tuple_getattribute.bind (.ref a);have v:=F.lk_tuple_hook
 repeat (any_goals (first|assumption|wp_step))
 refine Ve F.slot_tuple_getattribute.plain F.entry_tuple_ga (F.slot_tuple_getattribute.check _ _ _ _ _ _ _ _ r (F.args_tuple_getattribute_2 _ _) (n6 i q fun e h' t' p j=> ?_));have fs:=F.sub_ae;show wpAny (model prog w) A (getattributeRaised (QT.ref a) (QT.str (Str.ofString "keys") f) (QT.type "tuple") e QS Q2 Q2) Q E _;unfold getattributeRaised;refine Ld (Wn j fs ?_)
 repeat (any_goals (first|assumption|wp_step))
 exact m e h' t' p j
theorem pK (f:h.get? a=lD ⟨.type "tuple",QS,.seq RQ n,sl⟩) (l:A.handled=QS) (i:∀h' t',(∀b o,h.get? b=lD o->h'.get? b=lD o)->Q QS ⟨h',g,d,t',os⟩):
  wpAny (model prog w) A (getAttr? (.ref a) "keys") Q E ⟨h,g,d,t,os⟩:=by
 unfold getAttr? getAttrBy?;have fs:=F.sub_ae;refine Ld ?_
 repeat (any_goals (first|assumption|(specialize tM f l fun e h' t' j m=> ?_)|wp_step))
 exact i h' t' j
namespace F
theorem entry_upd_loop:entryFor table "dict.update.loop"=lD Builtin.«dict.update.loop»:=entryFor_of_tree (by kernel_rfl)
theorem plain_upd_loop:plainId "dict.update.loop"=QW:=by left
end F
end
section
variable {prog:Rt} {w:RM} {A:RG} {E:QT->Q0->Prop} {s:Q0} {K:Type} [DecidableEq K] {knd:KeyKind prog w K} {I dd Z:QX} {items:Array QT} {ks:List (K×QT)} {R:Xj->Q0->Prop}
theorem zG (Rz:List (K×QT)) (k:K) (v:QT):(stored Rz k v).length<=Rz.length+1:=by
 unfold stored;split
 .rw[QV];omega
 .rw[Q3];exact Q4 _
theorem pB:∀(a Rz:List (K×QT)),(merged Rz a).length<=Rz.length+a.length
 |[],Rz=>Q4 _
 |p::r,Rz=>by have d:=pB r (stored Rz p.1 p.2);have b:=zG Rz p.1 p.2;show(merged (stored Rz p.1 p.2) r).length<=_;rw[Rg];omega
theorem zq (a:List (K×QT)):(merged [] a).length<=a.length:=by have:=pB a [];simpa using this
theorem F5 {N:Heap} (hh:A.handled=QS) (Wr:Z≠I) (M:I≠dd) (L:Z≠dd) (hp:∀(i:Nat) (v:QT),items[i]? =lD v->∃q key k x,v= .ref q/\q≠dd/\q≠I/\ks[i]? =lD (k,x)/\knd.is k key=QW/\N.IsTuple q #[key,x]) (hs:ks.length=items.size) (hz:items.size<=Q8)
  (hR:∀h' g,h'.DictOf knd dd (merged [] ks)->(∀b o,b≠dd->b≠I->N.get? b=lD o->h'.get? b=lD o)->R (.ok (.ret .none)) {s with heap:=h',toks:=g}):
  ∀(m i:Nat) (h:Heap) (g:Nat),items.size - i=m->i<=items.size->h.IsTupleIter I Z i->h.IsTuple Z items->h.DictOf knd dd (merged [] (ks.take i))->(∀b o,b≠dd->b≠I->N.get? b=lD o->h.get? b=lD o)->
   codeAny (model prog w) A (.builtin "dict.update.loop" ⟨[.ref dd,.ref I,rawInt i,.none],[]⟩) R {s with heap:=h,toks:=g}:=by
 have W:=acW.tuple (prog:=prog) (w:=w) (A:=A.in1) hh I Z Wr items;intro m
 induction m with
 |zero=>
  intro i h g hm hi y t p n;have e:i=items.size:=by omega
  subst e;refine UA F.entry_upd_loop ?_;rw[RG.under_plainId F.plain_upd_loop _];refine Ld (W.done _ _ _ ⟨y,t⟩ fun h' r d=> ?_);rw[List.take_of_length_le (by omega)] at p;refine Ld (Q1 (Q1 ?_));refine hR h' r (p.at fun o e=>d dd o (by simp;exact fun z=>M z.symm) e) fun b o f a e=>d b o (by simp;exact a) (n b o f a e)
 |succ m Y=>
  intro i h g hm hi y t p n;have S:i<items.size:=by omega
  refine UA F.entry_upd_loop ?_;rw[RG.under_plainId F.plain_upd_loop _];refine Ld (W.item i _ _ _ S ⟨y,t⟩ fun v h' r hv Q d=> ?_);obtain⟨q,key,k,x,rfl,C,j,G,YK,ht⟩:=hp i v hv;have B:=ht.at fun o e=>d q o (by simp;exact j) (n q o C j e);have P:=p.at fun o e=>d dd o (by simp;exact fun z=>M z.symm) e;have u:=fun b o f a e=>d b o (by simp;exact a) (n b o f a e);obtain⟨X,l,J,nq,H⟩:=B;obtain⟨cq,dq,dtq,T⟩:=X;cases J;cases H;have hT:({s with heap:=h',toks:=r}:Q0).TypeIs (.ref q) "tuple":=⟨_,l,rfl⟩;refine Ld (SG (Ld ?_));refine Xl ?_;unfold Builtin.Dict.pairItems;refine Ld (Ul hT ?_);rw[if_pos (by decide)];refine Ld ?_;unfold seqItems?;refine Ld (acd l (Q1 (Q1 ?_)));refine SG (wpAny_dictSet_pairs YK P (fun a d2 U=> ?_) ?_)
  .refine Q1 ⟨T6 F.plain_upd_loop _,?_⟩;have O:∀b o,b≠dd->h'.get? b=lD o->a.get? b=lD o:=fun b o hb e=>(U.2 b hb).trans e;refine Y (i+1) a (r+1) (by omega) S (Q.1.at fun o e=>O I o M e) (Q.2.at fun o e=>O Z o L e) ?_ fun b o f a e=>O b o f (u b o f a e);rw[merged_take_succ [] ks i (k,x) G];exact d2
  .have:(merged [] (ks.take i)).length<=(ks.take i).length:=zq _;rw[SI] at this;omega
end
end PySem
namespace PySem
open Sem (wp)
open PyProof.Rows
section
variable {prog:Rt} {w:RM} {A:RG} {E:QT->Q0->Prop} {s:Q0} {K:Type} [DecidableEq K] {knd:KeyKind prog w K} {Z:QX} {items:Array QT} {ks:List (K×QT)} {R:Xj->Q0->Prop}
theorem pU (z:A.handled=QS) (y:s.heap.get? Z=lD ⟨.type "tuple",QS,.seq items n,sl⟩) (G:ks.length=items.size) (hz:items.size<=Q8)
  (H:∀(i:Nat) (v:QT),items[i]? =lD v->∃q key k x,v= .ref q/\ks[i]? =lD (k,x)/\knd.is k key=QW/\s.heap.IsTuple q #[key,x])
  (h:∀h' tk,h'.DictOf knd s.heap.objs.size (merged [] ks)->(∀b o,s.heap.get? b=lD o->h'.get? b=lD o)->Q (.ref s.heap.objs.size) {s with heap:=h',toks:=tk}):
  wpAny (model prog w) A (call (.type "dict") [.ref Z]) Q E s:=by
 refine afN (Q₁:=fun obj d=>obj= .ref s.heap.objs.size/\d={s with heap:=s.heap.push {cls:= .type "dict",data:= .dict #[]}}) F.kt_called_dict (F.kt_typeCall_dict_1 _) F.entry_dict_init (kt_code_dict_new _ ⟨rfl,rfl⟩) ?_;rintro obj d ⟨rfl,rfl⟩;have a:(s.heap.push {cls:= .type "dict",data:= .dict #[]}).DictOf knd s.heap.objs.size []:=Heap.DictOf.new s.heap;have t:(s.heap.push {cls:= .type "dict",data:= .dict #[]}).get? Z=lD ⟨.type "tuple",QS,.seq items n,sl⟩:=Heap.get?_push_of_some _ y;have I:({s with heap:=s.heap.push {cls:= .type "dict",data:= .dict #[]}}:Q0).TypeIs (.ref Z) "tuple":=⟨_,t,rfl⟩;refine⟨a.typeIs,F.args_dict_init_2 _ _,?_⟩;unfold Builtin.«dict.__init__»;refine Ld ?_;unfold Builtin.Dict.selfAndRest;refine Ld (wpAny_notOrdered_dict a.typeIs ?_);refine Q1 ?_;show wpAny _ _ (Builtin.Dict.updateFrom "dict.__init__" s.heap.objs.size (.ref Z) [] .none) _ _ _;unfold Builtin.Dict.updateFrom;refine Ld (Ul I ?_);rw[if_pos (by decide)];refine Ld (pK t z fun h' B j=> ?_);rw[if_pos (show(QS:Option QT).isNone=QW from rfl)];refine Ld (WG ?_);have g:=j _ _ t;have p:h'.IsTuple Z items:=⟨_,g,rfl,n,rfl⟩;refine Ld (W5 p ?_);refine Q1 ⟨T6 F.plain_upd_loop _,?_⟩;have NO:s.heap.objs.size<h'.objs.size:=by obtain⟨o,_,_,l,_⟩:=a;exact Heap.lt_size (j _ _ l)
 have f:=Heap.lt_size y;refine F5 (A:=A.in1) (knd:=knd) z (Rr (UD f NO)) (So NO) (Rr f) (fun i v e=> ?_) G hz (fun r m M C=> ?_) items.size 0 _ B (by omega) (RZ _) ⟨_,Heap.get?_push_size _ rfl,rfl,rfl⟩ ⟨_,Heap.get?_push_of_some _ g,rfl,n,rfl⟩ ?_ fun b o _ _ e=>e
 .obtain⟨q,key,k,x,rfl,L,r,o,l,J⟩:=H i v e;have u:=Heap.lt_size l;exact⟨q,key,k,x,rfl,Rr u,Rr (UD u NO),L,r,o,Heap.get?_push_of_some _ (j _ _ (Heap.get?_push_of_some _ l)),J⟩
 .refine⟨rfl,h r m M fun b o e=> ?_⟩;have lb:=Heap.lt_size e;exact C b o (Rr lb) (Rr (UD lb NO)) (Heap.get?_push_of_some _ (j _ _ (Heap.get?_push_of_some _ e)))
 .have:=a.at (h':=h'.push {cls:= .type "tuple_iterator",data:= .fields #[.ref Z,.int 0 0]}) fun o e=>Heap.get?_push_of_some _ (j _ _ e);exact this
end
end PySem
namespace L10
open PySem PySem.Spec PyProof.Rows L2 L3
inductive Yk (K:QR) (H:Hp):List V->List (cH×V)->Prop
 |nil:Yk K H [] []
 |cons {q:QX} {k:cH} {v:V} {vs:List V} {Rz:List (cH×V)}:Vo K H q [kV k,v]->Yk K H vs Rz->Yk K H (.ref q::vs) ((k,v)::Rz)
def F0 (K:QR):List V->Hp->VK->Prop:=fun xs H Q=>∃p ys Rz,xs=[.ref p]/\Vo K H p ys/\Yk K H ys Rz/\∀d,H d=QS->Q (.ref d) (bC H d (.dK (oa [] Rz)))
theorem Fd (I:Inv X pins σ H s):∀{g:List V} {Rz:List (cH×V)} {us:List QT},Yk X.K H g Rz->Vals g us->∃ks:List (cH×QT),KV Rz ks/\ks.length=us.length/\∀(i:Nat) (v:QT),us[i]? =lD v->∃q key k x,v= .ref q/\ks[i]? =lD (k,x)/\(cV X.prog X.w).is k key=QW/\s.heap.IsTuple q #[key,x]
 |_,_,_,.nil,.nil=>⟨[],.nil,rfl,fun i v e=>by simp at e⟩
 |_,_,_,.cons (q:=q) (k:=k) (v:=v) h t,.cons r rs=>by
  obtain⟨ks,o,n,m⟩:=Fd I t rs;obtain⟨p,rv,pl,_⟩:=I.tuple h;cases r;obtain⟨f,d,rfl,l,j⟩:∃f d,p=[f,d]/\RelV (kV k) f/\RelV v d:=by
   cases rv with
   |cons a b=>cases b with
    |cons b c=>cases c;exact⟨_,_,rfl,a,b⟩
  refine⟨(k,d)::ks,.cons ⟨rfl,j⟩ o,by rw[Rg,Rg,n],fun i u e=> ?_⟩;cases i with
  |zero=>cases e;exact⟨q,f,k,d,rfl,rfl,uc l,pl⟩
  |succ i=>exact m i u (by simpa using e)
theorem zr (F:X.calm=QW):Us X (.type "dict") (F0 X.K):=by
 intro d s G H xs L Q I r h;obtain⟨p,J,Rz,rfl,w,y,q⟩:=h;obtain⟨u,rfl,g⟩:=kM r;cases g;obtain⟨T,rv,⟨o,z,⟨b,n,E⟩,a⟩,t⟩:=I.acP w;obtain⟨P,f,m,l⟩:=Fd I y rv;obtain⟨O,N,j,S⟩:=o;cases b;cases E;cases a;have A:=rv.length;have B:=f.length;refine pU (I.ok.hd F) z (by rw[Q9];exact m) (by rw[Q9,<-A];exact t) (fun i v e=>l i v (by simpa using e)) fun R M dd C=> ?_;refine⟨.ref s.heap.objs.size,_,I.laid C (Q4 _) ?_,rfl,q _ (I.Su.fresh (Q4 _))⟩;refine Aj ?_ ?_ (KV.merge f .nil) dd
 .have:=lG Rz [];rw[SD] at this;omega
 .exact beq_eq_false_iff_ne.mpr (So I.big)
end L10
namespace L10
open PySem PyProof.Rows L2 L3
theorem Mg:Sr "dict"=lD (.type "dict"):=by left
section
variable {B O O':ci} {K:QR} {E:XK} {H H' R P:Hp} {Y α' U T:List QX} {Z Z' Z1 X:a9} {S:L2.St} {ρ:bx} {v:V}
def tJ:SV->Option cH
 | .fz (.int i)=>lD (.inl i)
 | .fz (.str x)=>lD (.inr x)
 |_=>QS
theorem pW (e:tJ x=lD k) (h:Uw O K H Y v x):v=kV k:=by
 unfold tJ at e;split at e
 .cases e;cases h;rfl
 .cases e;cases h;rfl
 .cases e
abbrev vf (O:ci) (K:QR) (H:Hp) (Y:List QX):List (cH×V)->List (cH×SV)->Prop:=Paired (fun(p:cH×V) (q:cH×SV)=>p.1=q.1/\Uw O K H Y p.2 q.2)
def iq (Z:a9):SV->Option (Nat×List (cH×SV))
 | .rf i=>match Z[i]? with
  |some (.Xd Rz)=>lD (i,Rz)
  |_=>QS
 |_=>QS
theorem md (s:RF B K H Y Z) (b:Uw (ow B Y Z) K H Y v x) (h:iq Z x=lD (i,Rz)):Z[i]? =lD (.Xd Rz)/\∃a ws,Y[i]? =lD a/\v= .ref a/\H a=lD (.dK ws)/\vf (ow B Y Z) K H Y ws Rz:=by
 cases x with
 |fz d=>cases h
 |tp l=>cases h
 |rf j=>
  obtain⟨a,ha,rfl⟩:=b;unfold iq at h;dsimp only at h;cases q:Z[j]? with
  |none=>rw[q] at h;cases h
  |some c=>
   rw[q] at h;cases c with
   |Xd m=>have e:=Rm h;cases e;obtain⟨ws,g,f⟩:=s.Ye i a _ ha q;exact⟨q,a,ws,ha,rfl,g,f⟩
   |_=>cases h
def jJ (Rz:List (cH×SV)) (k:cH):Option SV:=(Rz.find? fun a=>decide (a.1=k)).map (·.2)
def jZ (Rz:List (cH×SV)) (k:cH) (x:SV):List (cH×SV):=
 if(Rz.any fun a=>decide (a.1=k))=QW then Rz.map (fun a=>if a.1=k then(a.1,x) else a) else Rz++[(k,x)]
def l7 (Rz:List (cH×SV)) (k:cH):List (cH×SV):=Rz.filter fun a=>decide (a.1≠k)
theorem qj:∀{ws:List (cH×V)} {Rz:List (cH×SV)},vf O K H Y ws Rz->(∀x,jJ Rz k=lD x->∃v,j8 ws k=lD v/\Uw O K H Y v x)/\(jJ Rz k=QS->j8 ws k=QS)
 |_,_,.nil=>⟨fun x e=>(by cases e),fun _=>rfl⟩
 |(a,u)::ws,(b,y)::Rz,.cons ⟨h1,h2⟩ t=>by
  cases h1;unfold jJ j8;rw[RP,RP];by_cases e:a=k
  .simp only[decide_eq_true e];exact⟨fun x h=>⟨u,rfl,by cases h;exact h2⟩,fun h=>by cases h⟩
  .simp only[decide_eq_false e];exact qj t
theorem N5:∀{ws:List (cH×V)} {Rz:List (cH×SV)},vf O K H Y ws Rz->(ws.any fun kv=>decide (kv.1=k))=Rz.any fun kv=>decide (kv.1=k)
 |_,_,.nil=>rfl
 |(a,u)::ws,(b,y)::Rz,.cons ⟨h1,h2⟩ t=>by cases h1;rw[US,US,N5 t]
theorem LF (d:Uw O K H Y v x):∀{ws:List (cH×V)} {Rz:List (cH×SV)},vf O K H Y ws Rz->vf O K H Y (ws.map (fun kv=>if kv.1=k then(kv.1,v) else kv)) (Rz.map (fun kv=>if kv.1=k then(kv.1,x) else kv))
 |_,_,.nil=> .nil
 |(a,u)::ws,(b,y)::Rz,.cons ⟨h1,h2⟩ t=>by
  cases h1;rw[Ri,Ri];by_cases e:a=k
  .rw[if_pos e,if_pos e];exact .cons ⟨rfl,d⟩ (LF d t)
  .rw[if_neg e,if_neg e];exact .cons ⟨rfl,h2⟩ (LF d t)
theorem GZ (h:vf O K H Y ws Rz) (r:p.1=q.1/\Uw O K H Y p.2 q.2):vf O K H Y (ws++[p]) (Rz++[q]):=by
 induction h with
 |nil=>exact .cons r .nil
 |cons a _ b=>exact .cons a b
theorem Ax (a:Uw O K H Y v x) (h:vf O K H Y ws Rz):vf O K H Y (jh ws k v) (jZ Rz k x):=by
 unfold jh jZ;rw[N5 h];split
 .exact LF a h
 .exact GZ h ⟨rfl,a⟩
theorem sB:∀{ws:List (cH×V)} {Rz:List (cH×SV)},vf O K H Y ws Rz->vf O K H Y (mW ws k) (l7 Rz k)
 |_,_,.nil=> .nil
 |(a,u)::ws,(b,y)::Rz,.cons ⟨h1,h2⟩ t=>by
  cases h1;unfold mW l7;rw[T9,T9];by_cases e:a=k
  .have z:decide (a≠k)=Q2:=decide_eq_false fun n=>n e;simp only[z];exact sB t
  .have z:=decide_eq_true e;simp only[z];exact .cons ⟨rfl,h2⟩ (sB t)
def wZ (neg:Bool) (fk fd:dC):dC:=fun ρ Z=>(fk ρ Z).bind fun x Z1=>(fd ρ Z1).bind fun o X=>(RS.Sh X (tJ x)).bind fun k X=>(RS.Sh X (iq X o)).bind fun p X=> .ok (.fz (.bool ((jJ p.2 k).isSome !=neg))) X
theorem D0 (h:vf O K H Y ws Rz):(j8 ws k).isSome=(jJ Rz k).isSome:=by
 obtain⟨b,a⟩:=qj h;cases q:jJ Rz k with
 |none=>rw[a q];rfl
 |some x=>obtain⟨u,e,_⟩:=b x q;rw[e];rfl
theorem JH (n:dc K E tk fk) (hd:dc K E td fd):dc K E (Ob tk td) (wZ Q2 fk fd):=by intro B S H Y Z ρ Q s d w;refine n B S H Y Z ρ _ s d (w.bind.imp fun x U Z1 R r g f v l=> ?_);refine hd B S R U Z1 ρ _ g (d.TU r) (f.bind.imp fun o T X P t e b u m=> ?_);obtain⟨k,j,b⟩:=WS.Sh b;obtain⟨⟨i,Rz⟩,h,b⟩:=WS.Sh b;obtain⟨_,a,ws,ha,rfl,q,p⟩:=md e m h;refine⟨a,j8 ws k,rfl,by rw[pW j l];exact Yz.k q,?_⟩;rw[D0 p];refine WS.now e b _ ?_;rw[Bool.bne_false];exact .bl _
def ul (fd fk:dC):dC:=fun ρ Z=>(fd ρ Z).bind fun o Z1=>(fk ρ Z1).bind fun x X=>(RS.Sh X (tJ x)).bind fun k X=>(RS.Sh X (iq X o)).bind fun p X=>RS.Sh X (jJ p.2 k)
theorem x9 (hd:dc K E td fd) (r:dc K E tk fk):dc K E (K5 td tk) (ul fd fk):=by
 intro B S H Y Z ρ Q s d w;refine hd B S H Y Z ρ _ s d (w.bind.imp fun o U Z1 R F h f u p=> ?_);refine r B S R U Z1 ρ _ h (d.TU F) (f.bind.imp fun x T X P C e b v n=> ?_);obtain⟨k,l,b⟩:=WS.Sh b;obtain⟨⟨i,Rz⟩,j,b⟩:=WS.Sh b;obtain⟨_,a,ws,ha,rfl,A,t⟩:=md e (p.TU C) j;dsimp only at b;cases q:jJ Rz k with
 |none=>rw[q] at b;exact b.elim
 |some y=>rw[q] at b;obtain⟨z,m,g⟩:=(qj t).1 y q;exact⟨a,z,rfl,by rw[pW l n,<-m];exact Yz.k A,WS.now e b z g⟩
def wT (fd fk b:dC):eT:=fun ρ Z=>(b ρ Z).bind fun y Z1=>(fd ρ Z1).bind fun o X=>(fk ρ X).bind fun x a=>(RS.Sh a (tJ x)).bind fun k a=>(RS.Sh a (iq a o)).bind fun p a=>if p.2.length<1000000 then .ok (.nx ρ) (a.set p.1 (.Xd (jZ p.2 k y))) else .bad
theorem Gd (hd:dc K E td fd) (hk:dc K E tk fk) (Q:dc K E tv fv):mG K E (KN td tk tv) (wT fd fk fv):=by
 intro B S H Y Z ρ D s e w;refine Q B S H Y Z ρ _ s e (WS.imp (WS.bind w) fun y U Z1 R p J G q l=> ?_);refine hd B S R U Z1 ρ _ J (e.TU p) (WS.imp (WS.bind G) fun o T X P n I F u hu=> ?_);refine hk B S P T X ρ _ I (e.TU (p.trans n)) (WS.imp (WS.bind F) fun x b f g m t d z N=> ?_);obtain⟨k,M,d⟩:=WS.Sh d;obtain⟨⟨i,Rz⟩,L,d⟩:=WS.Sh d;obtain⟨j,a,ws,ha,rfl,g1,A⟩:=md t (hu.TU m) L;dsimp only at d;by_cases hn:Rz.length<1000000
 .rw[if_pos hn] at d;have ev:Ev (ow B b f) g (ow B b f) (bC g a (.dK (jh ws k q))):=rS ha j (by intro z;cases z);have C:Ta b f g b (f.set i (.Xd (jZ Rz k y))) (bC g a (.dK (jh ws k q))):=Ta.put ha j (by intro z;cases z) (by intro z;cases z);have hl:=Paired.length A;refine⟨a,_,rfl,by rw[pW M N];exact aaV.k g1 (uG (by omega)),?_⟩;exact d b _ C (t.put ha j (by intro z;cases z) (by intro z;cases z) ⟨_,aM,Ax ((l.TU (n.trans m)).ev ev fun _ _ h=>h) (Paired.Vn A fun _ _ r=>⟨r.1,r.2.ev ev fun _ _ h=>h⟩)⟩) S ((e.TU (p.trans (n.trans m))).TU C)
 .rw[if_neg hn] at d;exact d.elim
def wY (fd fk:dC):dC:=fun ρ Z=>(fd ρ Z).bind fun o Z1=>(RS.Sh Z1 (iq Z1 o)).bind fun _ Z1=>(fk ρ Z1).bind fun x X=>(RS.Sh X (tJ x)).bind fun k X=>(RS.Sh X (iq X o)).bind fun p X=>(RS.Sh X (jJ p.2 k)).bind fun y X=> .ok y (X.set p.1 (.Xd (l7 p.2 k)))
theorem Gp (hd:dc K E td fd) (J:dc K E tk fk):dc K E (D9 td tk) (wY fd fk):=by intro B S H Y Z ρ Q s g w;refine hd B S H Y Z ρ _ s g (w.bind.imp fun o U Z1 R e1 l e u m=> ?_);obtain⟨⟨i0,agp⟩,F,e⟩:=WS.Sh e;obtain⟨_,a,d,_,rfl,M,_⟩:=md l m F;refine⟨a,rfl,.inl ⟨d,.inl M⟩,?_⟩;refine J B S R U Z1 ρ _ l (g.TU e1) (e.bind.imp fun x T X P e2 j b v I=> ?_);obtain⟨k,C,b⟩:=WS.Sh b;obtain⟨⟨i,Rz⟩,A,b⟩:=WS.Sh b;obtain⟨f,a',ws,ha,N,L,n⟩:=md j (m.TU e2) A;cases N;dsimp only at b;obtain⟨y,q,b⟩:=WS.Sh b;obtain⟨z,G,t⟩:=(qj n).1 y q;have ev:Ev (ow B T X) P (ow B T X) (bC P a (.dK (mW ws k))):=rS ha f (by intro z;cases z);have p:Ta T X P T (X.set i (.Xd (l7 Rz k))) (bC P a (.dK (mW ws k))):=Ta.put ha f (by intro z;cases z) (by intro z;cases z);refine⟨ws,k,z,L,pW C I,G,?_⟩;exact b T _ p (j.put ha f (by intro z;cases z) (by intro z;cases z) ⟨_,aM,sB (Paired.Vn n fun _ _ r=>⟨r.1,r.2.ev ev fun _ _ h=>h⟩)⟩) z (t.TU p)
theorem nc (s:RF B K H Y Z) (a:H p=QS) (w:WS K E B H Y Z (PQ B K Q) (.ok (.rf Z.length) (Z++[c]))) (d:∀e:Ta Y Z H (Y++[p]) (Z++[c]) (bC H p o),COk (ow B (Y++[p]) (Z++[c])) K (bC H p o) (Y++[p]) p c):Q (.ref p) (bC H p o):=by have b:S6 H (bC H p o):=b4 a _;have e:Ta Y Z H (Y++[p]) (Z++[c]) (bC H p o):=Ta.Yf s.len b a;exact w _ _ e (s.Yf b a (by rw[aM];simp) (d e)) _ ⟨p,by rw[<-s.len];exact aY,rfl⟩
def Ba (fd:dC):dC:=fun ρ Z=>(fd ρ Z).bind fun o Z1=>(RS.Sh Z1 (iq Z1 o)).bind fun p Z1=> .ok (.rf Z1.length) (Z1++[.lst (p.2.map (·.2))])
theorem yz:∀{ws:List (cH×V)} {Rz:List (cH×SV)},vf O K H Y ws Rz->Um O K H Y (ws.map (·.2)) (Rz.map (·.2))
 |_,_,.nil=> .nil
 |_,_,.cons h t=> .cons h.2 (yz t)
theorem wQ (hd:dc K E td fd):dc K E (KL Ew (jW (Oo K "dict" KS td) pQ)) (Ba fd):=by intro B S H Y Z ρ Q s j w;refine hd B S H Y Z ρ _ s j (w.bind.imp fun o U Z1 R C g d u q=> ?_);obtain⟨⟨i,Rz⟩,n,d⟩:=WS.Sh d;obtain⟨A,a,ws,ha,rfl,f,z⟩:=md g q n;refine⟨.inr (.inr (.inl ⟨rfl,.inl ⟨ws,f⟩⟩)),a,ws,rfl,rfl,f,fun p t=> ?_⟩;have b:S6 R (bC R p (Pw p a)):=b4 t _;have m:=g.grow b;have h:=WS.from (Ta.same b) d;refine⟨p,a,ws,rfl,aM,b _ _ f,fun l y=> ?_⟩;refine nc m y h fun e=>⟨_,aM,yz (Paired.Vn z fun _ _ r=>⟨r.1,(r.2.TU (Ta.same b)).TU e⟩)⟩
def yI:cH->Option Int
 | .inl i=>lD i
 | .inr _=>QS
def t6 (fd:dC):dC:=fun ρ Z=>(fd ρ Z).bind fun o Z1=>(RS.Sh Z1 (iq Z1 o)).bind fun p Z1=>(RS.Sh Z1 (aQ yI (p.2.map (·.1)))).bind fun a Z1=>if a.length<64 then .ok (.rf Z1.length) (Z1++[.lst ((kr a).map fun i=>SV.fz (.int i))]) else .bad
theorem rR:∀{ks:List cH} {a:List Int},aQ yI ks=lD a->ks=a.map Sum.inl
 |[],_,e=>by cases e;rfl
 |k::r,a,e=>by
  unfold aQ at e;cases k with
  |inr x=>cases e
  |inl i=>
   dsimp only[yI] at e;cases q:aQ yI r with
   |none=>rw[q] at e;cases e
   |some b=>rw[q] at e;cases e;rw[Ri,<-rR q]
theorem xm:∀{ws:List (cH×V)} {Rz:List (cH×SV)},vf O K H Y ws Rz->ws.map (·.1)=Rz.map (·.1)
 |_,_,.nil=>rfl
 |_,_,.cons h t=>by rw[Ri,Ri,h.1,xm t]
theorem Aw (O:ci) (K:QR) (H:Hp) (Y:List QX):∀ns:List Int,Um O K H Y (ns.map V.int) (ns.map fun i=>SV.fz (.int i))
 |[]=> .nil
 |n::r=> .cons (.int n) (Aw O K H Y r)
theorem wW (hd:dc K E td fd):dc K E (KL EE (jW td pQ)) (t6 fd):=by
 intro B S H Y Z ρ Q s g w;refine hd B S H Y Z ρ _ s g (w.bind.imp fun o U Z1 R C f b u m=> ?_);obtain⟨⟨i,Rz⟩,j,b⟩:=WS.Sh b;obtain⟨z,a,ws,ha,rfl,t,r⟩:=md f m j;obtain⟨d,h,b⟩:=WS.Sh b;by_cases hn:d.length<64
 .rw[if_pos hn] at b;refine⟨a,ws,d,rfl,t,by rw[xm r];exact rR h,hn,fun l A q p n=> ?_⟩;have y:=k7 (p.trans (eU d).symm) n (eB d);subst y;exact nc f q b fun e=>⟨_,aM,Aw _ _ _ _ _⟩
 .rw[if_neg hn] at b;exact b.elim
def sG:D->Option (cH×SV)
 | .tuple [.int i,d]=>lD (.inl i,.fz d)
 | .tuple [.str x,d]=>lD (.inr x,.fz d)
 |_=>QS
def vo:SV->Option (List (cH×SV))
 | .fz (.tuple ds)=>aQ sG ds
 |_=>QS
theorem Dg (e:vo x=lD ps):∃ds,x= .fz (.tuple ds)/\aQ sG ds=lD ps:=by
 unfold vo at e;split at e
 .exact⟨_,rfl,e⟩
 .cases e
def mB (Rz a:List (cH×SV)):List (cH×SV):=a.foldl (fun b d=>jZ b d.1 d.2) Rz
def wP (fe:dC):dC:=fun ρ Z=>(fe ρ Z).bind fun x Z1=>(RS.Sh Z1 (vo x)).bind fun ps Z1=> .ok (.rf Z1.length) (Z1++[.Xd (mB [] ps)])
theorem xp:∀{vs:List V} {ds:List D} {ps:List (cH×SV)},L3.S0 O K H vs ds->aQ sG ds=lD ps->∃Rz,Yk K H vs Rz/\vf O K H Y Rz ps
 |_,_,_,.nil,e=>by cases e;exact⟨[],.nil,.nil⟩
 |_,_,_,.cons (d:=d) (ds:=ds) h t,e=>by
  unfold aQ at e;cases q:sG d with
  |none=>rw[q] at e;cases e
  |some p=>
   rw[q] at e;dsimp only at e;cases q2:aQ sG ds with
   |none=>rw[q2] at e;cases e
   |some ps=>
    rw[q2] at e;cases e;obtain⟨Rz,i,g⟩:=xp t q2;unfold sG at q;split at q
    .cases q
     cases h with
     |tup h f=>cases f with
      |cons a b=>cases b with
       |cons b c=>cases c;cases a;exact⟨(.inl _,_)::Rz,.cons h.1 i,.cons ⟨rfl,b⟩ g⟩
    .cases q
     cases h with
     |tup h f=>cases f with
      |cons a b=>cases b with
       |cons b c=>cases c;cases a;exact⟨(.inr _,_)::Rz,.cons h.1 i,.cons ⟨rfl,b⟩ g⟩
    .cases q
theorem AQ:∀{d:List (cH×V)} {e:List (cH×SV)} {ws:List (cH×V)} {Rz:List (cH×SV)},vf O K H Y d e->vf O K H Y ws Rz->vf O K H Y (oa ws d) (mB Rz e)
 |_,_,_,_,.nil,h=>h
 |(a,u)::d,(b,y)::e,_,_,.cons r t,h=>by obtain⟨g,f⟩:=r;cases g;show vf O K H Y (oa (jh _ a u) d) (mB (jZ _ a y) e);exact AQ t (Ax f h)
theorem D6 (n:dc K E te fe):dc K E (KL (F0 K) (jW te pQ)) (wP fe):=by
 intro B S H Y Z ρ Q s f w;refine n B S H Y Z ρ _ s f (w.bind.imp fun x U Z1 R p g b u l=> ?_);obtain⟨ps,q,a⟩:=WS.Sh b;obtain⟨ds,rfl,q⟩:=Dg q;have a:=a;cases l with
 |tup h m=>obtain⟨Rz,j,i⟩:=xp m q;exact⟨_,_,Rz,rfl,h.1,j,fun d o=>nc g o a fun e=>⟨_,aM,AQ (Paired.Vn i fun _ _ r=>⟨r.1,r.2.TU e⟩) .nil⟩⟩
end
end L10
namespace PySem
open PyProof.Rows
def lw:Option Int->Int->Option Int
 |none,x=>lD x
 |some m,x=>lD (if x>m then x else m)
def OM:Option (Int×Tok)->Array QT
 |none=> #[]
 |some (m,t)=> #[.int m t,.int m t]
def K7 (d:QT):Option (Int×Tok)->QT
 |none=>d
 |some (m,t)=> .int m t
namespace F
theorem args_maxd (a b:QT):checkBuiltinCall "max" ⟨[a],[("default",b)]⟩=pure ():=by kernel_rfl
end F
section
variable {prog:Rt} {w:RM} {A:RG} {E:QT->Q0->Prop} {R:Xj->Q0->Prop} {I l S:QX} {vs:List QT} {d:QT}
theorem IC (hh:A.handled=QS) (Wr:l≠I) (j:S≠I) (N:S≠l) {s:Q0}:
  ∀{y:List QT} {Z:List Int},IntsAre y Z->∀(i:Nat) (h:Heap) (K:Nat) (b:Option (Int×Tok)) (c:Nat),vs=vs.take i++y->i<=vs.length->h.IsListIter I l i->h.IsList l vs.toArray->h.get? S=lD {cls:= .type "list",dict:=QS,data:= .seq (OM b) c,slots:= #[]}->
  (∀h' K b',b'.map (·.1)=Z.foldl lw (b.map (·.1))->(∀a o,a≠I->a≠S->h.get? a=lD o->h'.get? a=lD o)->R (.ok (.ret (K7 d b'))) {s with heap:=h',toks:=K})->
  codeAny (model prog w) A (.builtin "max.loop" ⟨[.ref I,.none,.ref S],[("default",d)]⟩) R {s with heap:=h,toks:=K}:=by
 have W:=acW.list (prog:=prog) (w:=w) (A:=A.in1) hh I l Wr vs.toArray;intro y Z hi
 induction hi with
 |nil=>
  intro i h K b c q hi it li O H;have e:i=vs.toArray.size:=by rw[RB] at q;have:=congrArg Vu q;rw[SI] at this;rw[Q9];omega
  refine UA F.entry_max_loop ?_;rw[RG.under_plainId F.plain_max_loop _];refine Ld (SH O rfl ?_);refine Ld (Xl (W.done _ _ _ (e▸⟨it,li⟩) fun h' J r=> ?_));have C:=r S _ (by simpa using j) O;cases b with
  |none=>refine Ld (WG (Q1 ?_));exact H h' J QS rfl fun a o f u e=>r a o (by simpa using f) e
  |some p=>obtain⟨m,t⟩:=p;refine Ld (WY C rfl (Ld (Uj (Q1 ?_))) (hz:=by show 2<=Q8;decide));exact H _ J (lD (m,t)) rfl fun a o f u e=>(Heap.get?_update_other _ _ (Ne.symm u)).trans (r a o (by simpa using f) e)
 | @cons n t agT aec hr ih=>
  intro i h K b c q hi it li O H;have Va:i<vs.toArray.size:=by have:=congrArg Vu q;rw[Q3,SI,Rg] at this;rw[Q9];omega
  have M:vs[i]? =lD (.int n t):=by rw[q,RE (by rw[SI];omega),SI,Wf hi,adF];rfl
  have z:vs=vs.take (i+1)++agT:=by rw[Vx,M];rw[RJ];exact q
  have YQ:i+1<=vs.length:=by rw[Q9] at Va;exact Va
  refine UA F.entry_max_loop ?_;rw[RG.under_plainId F.plain_max_loop _];refine Ld (SH O rfl ?_);refine Ld (Xl (W.item i _ _ _ Va ⟨it,li⟩ fun v h' J hP G r=> ?_));have ev:v= .int n t:=by have Q:=hP;rw[List.getElem?_toArray,M] at Q;exact(Rm Q).symm
  subst ev;have C:=r S _ (by simpa using j) O;have Y0:(toString "max"++toString ".loop":String)= "max.loop":=by decide
  cases b with
  |none=>
   show wpAny _ A.in1 (updateSeq S (fun _=> #[QT.int n t,QT.int n t])>>=_) _ _ _;refine Ld (WY C rfl ?_);rw[Y0];refine Q1 ⟨T6 F.plain_max_loop _,ih (i+1) _ J (lD (n,t)) _ z YQ (G.1.at fun o e=> ?_) (G.2.at fun o e=> ?_) (Heap.get?_update_self _ C rfl) fun u g U T L=>H u g U T fun a o f B e=>L a o f B ((Heap.get?_update_other _ _ (Ne.symm B)).trans (r a o (by simpa using f) e))⟩
   .exact(Heap.get?_update_other _ _ j).trans e
   .exact(Heap.get?_update_other _ _ N).trans e
  |some p=>
   obtain⟨m,X⟩:=p;show wpAny _ A.in1 (tryCatch (holding [QT.int n t,QT.int n t] (richCompare .Gt (QT.int n t) (QT.int m X)>>=_)) _>>=_) _ _ _;have ag4:=CmpOf.ints_gt (prog:=prog) (w:=w) (A:=A.in1) (P:=fun(k:Nat) v=>(k=0/\v=QT.int n t)\/(k=1/\v=QT.int m X)) (fun k=>if k=0 then n else m) fun k v q=>by
    rcases q with⟨rfl,rfl⟩|⟨rfl,rfl⟩
    .exact⟨t,rfl⟩
    .exact⟨X,rfl⟩
   refine Ld (Xl (SG (Ld (ag4 0 1 _ _ _ _ _ (.inl ⟨rfl,rfl⟩) (.inr ⟨rfl,rfl⟩) ?_))));refine Ld (SG (S9 ?_));refine Ld (Uj (Q1 ?_));show wpAny _ A.in1 (if decide (n>m)=QW then _ else _) _ _ _;by_cases Y:n>m
   .rw[if_pos (decide_eq_true Y)]
    refine Ld (WY C rfl (Ld (Uj ?_)) (hz:=by show 2<=Q8;decide));rw[Y0];refine Q1 ⟨T6 F.plain_max_loop _,ih (i+1) _ J (lD (n,t)) _ z YQ (G.1.at fun o e=> ?_) (G.2.at fun o e=> ?_) (Heap.get?_update_self _ C rfl) fun u g U T L=>H u g U ?_ fun a o f B e=>L a o f B ((Heap.get?_update_other _ _ (Ne.symm B)).trans (r a o (by simpa using f) e))⟩
    .exact(Heap.get?_update_other _ _ j).trans e
    .exact(Heap.get?_update_other _ _ N).trans e
    .rw[T];show _=aec.foldl lw (lD (if n>m then n else m));rw[if_pos Y];rfl
   .rw[if_neg (by rw[decide_eq_false Y];exact Rc)];refine Ld (Uj ?_);rw[Y0];refine Q1 ⟨T6 F.plain_max_loop _,ih (i+1) _ J (lD (m,X)) c z YQ G.1 G.2 C fun u g U T L=>H u g U ?_ fun a o f B e=>L a o f B (r a o (by simpa using f) e)⟩;rw[T];show _=aec.foldl lw (lD (if n>m then n else m));rw[if_neg Y];rfl
theorem CT (m:A.handled=QS) (g:s.heap.IsList l vs.toArray) (hi:IntsAre vs ns)
  (p:∀h' tk b,b.map (·.1)=ns.foldl lw QS->(∀a o,s.heap.get? a=lD o->h'.get? a=lD o)->Q (K7 d b) {s with heap:=h',toks:=tk}):
  wpAny (model prog w) A (call (.builtin "max") [.ref l] [("default",d)]) Q E s:=by
 have i:l<s.heap.objs.size:=by obtain⟨_,e,_⟩:=g;exact Heap.lt_size e
 have q:(toString "max"++toString ".loop":String)= "max.loop":=by decide
 refine WA (Ve F.plain_max F.entry_max (YE (F.args_maxd _ _) ?_));refine Ld (YE (show Builtin.Builtins.bindParams "max" ["key","default"] 0 ⟨[],[("default",d)]⟩=pure [QS,lD d] from rfl) ?_);refine Ld (Q1 ?_);refine Ld (Uu g ?_);refine Ld (Sb ?_);rw[q];have f:(s.heap.push {cls:= .type "list_iterator",data:= .fields #[.ref l,.int 0 0]}).objs.size=s.heap.objs.size+1:=Heap.size_push _ _;refine Q1 ⟨T6 F.plain_max_loop _,IC m (Rr i) (by rw[f];exact Nat.succ_ne_self _) (by rw[f];exact So (VH i)) hi 0 _ s.toks QS 0 rfl (RZ _) ⟨_,Heap.get?_push_of_some _ (Heap.get?_push_size _ rfl),rfl,rfl⟩ ((g.push _).push _) (Heap.get?_push_size _ rfl) fun h' tk b n j=> ?_⟩;refine p h' tk b n fun a o e=> ?_;have h:=Heap.lt_size e;exact j a o (Rr h) (by rw[f];exact Rr (VH h)) (Heap.get?_push_of_some _ (Heap.get?_push_of_some _ e))
end
end PySem
namespace L10
open PySem PySem.Spec PyProof.Rows L2 L3
def KU (K:QR) (i:Int):List V->Hp->VK->Prop:=fun xs H Q=>∃(p:QX) (a:List Int),xs=[.ref p]/\VR K H p (a.map V.int)/\Q (.int ((a.foldl lw QS).getD i)) H
theorem Bg (B:X.calm=QW) (A:Gl X "max") (hm:X.mg "max"=QS) (ha:PA X [l] ta) (f:On l=Q2:=by rfl):
  PE X (.Call (.Name "max" p) [l] [⟨lD "default",.Constant (.int i) j p1,p2⟩] pos) (KL (KU X.K i) ta):=by
 intro d s g H Q I h;refine Tn (mf I A hm K2 (callWith_kw (cB (ha pos d s g H _ I h) fun F n ⟨vs,E,e,r,v⟩=> ?_) (by rw[uA _ _ _ f];rfl) (by rw[uA _ _ _ f];rfl) rfl rfl));obtain⟨a,w,rfl,y,q⟩:=v;obtain⟨u,rfl,o⟩:=kM r;cases o;obtain⟨M,rv,pl,J⟩:=e.list y;refine aey (aca (aez ?_));have N:=e.tok (n.toks+1);refine CT (e.ok.hd B) pl.isList (l8 rv) fun L G b C z=> ?_;refine⟨.int ((w.foldl lw QS).getD i),E,e.kept z,?_,q⟩;rw[<-C];cases b with
 |none=>exact⟨_,rfl⟩
 |some p=>obtain⟨m,t⟩:=p;exact⟨t,rfl⟩
def Fe (i:Int):List D->Option RV
 |[.list ds]=>(oH ds).map fun a=> .fz (.int ((a.foldl lw QS).getD i))
 |_=>QS
theorem BL {K:QR}:EB K (KU K i) (Fe i):=by
 intro O H xs ds rv Q n d e q;unfold Fe at e;split at e
 .rename_i l
  cases d with
  |cons j h=>
   cases h;cases qa:oH l with
   |none=>rw[qa] at e;cases e
   |some b=>rw[qa] at e;cases e;obtain⟨a,vs,rfl,g,f⟩:=De j;obtain rfl:=qA f qa;exact⟨a,b,rfl,g.sq,q.at (.int _)⟩
 .cases e
end L10
namespace L10
open PySem L2 L3
section
variable {B O O':ci} {K:QR} {E:XK} {H H' H1 H2:Hp} {X Y T α2:List QX} {Z U Z1 Z2:a9} {σ:L2.St} {ρ:bx} {v:V}
theorem g6 {l r:List A} (h:(l++r)[i]? =lD y):l[i]? =lD y\/∃j,i=l.length+j/\r[j]? =lD y:=by
 by_cases hi:i<l.length
 .rw[Ra hi] at h;exact .inl h
 .rw[RE (by omega)] at h;exact .inr ⟨i - l.length,by omega,h⟩
theorem Kf {l r:List A} {i:Nat} (h:l[i]? =lD y):(l++r)[i]? =lD y:=by rw[Ra (QU.mp h).1];exact h
theorem DJ {l r:List A} (h:r[i]? =lD y):(l++r)[l.length+i]? =lD y:=by rw[RE (by omega),VT];exact h
theorem Dz (g:X.length=Z.length) (h:Lv (X++ps) (Z++cs) b):Lv X Z b\/b∈ps:=by
 obtain⟨i,d,f,e,a⟩:=h;rcases g6 f with g1|⟨j,e1,g1⟩
 .rcases g6 e with g2|⟨k,e2,g2⟩
  .exact .inl ⟨i,d,g1,g2,a⟩
  .have:=(QU.mp g1).1;omega
 .exact .inr (Ro g1)
theorem Ta.Ys (s:RF B K H X Z) (e:S6 H H') (d:∀p∈ps,H p=QS):Ta X Z H (X++ps) (Z++cs) H':=
 ⟨fun i a h=>Kf h,fun b u q _=>e b u q,fun b z=>(Dz s.len z).imp id fun z=>d b z⟩
theorem RF.Ys (s:RF B K H X Z) (e:S6 H H') (f:∀p∈ps,H p=QS) (m:∀p∈ps,H' p≠QS) (nd:∀(i j:Nat) (a:QX),ps[i]? =lD a->ps[j]? =lD a->i=j) (t:ps.length=cs.length)
  (new:∀(i:Nat) (a:QX) (c:Cell),ps[i]? =lD a->cs[i]? =lD c->COk (ow B (X++ps) (Z++cs)) K H' (X++ps) a c):RF B K H' (X++ps) (Z++cs):=by
 have ev:Ta X Z H (X++ps) (Z++cs) H':=Ta.Ys s e f;have n:∀b,H b≠QS->H' b≠QS:=fun b h z=>h (e.free z);refine⟨by rw[Q3,Q3,s.len,t],fun i j a g l=> ?_,fun a h=>n a (s.bn a h),fun a h i q=> ?_,fun i a h=> ?_,fun i a d g l=> ?_⟩
 .rcases g6 g with g1|⟨i',e1,g1⟩<;>rcases g6 l with g2|⟨j',e2,g2⟩
  .exact s.nd i j a g1 g2
  .exact absurd (f a (Ro g2)) (s.al i a g1)
  .exact absurd (f a (Ro g1)) (s.al j a g2)
  .have:=nd i' j' a g1 g2;omega
 .rcases g6 q with q|⟨j,_,q⟩
  .exact s.ba a h i q
  .exact s.bn a h (f a (Ro q))
 .rcases g6 h with h|⟨j,_,h⟩
  .exact n a (s.al i a h)
  .exact m a (Ro h)
 .have r:=s.len
  rcases g6 l with g2|⟨j,e2,g2⟩
  .rcases g6 g with g1|⟨k,e1,g1⟩
   .exact(s.Ye i a d g1 g2).ev ev.ev ev.pre fun o q=>e _ _ q
   .have:=(QU.mp g2).1;omega
  .rcases g6 g with g1|⟨k,e1,g1⟩
   .have:=(QU.mp g1).1;omega
   .have:k=j:=by omega
    subst this;exact new k a d g1 g2
def Dx (U:a9):Nat->List AV->Option (List AV×List (List D)×List Nat)
 |_,[]=>lD ([],[],[])
 |n,.fz d::r=>match Dx U n r with
  |some (l,cs,js)=>lD (.fz d::l,cs,js)
  |none=>QS
 |n,.rf i::r=>match sh U (.rf i) with
  |some (.list ds)=>(match Dx U (n+1) r with
   |some (l,cs,js)=>lD (.rf n::l,ds::cs,i::js)
   |none=>QS)
  |_=>QS
def Py (ds:List D):Cell:= .lst (ds.map .fz)
def qN (x:SV) (U Z:a9):RS SV:=match x with
 | .fz d=> .ok (.fz d) Z
 | .rf i=>(match sh U (.rf i) with
  |some (.list ds)=>kO Z (.ow ds)
  |_=> .bad)
 | .tp l=>(match Dx U Z.length l with
  |some (l',cs,js)=>if js.Nodup then .ok (.tp l') (Z++cs.map Py) else .bad
  |none=> .bad)
theorem pX (h:sh Z (.rf i)=lD (.list ds)):∃xs,Z[i]? =lD (.lst xs)/\aQ wF xs=lD ds:=by
 unfold sh at h;dsimp only at h;cases q:Z[i]? with
 |none=>rw[q] at h;cases h
 |some c=>
  rw[q] at h;cases c with
  |lst xs=>
   dsimp only at h;cases q2:aQ wF xs with
   |none=>rw[q2] at h;cases h
   |some a=>rw[q2] at h;cases h;exact⟨xs,rfl,q2⟩
  |_=>cases h
theorem hW (s:RF B K H X Z) (h:sh Z (.rf i)=lD (.list ds)):∃a vs,X[i]? =lD a/\H a=lD (.lst vs)/\L3.S0 (ow B X Z) K H vs ds/\ow B X Z a:=by obtain⟨xs,b,d⟩:=pX h;obtain⟨a,ha⟩:=s.at b;obtain⟨vs,g,f⟩:=s.Ye i a _ ha b;exact⟨a,vs,ha,g,jD (cR (R:=Uw (ow B X Z) K H X) (fun v x y r e=>Ad r e) f d),.inr ⟨i,_,ha,b,by intro z;cases z⟩⟩
theorem GP {m:ci} (s:RF m K H' Y U):∀{n:Nat} {l o:List AV} {cs:List (List D)} {g:List Nat} {xs:List V},Dx U n l=lD (o,cs,g)->Paired (AOk (ow m Y U) K H' Y) xs l->
  ∃ps:List QX,ps.length=g.length/\cs.length=g.length/\(∀(k j:Nat),g[k]? =lD j->∃a ds vs,ps[k]? =lD a/\cs[k]? =lD ds/\Y[j]? =lD a/\H' a=lD (.lst vs)/\L3.S0 (ow m Y U) K H' vs ds/\ow m Y U a)/\
   ∀(b:List QX),b.length=n->Paired (AOk (ow m Y U) K H' (b++ps)) xs o
 |_,[],_,_,_,_,e,.nil=>by cases e;exact⟨[],rfl,rfl,fun k j h=>by simp at h,fun b _=> .nil⟩
 |n,.fz d::r,o,cs,g,_,e,.cons h t=>by
  unfold Dx at e;cases q:Dx U n r with
  |none=>rw[q] at e;cases e
  |some p=>obtain⟨I,C,u⟩:=p;rw[q] at e;cases e;obtain⟨ps,A,z,y,w⟩:=GP s q t;exact⟨ps,A,z,y,fun b f=> .cons h (w b f)⟩
 |n,.rf i::r,o,cs,g,_,e,.cons h t=>by
  unfold Dx at e;cases qs:sh U (.rf i) with
  |none=>rw[qs] at e;cases e
  |some d=>
   rw[qs] at e;cases d with
   |list ds=>
    dsimp only at e;cases q:Dx U (n+1) r with
    |none=>rw[q] at e;cases e
    |some p=>
     obtain⟨I,C,u⟩:=p;rw[q] at e;cases e;obtain⟨ps,A,z,y,w⟩:=GP s q t;obtain⟨a,vs,ha,J,M,L⟩:=hW s qs;refine⟨a::ps,by rw[Rg,Rg,A],by rw[Rg,Rg,z],fun k j F=> ?_,fun b f=> ?_⟩
     .cases k with
      |zero=>cases F;exact⟨a,ds,vs,rfl,rfl,ha,J,M,L⟩
      |succ k=>exact y k j (by simpa using F)
     .have N:b++a::ps=(b++[a])++ps:=by simp
      obtain⟨P,G,rfl⟩:=h;rw[ha] at G;cases G;refine .cons ⟨a,by rw[<-f];exact DJ (l:=b) (r:=a::ps) (i:=0) rfl,rfl⟩ ?_;rw[N];exact w (b++[a]) (by rw[Q3,f];rfl)
   |_=>cases e
theorem C8 (s:RF B K H X Z) (w:WS K E B H X Z (PQ B K Q) (qN x U Z)) (e':Ta [] [] H Y U H') (F:RF (ow B X Z) K H' Y U) (I:Uw (ow (ow B X Z) Y U) K H' Y v x):Q v H':=by
 have C:=fun b o h=>e'.kp b o h fun⟨i,c,q,_⟩=>by simp at q
 have sub:∀b,ow B X Z b->ow (ow B X Z) Y U b:=fun b z=> .inl z;have fr:=fun i a c P h2 h3=>(e'.lv a ⟨i,c,P,h2,h3⟩).elim (fun⟨i,c,q,_⟩=>by simp at q) id;cases x with
 |fz d=>exact w X H' (Ta.same C) (s.grow C) v (DV.ev (Ev.sub sub) I)
 |rf i=>
  unfold qN at w;dsimp only at w;cases qs:sh U (.rf i) with
  |none=>rw[qs] at w;exact w.elim
  |some d=>
   rw[qs] at w;cases d with
   |list ds=>obtain⟨a,vs,ha,P,hd,L⟩:=hW F qs;obtain⟨xs,e,_⟩:=pX qs;obtain⟨a',ZT,rfl⟩:=I;rw[ha] at ZT;cases ZT;exact tt s w C (fr i a _ ha e (by intro z;cases z)) P hd sub L
   |_=>exact w.elim
 |tp l=>
  unfold qN at w;dsimp only at w;cases qg:Dx U Z.length l with
  |none=>rw[qg] at w;exact w.elim
  |some p=>
   obtain⟨l',cs,G⟩:=p;rw[qg] at w;dsimp only at w;by_cases hn:G.Nodup
   .rw[if_pos hn] at w
    obtain⟨a,xs,rfl,ht,hl⟩:=I;obtain⟨ps,g1,g2,g3,g4⟩:=GP F qg hl;have A:∀(k:Nat) (b:QX),ps[k]? =lD b->∃j ds vs,G[k]? =lD j/\cs[k]? =lD ds/\Y[j]? =lD b/\H' b=lD (.lst vs)/\L3.S0 (ow (ow B X Z) Y U) K H' vs ds/\ow (ow B X Z) Y U b:=fun k b hb=>by
     have f:k<G.length:=by rw[<-g1];exact(QU.mp hb).1
     obtain⟨b',ds,vs,e,y,u,m,t,g⟩:=g3 k _ (Q5 f);rw[hb] at e;cases e;exact⟨_,ds,vs,Q5 f,y,u,m,t,g⟩
    have nB:∀(j:Nat) (b:QX),Y[j]? =lD b->ow (ow B X Z) Y U b->H b=QS:=fun j b M L=>by
     rcases L with z|⟨i,c,z1,z2,z3⟩
     .exact absurd M (F.ba b z j)
     .exact fr i b c z1 z2 z3
    have fp:∀p∈ps,H p=QS:=fun p J=>by obtain⟨k,f⟩:=Sx.mp J;obtain⟨j,ds,vs,e,y,u,m,t,g⟩:=A k p f;exact nB j p u g
    have n:∀b,ow B (X++ps) (Z++cs.map Py) b->ow (ow B X Z) Y U b:=fun b z=>by
     rcases z with z|z
     .exact .inl (.inl z)
     .rcases Dz s.len z with z|z
      .exact .inl (.inr z)
      .obtain⟨k,f⟩:=Sx.mp z;obtain⟨j,ds,vs,e,y,u,m,t,g⟩:=A k b f;exact g
    have ev:=Ta.Ys (cs:=cs.map Py) s C fp;refine w (X++ps) H' ev (s.Ys C fp (fun p J=> ?_) (fun i j b hi M=> ?_) (by rw[QV,g1,g2]) fun i b c hi S=> ?_) (.ref a) ⟨a,xs,rfl,ht.ev (Ev.sub n),Paired.Vn (g4 X s.len) fun _ _ r=>r.ev (Ev.sub n) fun _ _ h=>h⟩
    .obtain⟨k,f⟩:=Sx.mp J;obtain⟨j,ds,vs,e,y,u,m,t,g⟩:=A k p f;rw[m];simp
    .obtain⟨j1,_,_,R,_,p3,_⟩:=A i b hi;obtain⟨j2,_,_,r1,_,r3,_⟩:=A j b M;have:=F.nd j1 j2 b p3 r3;subst this;have N:=(QU.mp R).1;exact(List.getElem?_inj N hn).mp (R.trans r1.symm)
    .obtain⟨j,ds,vs,e,y,u,m,t,g⟩:=A i b hi;rw[Q7,y] at S;cases S;exact⟨vs,m,lY _ _ (t.ev (Ev.sub n))⟩
   .rw[if_neg hn] at w;exact w.elim
def t7 (F:i7) (n:Nat) (xs:List SV) (Z:a9):RS SV:=if xs.length=n then(match aQ wF xs with
 |some ds=>(match F (ds.map .fz) [] with
  | .ok x U=>qN x U Z
  | .er x _=> .er x Z
  | .bad=> .bad)
 |none=> .bad) else .bad
def lV (F:i7) (n:Nat) (fa:yp):dC:=fun ρ Z=>(fa ρ Z).bind fun xs Z1=>jY (t7 F n xs Z1)
theorem yS (h:∀a,B a->H a≠QS):RF B K H [] []:=⟨rfl,fun i j a h=>by simp at h,h,fun a h i=>by simp,fun i a h=>by simp at h,fun i a c h=>by simp at h⟩
theorem AE:∀{xs:List SV} {ds:List D},aQ wF xs=lD ds->xs=ds.map .fz
 |[],_,e=>by cases e;rfl
 |x::r,ds,e=>by
  unfold aQ at e;cases x with
  |fz d=>
   dsimp only[wF] at e;cases q:aQ wF r with
   |none=>rw[q] at e;cases e
   |some a=>rw[q] at e;cases e;rw[Ri,<-AE q]
  |rf i=>cases e
  |tp l=>cases e
theorem Ek (s:RF B K H X Z) (d:Um (ow B X Z) K H X vs xs) (w:WS K E B H X Z (PQ B K Q) (t7 F n xs Z)):d4 K n F vs H Q E:=by
 unfold t7 at w;by_cases hn:xs.length=n
 .rw[if_pos hn] at w
  refine⟨d.length.trans hn,?_⟩;cases q:aQ wF xs with
  |none=>rw[q] at w;exact w.elim
  |some ds=>
   rw[q] at w;dsimp only at w;have j:=AE q;refine⟨ow B X Z,[],[],ds.map .fz,yS s.owd,?_,?_⟩
   .rw[j] at d;exact lY _ _ ((FW d).ev (Ev.sub fun b z=>z.elim id fun⟨i,c,q,_⟩=>by simp at q))
   .cases qF:F (ds.map .fz) [] with
    |bad=>rw[qF] at w;exact w.elim
    |ok x U=>rw[qF] at w;exact fun Y H' e g v a=>C8 s w e g a
    |er x U=>
     rw[qF] at w;intro c dx Y H' e g k;have f:=fun b o h=>e.kp b o h fun⟨i,c,q,_⟩=>by simp at q
     exact w c dx X H' (Ta.same f) (s.grow f) (XOk.sub (fun b z=> .inl z) k)
 .rw[if_neg hn] at w;exact w.elim
theorem ju (ha:wS K E ta fa):dc K E (ng (d4 K n F) [] E0 ta) (lV F n fa):=by intro B σ H X Z ρ Q s b w;refine ha B σ H X Z ρ _ s b (w.bind.imp fun xs T Z1 H1 f d a vs e=> ?_);rw[RB];exact Ek d e (WS.e0 a)
def Oz (F:i7):FN:=fun ds=>match F (ds.map .fz) [] with
 | .ok (.fz d) _=> .ok (.fz d)
 | .ok (.rf i) Z=>(match sh Z (.rf i) with
  |some (.list ds)=> .ok (.ow ds)
  |_=> .bad)
 | .ok (.tp _) _=> .bad
 | .er x _=> .er x
 | .bad=> .bad
theorem MM (h:nz K n (Oz F) vs H Q E):d4 K n F vs H Q E:=by
 obtain⟨u,B,ds,A,G,w⟩:=h;refine⟨u,B,[],[],ds.map .fz,yS A,lY _ _ (G.ev (Ev.sub fun b z=>z.elim id fun⟨i,c,q,_⟩=>by simp at q)),?_⟩;unfold Oz at w;cases qF:F (ds.map .fz) [] with
 |bad=>rw[qF] at w;exact w.elim
 |er x U=>rw[qF] at w;intro c dx Y H' e g k;exact w c dx H' (fun b o h=>e.kp b o h fun⟨i,c,q,_⟩=>by simp at q) (XOk.sub (fun b z=> .inl z) k)
 |ok x U=>
  rw[qF] at w;intro Y H' e g v j;have f:=fun b o h=>e.kp b o h fun⟨i,c,q,_⟩=>by simp at q
  cases x with
  |fz d=>exact w v H' f (DV.ev (Ev.sub fun b z=> .inl z) j)
  |tp l=>exact w.elim
  |rf i=>
   dsimp only at w;cases qs:sh U (.rf i) with
   |none=>rw[qs] at w;exact w.elim
   |some d=>
    rw[qs] at w;cases d with
    |list I=>obtain⟨a,p,ha,C,y,t⟩:=hW g qs;obtain⟨xs,r,_⟩:=pX qs;obtain⟨J,m,rfl⟩:=j;rw[ha] at m;cases m;refine w a p H' f ((e.lv a ⟨i,_,ha,r,by intro z;cases z⟩).elim (fun⟨i,c,q,_⟩=>by simp at q) id) C (y.ev (Ev.sub fun b z=>z.elim (fun z=> .inl z) fun z=>by rw[z];exact t))
    |_=>exact w.elim
end
def b9 (P:Rt) (w:RM) (K:QR) (mg:Str->Option QT) (base:Heap) (a:vX) (k:Nat) (C m:Str) (ps:List Str) (sp:Sp):Prop:=
 ∃Ca f fd,Rp K Rk C=lD (lD (.ref Ca))/\Zl K Ca/\Meth K Ca m f/\FnOk P w K mg base a k f fd ps sp/\Binds K fd ps []
def xg (P:Rt) (w:RM) (K:QR) (mg:Str->Option QT) (base:Heap) (a:vX) (k:Nat) (C:Str) (ps:List Str) (sp:Sp):Prop:=
 ∃Ca f fd,Rp K Rk C=lD (lD (.ref Ca))/\mg C=lD (.ref Ca)/\Mk K Ca f/\FnOk P w K mg base a k f fd ps sp/\Binds K fd ps []
def vi (K:QR) (C m:Str) (sp:Sp) (E:XK) (b:TE) (t:TA):TE:=fun a H Q=>∃Ca,Rp K Rk C=lD (lD (.ref Ca))/\uf Ca m sp [] E b t a H Q
def yU (K:QR) (C:Str) (sp:Sp) (E:XK) (t:TA):TE:=fun a H Q=>∃Ca,Rp K Rk C=lD (lD (.ref Ca))/\w6 Ca sp [] E t a H Q
section
variable {X:Cx} {U:vX} {E:XK} {k j:Nat} {C m:Str} {ps:List Str} {sp:Sp} {o e:Sf} {Y:List Sf} {T:TE} {t:TA} {Z pos p:Pos}
theorem Az (M:b9 X.prog X.w X.K X.mg X.base U k C m ps sp) (i:fW U X E) (n:Tt j X.A) (q:PE X o T) (ha:PA X (e::Y) t) (b:k<=j:=by decide)
  (dQ:Ru (e::Y) X.env=(Q2,eval e X.env)::Ru Y X.env:=by rfl) (B:(backTo pos (Ru Y X.env)).any (·.1)=Q2:=by rfl)
  (l:eval (.Call (.Attribute o m Z) (e::Y) [] pos) X.env=(do
   let ov<-eval o X.env
   standAt Z.atName
   let(f,first)<-holding [ov] (getMethod ov m pl)
   callWith pos f first (backTo pos (Ru (e::Y) X.env)) (backToKw pos (keywordEach [] X.env))):=by rfl):PE X (.Call (.Attribute o m Z) (e::Y) [] pos) (vi X.K C m sp E T t):=by
 obtain⟨J,f,F,z,y,v,u,r⟩:=M;intro a s g H Q I ⟨G,d,h⟩;rw[z] at d;cases d;exact Jg q y v u (n.mono b) r .nil i ha dQ B l a s g H Q I h
theorem DT (M:b9 X.prog X.w X.K X.mg X.base U k C m ps sp) (i:fW U X E) (n:Tt j X.A) (q:PE X o T) (b:k<=j:=by decide)
  (l:eval (.Call (.Attribute o m Z) [] [] pos) X.env=(do
   let ov<-eval o X.env
   standAt Z.atName
   let(f,first)<-holding [ov] (getMethod ov m pl)
   callWith pos f first (backTo pos (Ru [] X.env)) (backToKw pos (keywordEach [] X.env))):=by rfl):PE X (.Call (.Attribute o m Z) [] [] pos) (vi X.K C m sp E T pQ):=by
 obtain⟨G,f,B,z,y,v,u,r⟩:=M;intro a s g H Q I ⟨F,d,h⟩;rw[z] at d;cases d;exact FP q y v u (n.mono b) r .nil i l a s g H Q I h
theorem K6 (M:xg X.prog X.w X.K X.mg X.base U k C ps sp) (i:fW U X E) (l:Tt j X.A) (ha:PA X (e::Y) t) (b:k+1<=j:=by decide) (n:Gl X C:=by rfl)
  (B:(C==("__debug__":Str))=Q2:=by decide) (q:Ru (e::Y) X.env=(Q2,eval e X.env)::Ru Y X.env:=by rfl) (F:(backTo pos (Ru Y X.env)).any (·.1)=Q2:=by rfl):
  PE X (.Call (.Name C p) (e::Y) [] pos) (yU X.K C sp E t):=by
 obtain⟨L,f,G,z,y,v,u,r⟩:=M;intro a s g H Q I ⟨J,d,h⟩;rw[z] at d;cases d;exact J1 v u (l.mono b) n y r .nil i ha B q F a s g H Q I h
end
section
variable {K:QR} {E:XK} {C m:Str} {F:i7} {n:Nat} {to:TE} {Y:TA} {fo:dC} {fa:yp} {L:List Str}
theorem Hn (a:gC K C L) (e:dc K E to fo) (ha:wS K E Y fa):dc K E (vi K C m (d4 K n F) E to Y) (rp C m F n fo fa):=by obtain⟨f,a,_⟩:=a;exact fun B b H α Z ρ Q s d w=>⟨f,a,Gb a e ha B b H α Z ρ Q s d w⟩
theorem uO (a:gC K C L) (e:dc K E to fo) (ha:wS K E Y fa):dc K E (vi K C m (d4 K n F) E0 to Y) (bc C m F n fo fa):=by obtain⟨f,a,_⟩:=a;exact fun B b H α Z ρ Q s d w=>⟨f,a,CV a e ha B b H α Z ρ Q s d w⟩
theorem NB (a:gC K C L) (ha:wS K E Y fa):dc K E (yU K C (d4 K n F) E Y) (DA C F n fa):=by obtain⟨e,a,_⟩:=a;exact fun B b H α Z ρ Q s d w=>⟨e,a,HU a ha B b H α Z ρ Q s d w⟩
theorem Kg (a:gC K C L) (ha:wS K E Y fa):dc K E (yU K C (d4 K n F) E0 Y) (uE C F n fa):=by obtain⟨e,a,_⟩:=a;exact fun B b H α Z ρ Q s d w=>⟨e,a,Ef a ha B b H α Z ρ Q s d w⟩
end
section
variable {ρ ρ1 ρ2:bx} {Z Z1 Y Z3 Z4:a9} {x y z:SV} {i n:Nat} {d dx X:D} {ds:List D} {b:Bool}
theorem bJ (h:ρ[i]? =lD (lD x)):az i ρ Z= .ok x Z:=by unfold az;rw[h]
theorem ai (h:f (cy ρ)= .ok (.fz d,ρ')):ag f ρ Z= .ok (.fz d) Z:=by unfold ag;rw[h]
theorem fy (h:f (cy ρ)= .ok (.ow ds,ρ')):ag f ρ Z= .ok (.rf Z.length) (Z++[.lst (ds.map .fz)]):=by unfold ag;rw[h];rfl
theorem bw (h:f (cy ρ)= .ok (b,ρ')):bT f ρ Z= .ok b Z:=by unfold bT;rw[h]
theorem rd (h:f (cy ρ)= .ok (ds,ρ')):nt f ρ Z= .ok ds Z:=by unfold nt;rw[h]
theorem iU (g:e ρ Z= .ok (.rf i) Z1) (h:Z1[i]? =lD (.obj C fs)) (a:fs.lookup f=lD x):bv C f e ρ Z= .ok x Z1:=by unfold bv;rw[g,RS.bind_ok];dsimp only;rw[h];dsimp only;rw[if_pos rfl,a];rfl
theorem cL (ha:fa ρ Z= .ok x Z1) (e:fb ρ Z1= .ok y Y) (a:oz f x y Y= .ok z Z3):kI f fa fb ρ Z= .ok z Z3:=by unfold kI;rw[ha,RS.bind_ok,e,RS.bind_ok,a]
theorem cg (h:f dx X=lD (.fz d)):oz f (.fz dx) (.fz X) Z= .ok (.fz d) Z:=by unfold oz;show((RS.Sh Z (f dx X)).bind fun rv Z1=>kO Z1 rv)=_;rw[h];rfl
theorem z6 (e:sh Z x=lD dx) (a:sh Z y=lD X) (h:f dx X=lD (.fz d)):oz f x y Z= .ok (.fz d) Z:=by unfold oz;rw[e,a];show((RS.Sh Z (f dx X)).bind fun rv Z1=>kO Z1 rv)=_;rw[h];rfl
theorem nk:∀ds:List D,aQ wF (ds.map .fz)=lD ds
 |[]=>rfl
 |d::r=>by rw[Ri];unfold aQ;rw[nk r];rfl
theorem fT (h:Z[i]? =lD (.lst (ds.map .fz))):sh Z (.rf i)=lD (.list ds):=by unfold sh;dsimp only;rw[h];dsimp only;rw[nk];rfl
theorem bu (h:fa ρ Z= .ok (.fz (.bool b)) Z1):bU fa ρ Z= .ok b Z1:=by unfold bU;rw[h];rfl
theorem gf (h:fa ρ Z= .ok QW Z1) (k:fb ρ Z1=r):mn fa fb ρ Z=r:=by unfold mn;rw[h,RS.bind_ok,if_pos rfl,k]
theorem fS (h:fa ρ Z= .ok Q2 Z1):mn fa fb ρ Z= .ok Q2 Z1:=by unfold mn;rw[h,RS.bind_ok,if_neg Rc]
theorem su (h:fa ρ Z= .ok QW Z1):Gn fa fb ρ Z= .ok QW Z1:=by unfold Gn;rw[h,RS.bind_ok,if_pos rfl]
theorem mL (h:fa ρ Z= .ok Q2 Z1) (k:fb ρ Z1=r):Gn fa fb ρ Z=r:=by unfold Gn;rw[h,RS.bind_ok,if_neg Rc,k]
theorem vG (h:fa ρ Z= .ok b Z1):yg fa ρ Z= .ok (!b) Z1:=by unfold yg;rw[h];rfl
theorem CG (h:bU fa ρ Z= .ok QW Z1) (k:fb ρ Z1=r):Dl fa fb ρ Z=r:=by unfold Dl;rw[h,RS.bind_ok,if_pos rfl,k]
theorem CW (h:bU fa ρ Z= .ok Q2 Z1):Dl fa fb ρ Z= .ok (.fz (.bool Q2)) Z1:=by unfold Dl;rw[h,RS.bind_ok,if_neg Rc]
theorem HN (h:c ρ Z= .ok QW Z1) (k:fa ρ Z1=r):LG c fa fb ρ Z=r:=by unfold LG;rw[h,RS.bind_ok,if_pos rfl,k]
theorem Jn (h:c ρ Z= .ok Q2 Z1) (k:fb ρ Z1=r):LG c fa fb ρ Z=r:=by unfold LG;rw[h,RS.bind_ok,if_neg Rc,k]
theorem aW:aV ρ Z= .ok [] Z:=rfl
theorem au (ha:fa ρ Z= .ok x Z1) (a:fr ρ Z1= .ok xs Y):am fa fr ρ Z= .ok (x::xs) Y:=by unfold am;rw[ha,RS.bind_ok,a,RS.bind_ok]
theorem rD (ha:fa ρ Z= .ok (ds.map .fz) Z1) (a:ds.length<=1000):jR fa ρ Z= .ok (.fz (.tuple ds)) Z1:=by unfold jR;rw[ha,RS.bind_ok,QV,if_pos a];unfold Pn;rw[nk];rfl
theorem Cc (ha:fa ρ Z= .ok xs Z1) (a:xs.length<=1000) (f:aQ wF xs=QS) (e:aQ Pq xs=lD l):jR fa ρ Z= .ok (.tp l) Z1:=by unfold jR;rw[ha,RS.bind_ok,if_pos a];unfold Pn;rw[f];dsimp only;rw[e];rfl
theorem xz (ha:fa ρ Z= .ok xs Z1) (a:aQ (sh Z1) xs=lD ds) (h:f ds=lD (.fz d)):BV f fa ρ Z= .ok (.fz d) Z1:=by unfold BV;rw[ha,RS.bind_ok];unfold NG;rw[a];show((RS.Sh Z1 (f ds)).bind fun rv Z1=>kO Z1 rv)=_;rw[h];rfl
theorem zd (ha:fa ρ Z= .ok (ds.map .fz) Z1) (hn:ds.length=n) (a:F ds= .ok (.fz d)):jf F n fa ρ Z= .ok (.fz d) Z1:=by unfold jf;rw[ha,RS.bind_ok];unfold xS;rw[QV,if_pos hn,nk];dsimp only;rw[a];rfl
theorem u9 (ha:fa ρ Z= .ok (ds.map .fz) Z1) (hn:ds.length=n) (a:F ds= .ok (.ow es)):jf F n fa ρ Z= .ok (.rf Z1.length) (Z1++[.lst (es.map .fz)]):=by unfold jf;rw[ha,RS.bind_ok];unfold xS;rw[QV,if_pos hn,nk];dsimp only;rw[a];rfl
theorem mJ:jY (RS.ok a Z)= .ok a Z:=rfl
theorem BK (e:fo ρ Z= .ok (.rf i) Z1) (f:Z1[i]? =lD (.obj C fs)) (hm:fs.lookup m=QS) (ha:fa ρ Z1= .ok xs Y) (hn:(SV.rf i::xs).length=n) (g:F (.rf i::xs) Y= .ok x Z3):bc C m F n fo fa ρ Z= .ok x Z3:=by
 have a:lH Z1 C m (.rf i)=QW:=by unfold lH;dsimp only;rw[f];dsimp only;rw[hm,decide_eq_true rfl];rfl
 unfold bc;rw[e,RS.bind_ok,if_pos a,ha,RS.bind_ok,if_pos hn,g];rfl
theorem Lj (ha:fa ρ Z= .ok xs Z1) (hn:(SV.rf Z1.length::xs).length=n) (a:F (.rf Z1.length::xs) (Z1++[.obj C []])= .ok (.fz .none) Y):uE C F n fa ρ Z= .ok (.rf Z1.length) Y:=by unfold uE;rw[ha,RS.bind_ok];unfold ud;rw[if_pos hn,a,RS.bind_ok,if_pos (show C2 (.fz .none)=QW from rfl)];rfl
theorem cI (ha:fa ρ Z= .ok (.fz dx) Z1) (a:fb ρ Z1= .ok (.fz X) Y) (h:bq dx X=lD (.fz d)):fY fa fb ρ Z= .ok (.fz d) Y:=by unfold fY;rw[ha,RS.bind_ok,a,RS.bind_ok];exact cg h
theorem vd (a:fo ρ Z= .ok (.rf i) Z1) (h:Z1[i]? =lD (.lst xs)) (f:fe ρ Z1= .ok x Y) (g:Y[i]? =lD (.lst ys)) (e:ys.length<1000000):tL fo fe ρ Z= .ok (.fz .none) (Y.set i (.lst (ys++[x]))):=by
 have l:im Z1 (.rf i)=lD (i,xs):=by unfold im;dsimp only;rw[h]
 have j:im Y (.rf i)=lD (i,ys):=by unfold im;dsimp only;rw[g]
 unfold tL;rw[a,RS.bind_ok,l];show((fe ρ Z1).bind _)=_;rw[f,RS.bind_ok,j];show(if ys.length<1000000 then _ else _)=_;rw[if_pos e]
theorem mz (h:Z[i]? =lD (.Xd Rz)):iq Z (.rf i)=lD (i,Rz):=by unfold iq;dsimp only;rw[h]
theorem zV (a:fk ρ Z= .ok x Z1) (hd:fd ρ Z1= .ok (.rf i) Y) (f:tJ x=lD k) (e:Y[i]? =lD (.Xd Rz)):wZ neg fk fd ρ Z= .ok (.fz (.bool ((jJ Rz k).isSome !=neg))) Y:=by unfold wZ;rw[a,RS.bind_ok,hd,RS.bind_ok,f];show((RS.Sh Y (iq Y (.rf i))).bind _)=_;rw[mz e];rfl
theorem IX (hd:fd ρ Z= .ok (.rf i) Z1) (a:fk ρ Z1= .ok x Y) (g:tJ x=lD k) (f:Y[i]? =lD (.Xd Rz)) (e:jJ Rz k=lD y):ul fd fk ρ Z= .ok y Y:=by unfold ul;rw[hd,RS.bind_ok,a,RS.bind_ok,g];show((RS.Sh Y (iq Y (.rf i))).bind _)=_;rw[mz f];show RS.Sh Y (jJ Rz k)=_;rw[e];rfl
theorem Ie (a:fv ρ Z= .ok y Z1) (hd:fd ρ Z1= .ok (.rf i) Y) (f:fk ρ Y= .ok x Z3) (h:tJ x=lD k) (g:Z3[i]? =lD (.Xd Rz)) (e:Rz.length<1000000):wT fd fk fv ρ Z= .ok (.nx ρ) (Z3.set i (.Xd (jZ Rz k y))):=by unfold wT;rw[a,RS.bind_ok,hd,RS.bind_ok,f,RS.bind_ok,h];show((RS.Sh Z3 (iq Z3 (.rf i))).bind _)=_;rw[mz g];show(if Rz.length<1000000 then _ else _)=_;rw[if_pos e]
theorem JM (hd:fd ρ Z= .ok (.rf i) Z1) (h:Z1[i]? =lD (.Xd agp)) (a:fk ρ Z1= .ok x Y) (g:tJ x=lD k) (f:Y[i]? =lD (.Xd Rz)) (e:jJ Rz k=lD y):wY fd fk ρ Z= .ok y (Y.set i (.Xd (l7 Rz k))):=by unfold wY;rw[hd,RS.bind_ok,mz h];show((fk ρ Z1).bind _)=_;rw[a,RS.bind_ok,g];show((RS.Sh Y (iq Y (.rf i))).bind _)=_;rw[mz f];show((RS.Sh Y (jJ Rz k)).bind _)=_;rw[e];rfl
theorem JU (hd:fd ρ Z= .ok (.rf i) Z1) (h:Z1[i]? =lD (.Xd Rz)):Ba fd ρ Z= .ok (.rf Z1.length) (Z1++[.lst (Rz.map (·.2))]):=by unfold Ba;rw[hd,RS.bind_ok,mz h];rfl
theorem HE (hd:fd ρ Z= .ok (.rf i) Z1) (h:Z1[i]? =lD (.Xd Rz)) (e:aQ yI (Rz.map (·.1))=lD ns) (a:ns.length<64):t6 fd ρ Z= .ok (.rf Z1.length) (Z1++[.lst ((kr ns).map fun i=>SV.fz (.int i))]):=by unfold t6;rw[hd,RS.bind_ok,mz h];show((RS.Sh Z1 (aQ yI (Rz.map (·.1)))).bind _)=_;rw[e];show(if ns.length<64 then _ else _)=_;rw[if_pos a]
theorem Ij (a:fe ρ Z= .ok x Z1) (h:vo x=lD ps):wP fe ρ Z= .ok (.rf Z1.length) (Z1++[.Xd (mB [] ps)]):=by unfold wP;rw[a,RS.bind_ok,h];rfl
variable {fl:FlS} {r:RS FlS}
theorem cN (h:f ρ Z= .ok (.nx ρ1) Z1) (k:g ρ1 Z1=r):aX f g ρ Z=r:=by unfold aX;rw[h,RS.bind_ok];exact k
theorem oi (h:f ρ Z= .ok (.rt x) Z1):aX f g ρ Z= .ok (.rt x) Z1:=by unfold aX;rw[h];rfl
theorem fx (h:c ρ Z= .ok QW Z1) (k:f ρ Z1=r):cC c f g ρ Z=r:=by unfold cC;rw[h,RS.bind_ok,if_pos rfl,k]
theorem hG (h:c ρ Z= .ok Q2 Z1) (k:g ρ Z1=r):cC c f g ρ Z=r:=by unfold cC;rw[h,RS.bind_ok,if_neg Rc,k]
theorem iR (h:f ρ Z= .ok x Z1):gU f ρ Z= .ok (.rt x) Z1:=by unfold gU;rw[h];rfl
theorem iH (h:f ρ Z= .ok x Z1):b3 f ρ Z= .ok (.nx ρ) Z1:=by unfold b3;rw[h];rfl
theorem qU (h:f ρ Z= .ok x Z1) (e:ρ.set i (lD x)=ρ1):dL f (gA i) ρ Z= .ok (.nx ρ1) Z1:=by subst e;unfold dL;rw[h];rfl
theorem gS:cK ρ Z= .ok (.nx ρ) Z:=rfl
theorem oK (h:fe ρ Z= .ok x Z1) (a:fo ρ Z1= .ok (.rf i) Y) (j:Y[i]? =lD (.obj C fs)) (g:fs.length<100):fP C f fo fe ρ Z= .ok (.nx ρ) (Y.set i (.obj C (eP f x fs))):=by
 have e:E4 Y C (.rf i)=lD (i,fs):=by unfold E4;dsimp only;rw[j];dsimp only;rw[if_pos rfl]
 unfold fP;rw[h,RS.bind_ok,a,RS.bind_ok,e];show(if fs.length<100 then _ else _)=_;rw[if_pos g]
theorem jI (h:f ρ Z= .ok x Z1) (k:frz 4 Z1 x=lD (d,Y)):lA f ρ Z= .ok (.fz d) Y:=by unfold lA;rw[h,RS.bind_ok];unfold L5;rw[k]
theorem jT (e:xs.map lD++Q6 (N - xs.length) QS=ρ) (h:g ρ Z= .ok (.rt x) Z1):dj N g xs Z= .ok x Z1:=by subst e;unfold dj;rw[h];rfl
theorem mP (e:xs.map lD++Q6 (N - xs.length) QS=ρ) (h:g ρ Z= .ok (.nx ρ1) Z1):dj N g xs Z= .ok (.fz .none) Z1:=by subst e;unfold dj;rw[h];rfl
end
section
variable {ρ ρ1 ρ2:bx} {Z Z1 Y Z3 Z4:a9} {x y z:SV} {i n:Nat} {d dx dy:D} {ds:List D} {b:Bool}
theorem kR (e:α->D) (f:α->SV) (Z:a9) (I:bx->Prop):∀(xs:List α) (ρ:bx) (a:List SV),I ρ->a.length+xs.length<=1000000->(∀x∈xs,∀ρ,I ρ->∃ρ',gt (.fz (e x)) ρ Z= .ok ρ' Z/\ft ρ' Z= .ok QW Z/\fe ρ' Z= .ok (f x) Z/\I ρ')->dY gt ft fe (xs.map e) ρ Z a= .ok (a++xs.map f) Z
 |[],ρ,a,_,_,_=>by show RS.ok a Z=_;rw[T7,RB]
 |x::r,ρ,a,h0,hl,hs=>by obtain⟨ρ',m,l,j,h⟩:=hs x Rh ρ h0;rw[Rg] at hl;show((gt (.fz (e x)) ρ Z).bind _)=_;rw[m,RS.bind_ok,l,RS.bind_ok,if_pos rfl,j,RS.bind_ok,if_pos (by omega),kR e f Z I r ρ' _ h (by rw[Q3,TQ];omega) fun y g=>hs y (Rf _ g),RJ];rfl
theorem p7 (hi:fi ρ Z= .ok ds Z1) (a:dY gt ft fe ds (pc n fj ρ) Z1 []= .ok xs Y):lS n fj fi gt ft fe ρ Z= .ok (.rf Y.length) (Y++[.lst xs]):=by unfold lS;rw[hi,RS.bind_ok,a,mJ,RS.bind_ok]
theorem qH (m:Nat):∀(ds:List D),lz (frz m) Z (ds.map .fz)=lD (ds,Z)
 |[]=>rfl
 |d::r=>by rw[Ri];unfold lz;rw[show frz m Z (.fz d)=lD (d,Z) by cases m<;>rfl];dsimp only;rw[qH m r]
theorem mV (h:Z[i]? =lD (.lst (ds.map .fz))):frz 4 Z (.rf i)=lD (.list ds,Z.set i .dead):=by unfold frz;rw[h];dsimp only;rw[qH]
theorem uX (h:fe ρ Z= .ok (.rf i) Z1) (a:Z1[i]? =lD (.lst (ds.map .fz))):jX fe ρ Z= .ok ds (Z1.set i .dead):=by unfold jX;rw[h,RS.bind_ok,mV a];rfl
def Qg (N C:bx->a9->Prop) (T:SV->a9->Prop):RS FlS->Prop
 | .ok (.nx ρ) Z=>N ρ Z
 | .ok (.ct ρ) Z=>C ρ Z
 | .ok (.rt v) Z=>T v Z
 |_=>False
structure Vc (r:RS FlS) (N C:bx->a9->Prop) (T:SV->a9->Prop):Prop where
 out:Qg N C T r
variable {f g:eT} {fe:dC} {N C:bx->a9->Prop} {T:SV->a9->Prop}
theorem Vc.eq (e:r=r') (h:Vc r' N C T):Vc r N C T:=by rw[e];exact h
theorem tj (h:Vc (f ρ Z) (fun r o=>Vc (g r o) N C T) C T):Vc (aX f g ρ Z) N C T:=by
 refine⟨?_⟩;have h:=h.out;unfold aX;cases q:f ρ Z with
 |bad=>rw[q] at h;exact h.elim
 |er x o=>rw[q] at h;exact h.elim
 |ok a o=>
  rw[q] at h;cases a with
  |nx r=>exact(show Vc (g r o) N C T from h).out
  |ct r=>exact h
  |rt v=>exact h
  |bk r=>exact h.elim
theorem xA (h:c ρ Z= .ok b Z1) (a:b=QW->Vc (f ρ Z1) N C T) (e:b=Q2->Vc (g ρ Z1) N C T):Vc (cC c f g ρ Z) N C T:=by
 unfold cC;rw[h,RS.bind_ok];cases b with
 |true=>exact a rfl
 |false=>exact e rfl
theorem rT (e:c ρ Z= .ok QW Z1) (a:Vc (f ρ Z1) N C T):Vc (cC c f g ρ Z) N C T:=xA e (fun _=>a) fun h=>by cases h
theorem d9 (e:c ρ Z= .ok Q2 Z1) (a:Vc (g ρ Z1) N C T):Vc (cC c f g ρ Z) N C T:=xA e (fun h=>by cases h) fun _=>a
theorem Ls (e:fe ρ Z= .ok x Z1) (a:gt x ρ Z1= .ok ρ1 Y) (h:N ρ1 Y):Vc (dL fe gt ρ Z) N C T:=by refine⟨?_⟩;unfold dL;rw[e,RS.bind_ok,a,RS.bind_ok];exact h
theorem mK (a:f ρ Z= .ok (.nx ρ1) Z1) (h:N ρ1 Z1):Vc (f ρ Z) N C T:=⟨by rw[a];exact h⟩
theorem OT (a:f ρ Z= .ok (.rt x) Z1) (h:T x Z1):Vc (f ρ Z) N C T:=⟨by rw[a];exact h⟩
theorem iz (a:fe ρ Z= .ok x Z1) (h:N ρ Z1):Vc (b3 fe ρ Z) N C T:=mK (iH a) h
theorem Lz (a:fe ρ Z= .ok x Z1) (h:T x Z1):Vc (gU fe ρ Z) N C T:=OT (iR a) h
theorem Je (h:T (.fz .none) Z):Vc (uI ρ Z) N C T:=⟨h⟩
theorem kX (h:N ρ Z):Vc (cK ρ Z) N C T:=⟨h⟩
theorem jK {gt:CN} (e:fe ρ Z= .ok x Z1) (a:gt x ρ Z1= .ok ρ1 Y) (h:Vc (g ρ1 Y) N C T):Vc (aX (dL fe gt) g ρ Z) N C T:=tj (Ls e a h)
theorem BM (a:f ρ Z= .ok (.nx ρ1) Z1) (h:Vc (g ρ1 Z1) N C T):Vc (aX f g ρ Z) N C T:=tj (mK a h)
theorem lg (a:fe ρ Z= .ok x Z1) (h:Vc (g ρ Z1) N C T):Vc (aX (b3 fe) g ρ Z) N C T:=tj (iz a h)
theorem xP {h a:eT} (m:c ρ Z= .ok b Z1) (j:b=QW->Vc (aX h g ρ Z1) N C T) (l:b=Q2->Vc (aX a g ρ Z1) N C T):Vc (aX (cC c h a) g ρ Z) N C T:=by
 have e:aX (cC c h a) g ρ Z=if b=QW then aX h g ρ Z1 else aX a g ρ Z1:=by unfold aX cC;rw[m,RS.bind_ok];cases b<;>rfl
 refine .eq e ?_;cases b with
 |true=>exact j rfl
 |false=>exact l rfl
theorem u0 {a l:eT} (j:c ρ Z= .ok QW Z1) (e:Vc (aX a g ρ Z1) N C T):Vc (aX (cC c a l) g ρ Z) N C T:=xP j (fun _=>e) fun h=>by cases h
theorem qY {l a:eT} (j:c ρ Z= .ok Q2 Z1) (e:Vc (aX a g ρ Z1) N C T):Vc (aX (cC c l a) g ρ Z) N C T:=xP j (fun h=>by cases h) fun _=>e
theorem wl (h:T (.fz .none) Z):Vc (aX uI g ρ Z) N C T:=tj (Je h)
theorem nw (h:Vc (g ρ Z) N C T):Vc (aX cK g ρ Z) N C T:=tj (kX h)
theorem Ny {a e:eT} (h:Vc (aX a (aX e g) ρ Z) N C T):Vc (aX (aX a e) g ρ Z) N C T:=by
 refine .eq ?_ h;unfold aX;cases a ρ Z with
 |bad=>rfl
 |er x o=>rfl
 |ok j o=>cases j<;>rfl
theorem LV (a:xs.map lD++Q6 (n - xs.length) QS=ρ) (h:Vc (g ρ Z) (fun _ Z'=>T (.fz .none) Z') (fun _ _=>False) T):∃x Z',dj n g xs Z= .ok x Z'/\T x Z':=by
 have h:=h.out;unfold dj;rw[a];cases q:g ρ Z with
 |bad=>rw[q] at h;exact h.elim
 |er x o=>rw[q] at h;exact h.elim
 |ok e o=>
  rw[q] at h;cases e with
  |nx r=>exact⟨_,_,rfl,h⟩
  |ct r=>exact h.elim
  |rt v=>exact⟨_,_,rfl,h⟩
  |bk r=>exact h.elim
theorem iX {W:a9->Prop} (a:xs.map lD++Q6 (n - xs.length) QS=ρ) (h:Vc (g ρ Z) (fun _ Z'=>SV.fz .none=v/\W Z') (fun _ _=>False) (fun r Z'=>r=v/\W Z')):∃Z',dj n g xs Z= .ok v Z'/\W Z':=by obtain⟨x,Z',l,j,e⟩:=LV (T:=fun r Z'=>r=v/\W Z') a h;exact⟨Z',by rw[l,j],e⟩
end
def Pv (Z:a9):AV->Option D
 | .fz d=>lD d
 | .rf i=>sh Z (.rf i)
def Od (F:i7):FN:=fun ds=>match F (ds.map .fz) [] with
 | .ok (.fz d) _=> .ok (.fz d)
 | .ok (.rf i) Z=>(match sh Z (.rf i) with
  |some (.list ds)=> .ok (.ow ds)
  |_=> .bad)
 | .ok (.tp l) Z=>(match aQ (Pv Z) l with
  |some ds=> .ok (.fz (.tuple ds))
  |none=> .bad)
 | .er x _=> .er x
 | .bad=> .bad
section
variable {B O O':ci} {K:QR} {E:XK} {H H' H1 H2:Hp} {U Y α1 α2:List QX} {Z X Z1 Z2:a9} {σ:L2.St} {ρ:bx} {v:V}
theorem Ov (s:RF B K H U Z) (h:AOk (ow B U Z) K H U v x) (e:Pv Z x=lD d):L3.DV B K H v d:=by
 have sub:∀b,B b->ow B U Z b:=fun b z=> .inl z;cases x with
 |fz n=>cases e;exact DV.ev (Ev.sub sub) h
 |rf i=>
  obtain⟨a,ha,rfl⟩:=h;have f:sh Z (.rf i)=lD d:=e;have:∃ds,d= .list ds:=by
   unfold sh at f;dsimp only at f;split at f
   .rename_i xs _
    cases q:aQ wF xs with
    |none=>rw[q] at f;cases f
    |some ds=>rw[q] at f;cases f;exact⟨_,rfl⟩
   .cases f
  obtain⟨ds,rfl⟩:=this;obtain⟨o,vs,g,l,j,m⟩:=hW s f;rw[ha] at g;cases g;exact .lst ⟨Vb.of l,fun z=>absurd ha (s.ba a z i)⟩ (j.ev (Ev.sub sub))
theorem Np (h:nz K n (Od F) vs H Q E):d4 K n F vs H Q E:=by
 obtain⟨I,B,ds,L,P,w⟩:=h;refine⟨I,B,[],[],ds.map .fz,yS L,lY _ _ (P.ev (Ev.sub fun b z=>z.elim id fun⟨i,c,q,_⟩=>by simp at q)),?_⟩;unfold Od at w;cases qF:F (ds.map .fz) [] with
 |bad=>rw[qF] at w;exact w.elim
 |er x X=>rw[qF] at w;intro c dx Y H' f j k;exact w c dx H' (fun b o h=>f.kp b o h fun⟨i,c,q,_⟩=>by simp at q) (XOk.sub (fun b z=> .inl z) k)
 |ok x X=>
  rw[qF] at w;intro Y H' f j v m;have g:=fun b o h=>f.kp b o h fun⟨i,c,q,_⟩=>by simp at q
  cases x with
  |fz d=>exact w v H' g (DV.ev (Ev.sub fun b z=> .inl z) m)
  |tp l=>
   dsimp only at w;cases qs:aQ (Pv X) l with
   |none=>rw[qs] at w;exact w.elim
   |some N=>rw[qs] at w;obtain⟨a,xs,rfl,A,C⟩:=m;exact w (.ref a) H' g (.tup (A.ev (Ev.sub fun b z=> .inl z)) (jD (cR (R:=AOk (ow B Y X) K H' Y) (fun v x y r e=>Ov j r e) C qs)))
  |rf i=>
   dsimp only at w;cases qs:sh X (.rf i) with
   |none=>rw[qs] at w;exact w.elim
   |some d=>
    rw[qs] at w;cases d with
    |list N=>obtain⟨a,t,ha,M,J,G⟩:=hW j qs;obtain⟨xs,u,_⟩:=pX qs;obtain⟨S,p,rfl⟩:=m;rw[ha] at p;cases p;refine w a t H' g ((f.lv a ⟨i,_,ha,u,by intro z;cases z⟩).elim (fun⟨i,c,q,_⟩=>by simp at q) id) M (J.ev (Ev.sub fun b z=>z.elim (fun z=> .inl z) fun z=>by rw[z];exact G))
    |_=>exact w.elim
end
end L10
namespace L10
open PySem PySem.SeqAt PySem.Spec PySem.W PyProof.Rows L2 L3
end L10
namespace L10
open PySem PyProof.Rows L2 L3
section
variable {B O O':ci} {K:QR} {E:XK} {H H' H1 H2:Hp} {α α' α1 α2:List QX} {Z Z' Z1 Y:a9} {σ:L2.St} {ρ:bx} {v:V}
theorem uT {fa fb:dC} {y z:SV} {i:Nat} {n:Int} {xs:List SV} (ha:fa ρ Z= .ok (.rf i) Z1) (d:fb ρ Z1= .ok y Y) (hn:Du y=lD n) (a:Y[i]? =lD (.lst xs)) (b:lx xs n=lD z):fY fa fb ρ Z= .ok z Y:=by unfold fY;rw[ha,RS.bind_ok,d,RS.bind_ok];unfold IK;simp only[a,hn];show RS.Sh Y (lx xs n)=_;rw[b];rfl
end
end L10
namespace L10
open PySem PySem.Spec PyProof.Rows L2 L3
end L10
namespace L10
open PySem PyProof.Rows L2 L3
section
variable {O Z:ci} {K:QR} {H H':Hp} {a b:QX} {xs:List V} {Y:Heap->Prop}
def Pd (a:QX) (O:ci) (H:Hp) (Z:ci) (H':Hp):Prop:=∀b o,b≠a->H b=lD o->¬O b->H' b=lD o/\¬Z b
theorem XF.evx (g:H a=lD (.ext Y)) (h:XF O K H b xs) (e:Pd a O H Z H'):XF Z K H' b xs:=by
 obtain⟨h,k⟩:=h;by_cases z:O b
 .exact⟨Vb.same (lj H') (k z),fun _=>k z⟩
 .rcases h with(h|⟨o,h⟩)|h
  .obtain⟨f,d⟩:=e b _ (fun y=>by rw[y,g] at h;cases h) h z;exact⟨.inl (.inl f),fun y=>absurd y d⟩
  .obtain⟨f,d⟩:=e b _ (fun y=>by rw[y,g] at h;cases h) h z;exact⟨.inl (.inr ⟨o,f⟩),fun y=>absurd y d⟩
  .exact⟨.inr h,fun _=> .inr h⟩
theorem V2.evx (g:H a=lD (.ext Y)) (h:V2 O K H b xs) (e:Pd a O H Z H'):V2 Z K H' b xs:=by
 obtain⟨h,k⟩:=h;by_cases z:O b
 .exact⟨(lj H').tup (k z),fun _=>k z⟩
 .rcases h with(h|⟨o,h⟩)|h
  .obtain⟨f,d⟩:=e b _ (fun y=>by rw[y,g] at h;cases h) h z;exact⟨.inl (.inl f),fun y=>absurd y d⟩
  .obtain⟨f,d⟩:=e b _ (fun y=>by rw[y,g] at h;cases h) h z;exact⟨.inl (.inr ⟨o,f⟩),fun y=>absurd y d⟩
  .exact⟨.inr h,fun _=> .inr h⟩
mutual
theorem DV.evx (f:H a=lD (.ext Y)) (e:Pd a O H Z H'):∀{v:V} {d:D},L3.DV O K H v d->L3.DV Z K H' v d
 |_,_,.TL=> .TL
 |_,_,.bl b=> .bl b
 |_,_,.int i=> .int i
 |_,_,.str x=> .str x
 |_,_,.tup h hs=> .tup (V2.evx f h e) (S0.evx f e hs)
 |_,_,.lst h hs=> .lst (XF.evx f h e) (S0.evx f e hs)
theorem S0.evx (d:H a=lD (.ext Y)) (e:Pd a O H Z H'):∀{vs:List V} {ds:List D},L3.S0 O K H vs ds->L3.S0 Z K H' vs ds
 |_,_,.nil=> .nil
 |_,_,.cons h hs=> .cons (DV.evx d e h) (S0.evx d e hs)
end
end
end L10
namespace PySem
open Sem (wp)
open PyProof.Rows
end PySem
namespace L10
open PySem PySem.Spec PyProof.Rows L2 L3
end L10
namespace L10
open PySem PyProof.Rows L2 L3
section
variable {B O O':ci} {K:QR} {E:XK} {H H' H1 H2:Hp} {Y α' α1 α2:List QX} {Z Z' Z1 Z2:a9} {σ:L2.St} {ρ:bx} {v:V}
theorem RF.acU (s:RF (cj B p) K H Y Z) (l:c≠ .dead) (g:H p≠QS) (f:COk (ow (cj B p) Y Z) K H Y p c) (m:¬B p):RF B K H (Y++[p]) (Z++[c]):=by
 have r:ow (cj B p) Y Z=ow B (Y++[p]) (Z++[c]):=x4 s.len l;have hn:=s.ba p (.inr rfl);have ev:Ev (ow (cj B p) Y Z) H (ow B (Y++[p]) (Z++[c])) H:=by rw[r];exact fun b o h n=>⟨h,n⟩
 refine⟨by rw[Q3,Q3,s.len];rfl,fun i j a d e=> ?_,fun a h=>s.bn a (.inl h),fun a h i z=> ?_,fun i a h=> ?_,fun i a t d e=> ?_⟩
 .rcases bE d with g1|⟨e1,e2⟩<;>rcases bE e with g2|⟨e3,e4⟩
  .exact s.nd i j a g1 g2
  .rw[e4] at g1;exact absurd g1 (hn i)
  .rw[e2] at g2;exact absurd g2 (hn j)
  .omega
 .rcases bE z with z|⟨_,rfl⟩
  .exact s.ba a (.inl h) i z
  .exact m h
 .rcases bE h with h|⟨_,rfl⟩
  .exact s.al i a h
  .exact g
 .rcases bE e with e|⟨e2,rfl⟩
  .rcases bE d with d|⟨e1,rfl⟩
   .exact(s.Ye i a t d e).ev ev (fun _ _ h=>eN h) fun _ q=>q
   .have:=(QU.mp e).1;rw[<-s.len] at this;omega
  .rcases bE d with d|⟨e1,rfl⟩
   .have:=(QU.mp d).1;rw[s.len] at this;omega
   .exact f.ev ev (fun _ _ h=>eN h) fun _ q=>q
end
end L10
namespace L3
open PySem PySem.Spec PyProof.Rows L2
end L3
namespace L3
open PySem L2
structure NI (K:QR) (f:QX) (n:Str) (t:Ts):Prop where
 a:Rp K Rk n=lD (lD (.ref f))
 F:∃fd,Ut K n n t f fd
structure MI (K:QR) (C f:QX) (m q:Str) (t:Ts):Prop where
 a:R0 K (.ref C) m=lD (lD (.ref f))
 i:T4 K (.ref f)=QW
 F:∃fd,Ut K m q t f fd
structure CI (K:QR) (C:QX) (n:Str) (fs:List Str):Prop where
 a:Rp K Rk n=lD (lD (.ref C))
 pg:UC K C Str.empty=QW
 hd:Vg K C=QW
 po:W3 K C=QW
 sa:R0 K (.ref C) "__setattr__"=lD (lD (.builtin "object.__setattr__"))
 mm:Xx K C=QW
 kc:SX K (.ref C)=QW
 fl:∀x∈fs,Vr K C x
def BA (n q:Str) (t:Ts) (ps:List Str):Prop:=∀(kV b d:QT) (e:Option QX) (f ct:QT) (a:List QT),a.length=ps.length->bindArgs (SN n q (fO t) (cr t) (aG t) .none kV b d e f ct) ⟨a,[]⟩=pure (ps.zip a)
section
variable {P:Rt} {w:RM} {K:QR} {mg:Str->Option QT} {base h:Heap} {f C:QX} {n m q:Str} {t:Ts} {ps fs:List Str} {Z k:Nat} {sp sp':Sp}
theorem CI.cls (c:CI K C n fs):Zl K C:=⟨c.pg,c.hd,c.po,c.sa⟩
theorem CI.cf (c:CI K C n fs):L10.gC K n fs:=⟨C,c.a,c.cls,c.fl⟩
theorem NI.cal (i:NI K f n t) (X:K.In h) (G:h.Ns Rk mg) (b:BA n n t ps) (ok:∀fd,Ut K n n t f fd->FnOk P w K mg base dm Z f fd ps sp):xk P w K mg base Z n ps sp:=
 let⟨fd,z⟩:=i.F;⟨f,fd,ok fd z,z.binds b,z.kp,To X G i.a⟩
theorem NI.law (i:NI K f "law" t) (X:K.In h) (G:h.Ns Rk mg) (b:mg "law"=lD (.ref fa)) (j:BA "law" "law" t [x]) (ok:∀base fd,Ut K "law" "law" t f fd->FnOk P w K mg base dm Z f fd [x] sp):∃fd:Sj,(∀(s:Q0) (v:QT),Wz s fd ⟨[v],[]⟩ [(x,v)])/\∀base:Heap,K.In base->base.Ns Rk mg->FnOk P w K mg base dm Z fa fd [x] sp:=by have e:=b.symm.trans (To X G i.a);cases e;obtain⟨fd,z⟩:=i.F;obtain⟨r,p,kV,d,g,l,o,ct,A,rfl,u,y⟩:=z.ex;exact⟨_,fun s v=> .of_eq (j kV d g l o ct [v] rfl),fun base _ _=>ok base _ z⟩
theorem BE (a:Tt k A):A.units+65<cLine:=by have:=a.un;omega
theorem Cd (p:SO K E u g) (h:Xi X b u):∃t,Xi X b t/\SO K E t g:=⟨_,h,p⟩
theorem Dr (p:L10.mG K E u g) (h:Xi X b u):∃t,Xi X b t/\L10.mG K E t g:=⟨_,h,p⟩
theorem lu {x a:Str} {b:Ts} {fd:Sj} {N:List Str} {n m:Nat} {g:FS} {i:FN} (F:Ut K x a b f fd) (S:TN N ps (aG b)) (hn:ps.length=n) (hm:N.length=m) (j:i=fQ m g)
  (l:∀(d:QT) (A:RG) (outer:List Env) (s:Q0) (H:Hp) (E:XK),N.Nodup->Tt k (A.deeper (Ry a (aG b) s.heap.objs.size f d))->(A.deeper (Ry a (aG b) s.heap.objs.size f d)).units+64<cLine->(A.deeper (Ry a (aG b) s.heap.objs.size f d)).units+1<cLine->(A.deeper (Ry a (aG b) s.heap.objs.size f d)).units+65<cLine->
   ∃t,Xi (fV dm P w K mg base N a (aG b) f d A outer s H E).nox (cr b) t/\SO K E t g):FnOk P w K mg base dm (k+1) f fd ps (nz K n i):=
 QC F S hn hm j fun d A outer s H E e=>l d A outer s H E S.nd e e.units (AN e) (BE e)
theorem j9 {n m:Nat} (F:Ut K x qual st f fd) (S:TN N ps (aG st)) (hn:ps.length=n) (hm:N.length=m) (d:FF=L10.dj m g)
  (e:∀(a:QT) (A:RG) (outer:List Env) (s:Q0) (H:Hp) (E:XK),N.Nodup->Tt k (A.deeper (Ry qual (aG st) s.heap.objs.size f a))->(A.deeper (Ry qual (aG st) s.heap.objs.size f a)).units+64<cLine->(A.deeper (Ry qual (aG st) s.heap.objs.size f a)).units+1<cLine->(A.deeper (Ry qual (aG st) s.heap.objs.size f a)).units+65<cLine->
   ∃t,Xi (fV dm P w K mg base N qual (aG st) f a A outer s H E).nox (cr st) t/\L10.mG K E t g):FnOk P w K mg base dm (k+1) f fd ps (L10.d4 K n FF):=
 L10.QH F S hn hm d fun a A outer s H E b=>e a A outer s H E S.nd b b.units (AN b) (BE b)
theorem Jt {W:QX} {a:Array QT} {e:Nat} {ss:Array (Option QT)} {xs:List V} {ds:List D} (l:K.lookup W=lD ⟨.type "tuple",QS,.seq a e,ss⟩) (d:a.size<=Q8) (b:Vals xs a.toList) (hd:∀O H,S0 O K H xs ds):∀O H,DV O K H (.ref W) (.tuple ds):=fun O H=>
 .tup (xs:=xs) ⟨.inr ⟨_,_,_,l,⟨rfl,rfl⟩,rfl,d,b⟩,fun _=> .inr ⟨_,_,_,l,⟨rfl,rfl⟩,rfl,d,b⟩⟩ (hd O H)
end
end L3
namespace L2
open PySem PySem.Spec PyProof.Rows
end L2
namespace L3
open PySem PySem.Spec PyProof.Rows L2
end L3
namespace L10R
open PySem PySem.Calls PyProof.Rows
theorem M4:typeLookup (.type "list_reverseiterator") "__len__"=pure QS:=by rw[WX,U4];kernel_rfl
theorem Dv:typeLookup (.type "list_reverseiterator") "__length_hint__"=pure (lD (.builtin "list_reverseiterator.__length_hint__")):=by rw[WX,U4];kernel_rfl
section
variable {prog:Rt} {w:RM} {A:RG} {E:QT->Q0->Prop} {s:Q0} {r l:QX} {items:Array QT}
theorem Eg {Q:Bool->Q0->Prop} (d:s.TypeIs (.ref r) "list_reverseiterator") (h:Q Q2 s):wpAny (model prog w) A (Builtin.List.listLengthHint (.ref r)) Q E s:=by
 unfold Builtin.List.listLengthHint;refine Ld (WW d M4 ?_);dsimp only;refine UB (fun a=>absurd a (by decide)) (fun _=> ?_);refine UB (fun a=>absurd a (by decide)) (fun _=> ?_);refine Ld (WW d Dv ?_);generalize hid:("list_reverseiterator.__length_hint__":String)=id0
 wp_delta
 rw[show splitId id0=lD ("list_reverseiterator","__length_hint__") from by subst hid;left];subst hid;refine Ld (Wn (T:= "list_reverseiterator") (b:=QW) d (by rw[afM];kernel_rfl) ?_);refine UB (fun a=>absurd a (by decide)) (fun _=> ?_);refine UB (fun _=> ?_) (fun a=>absurd (by left) a);refine UB (fun a=>absurd a (by left)) (fun _=> ?_);exact Q1 h
theorem zb {R:Xj->Q0->Prop} (y:A.handled=QS) (L:l≠r) (u:s.heap.IsList l items) (h:s.heap.IsRevIter r l ((items.size:Int) - 1)) (S:QX) (g:S≠r) (q:S≠l) (res:QT) (a:Nat) (B:s.heap.get? S=lD {cls:= .type "list",data:= .seq #[] a})
  (C:∀h' tk Ws c',(∀b o,b≠S->b≠r->s.heap.get? b=lD o->h'.get? b=lD o)->h'.get? S=lD {cls:= .type "list",dict:=QS,data:= .seq Ws c',slots:= #[]}->Wo (fun i v=>items[items.size - 1 - i]? =lD v) Ws items.size->R (.ok (.ret res)) {s with heap:=h',toks:=tk}) (hn:items.size<=Q8):
  wpAny (model prog w) A.in1 (Builtin.List.listExtendWith (.ref S) (.ref r) res)
   (fun fin s'=>match fin with| .done f=>R (.ok f) s'| .again c'=>c'.quiet=QW/\codeAny (model prog w) A c' R s') (fun e s'=>R (.error e) s') s:=by
 have p:S∉[r,l]:=by simp only[Rv,SJ,or_false,not_or];exact⟨g,q⟩
 have W:=acW.listRev (prog:=prog) (w:=w) (A:=A.in1) y r l L items;have t:0<=items.size/\s.heap.IsRevIter r l ((items.size:Int) - 1 - ((0:Nat):Int))/\s.heap.IsList l items:=⟨RZ _,by rw[show(items.size:Int) - 1 - ((0:Nat):Int)=(items.size:Int) - 1 by omega];exact h,u⟩;have j:codeAny (model prog w) A (.builtin "list.extend.loop" ⟨[.ref S,.ref r,res],[]⟩) R s:=by
  refine codeAny_extend_loopS W.toS hn S p res items.size 0 _ #[] a rfl (RZ _) t B (Wo.nil _) fun s' Ws c' hm K J=> ?_;rw[Moved.eq_with hm];refine C s'.heap s'.toks Ws c' (fun b o z m e=>hm.heap b o (fun d=> ?_) e) K J;rcases Rv.mp d with e'|d
  .exact z e'
  .exact m (Rb.mp d)
 unfold Builtin.List.listExtendWith;refine Ld (Ul (T:= "list_reverseiterator") h.typeIs ?_);have I:Builtin.List.listSameRef (.ref S) (.ref r)=Q2:=by simp[Builtin.List.listSameRef,g]
 have H:(QT.type "list_reverseiterator"==QT.type "list")=Q2:=by left
 have G:(QT.type "list_reverseiterator"==QT.type "tuple")=Q2:=by left
 simp only[I,H,G,YD,TJ,if_false];refine Ld (wpAny_pyIter_revIter h ?_);refine Ld (SG (Eg h.typeIs ?_));refine UB (fun n=>absurd n (by left)) (fun _=>Q1 ⟨T6 PySem.F.plain_extend_loop _,j⟩)
theorem Ee {R:Xj->Q0->Prop} (u:A.handled=QS) (C:l≠r) (q:s.heap.IsList l items) (p:s.heap.IsRevIter r l ((items.size:Int) - 1)) (S:QX) (d:S≠r) (g:S≠l) (m:s.heap.get? S=lD {cls:= .type "list",data:= .seq #[]})
  (y:∀h' tk Ws c',(∀b o,b≠S->b≠r->s.heap.get? b=lD o->h'.get? b=lD o)->h'.get? S=lD {cls:= .type "list",dict:=QS,data:= .seq Ws c',slots:= #[]}->Wo (fun i v=>items[items.size - 1 - i]? =lD v) Ws items.size->R (.ok (.ret .none)) {s with heap:=h',toks:=tk}) (hn:items.size<=Q8):
  wpAny (model prog w) A.in1 (Builtin.«list.__init__» ⟨[.ref S,.ref r],[]⟩)
   (fun fin s'=>match fin with| .done f=>R (.ok f) s'| .again c'=>c'.quiet=QW/\codeAny (model prog w) A c' R s') (fun e s'=>R (.error e) s') s:=by
 show wpAny _ _ (do let old<-Builtin.List.listItems (.ref S);Builtin.List.listUpdate (.ref S) (fun _=> #[]);letGo old.toList.reverse;Builtin.List.listExtendWith (.ref S) (.ref r) .none) _ _ s;refine Ld ?_;unfold Builtin.List.listItems;refine Ld (SH m rfl (Q1 ?_));show wpAny _ _ (updateSeq S (fun _=> #[])>>=fun _=>letGo (#[]:Array QT).toList.reverse>>=fun _=>Builtin.List.listExtendWith (.ref S) (.ref r) .none) _ _ s;refine Ld (WY m rfl ?_);have a:=Heap.get?_update_self (Obj.mapSeq (fun _=>(#[]:Array QT))) m rfl
 have n:∀b o,b≠S->s.heap.get? b=lD o->(s.heap.update S (Obj.mapSeq (fun _=>(#[]:Array QT)))).get? b=lD o:=
  fun b o h e=>(Heap.get?_update_other _ _ (Ne.symm h)).trans e
 refine Ld (Uj ?_);refine zb u C (q.at fun o e=>n l o g.symm e) (p.at fun o e=>n r o d.symm e) S d g .none _ a (fun h' tk Ws c' t B z=> ?_) hn;exact y h' tk Ws c' (fun b o h j e=>t b o h j (n b o h e)) B z
theorem aa4 {Q:QT->Q0->Prop} (p:A.handled=QS) (z:l≠r) (g:s.heap.IsList l items) (f:s.heap.IsRevIter r l ((items.size:Int) - 1)) (hn:items.size<=Q8)
  (t:∀h' tk Ws c',(∀b o,b≠r->s.heap.get? b=lD o->h'.get? b=lD o)->h'.get? s.heap.objs.size=lD {cls:= .type "list",dict:=QS,data:= .seq Ws c',slots:= #[]}->Wo (fun i v=>items[items.size - 1 - i]? =lD v) Ws items.size->Q (.ref s.heap.objs.size) {s with heap:=h',toks:=tk}):
  wpAny (model prog w) A (call (.type "list") [.ref r]) Q E s:=by
 refine afN (Q₁:=fun obj a=>obj= .ref s.heap.objs.size/\a={s with heap:=s.heap.push {cls:= .type "list",data:= .seq #[]}}) PySem.F.called_list (PySem.F.typeCall_list_1 _) PySem.F.entry_list_init
  (code_list_new _ ⟨rfl,rfl⟩) fun obj a d=> ?_
 obtain⟨rfl,rfl⟩:=d;have h:(s.heap.push {cls:= .type "list",data:= .seq #[]}).get? s.heap.objs.size=lD {cls:= .type "list",data:= .seq #[]}:=Heap.get?_push_size _ rfl;have j:r<s.heap.objs.size:=by obtain⟨o,e,_⟩:=f;exact Heap.lt_size e
 have m:l<s.heap.objs.size:=by obtain⟨o,e,_⟩:=g;exact Heap.lt_size e
 refine⟨⟨_,h,rfl⟩,PySem.F.args_list_init_2 _ _,Ee (A:=A.in1) p z (g.at fun o e=>Heap.get?_push_of_some _ e) (f.at fun o e=>Heap.get?_push_of_some _ e) _ (So j) (So m) h (fun h' tk Ws c' n y u=> ?_) hn⟩;exact⟨rfl,t h' tk Ws c' (fun b o q e=>n b o (Rr (Heap.lt_size e)) q (Heap.get?_push_of_some _ e)) y u⟩
end
end L10R
namespace L2
open PySem PySem.Spec PyProof.Rows
section
variable {X:Cx} {e:Sf} {Z:TE} {p q p1 Y:Pos}
def yc (K:QR) (Z:TE):TE:=fun d H Q=>Z d H fun x b=>∃a xs,x= .ref a/\VR K b a xs/\∀l,b l=QS->Q (.ref l) (bC b l (.lst xs.reverse))
theorem zQ:Sr "reversed"=lD (.type "reversed"):=by rfl
theorem C0 {xs:List V} {us:List QT} (h:Vals xs us):Vals xs.reverse us.reverse:=by
 induction h with
 |nil=>exact .nil
 |cons h _ a=>rw[S4,S4];exact a.append (.cons h .nil)
theorem Dq {items a:Array QT} (h:Wo (fun i v=>items[items.size - 1 - i]? =lD v) a items.size):a.toList=items.toList.reverse:=by
 apply List.ext_getElem?;intro j;by_cases b:j<items.size
 .have d:j<a.size:=by rw[h.1];exact b
  have e:=h.2 j _ (Yi d);rw[UI,Yi d,List.getElem?_reverse (by rw[Sa];exact b),Sa,UI];exact e.symm
 .rw[Zj (by rw[Sa,h.1];omega),Zj (by rw[Tw,Sa];omega)]
theorem Gw {a:List (QX×Obj)} {i:St} {H:Hp} {s:Q0} {e:QX} {o:HO} (I:Inv X a i H s) (f:mS X a H e) (v:X.s₀.heap.get? e=QS) (new:ObjOk X.prog X.w (bC H e o) s.heap e o):Inv X a i (bC H e o) s:=by
 obtain⟨ne,m,_,_,t,h⟩:=f;have l:∀b o,X.s₀.heap.get? b=lD o->b≠e:=fun b o z y=>by rw[y,v] at z;cases z
 have d:∀b o,H b=lD o->b≠e:=fun b o z y=>by rw[y,ne] at z;cases z
 have B:=I.base;refine⟨I.ok,I.os,I.bare,⟨B.keep,B.slot,fun b o z n x=> ?_,B.there,fun b xs z=> ?_,fun b o u z=> ?_,fun b ps z=> ?_⟩,I.loc,I.cell,?_,fun x c z=> ?_,fun p j=> ?_,fun b u z=> ?_,I.len⟩
 .rw[aH (l b o z)];exact B.free b o z n x
 .have:=B.XW b xs z;rw[aH (d b _ this)];exact this
 .have:=B.XD b o u z;rw[aH (d b _ this)];exact this
 .obtain⟨g,y⟩:=B.XX b ps z;exact⟨g,by rw[aH (d b _ y)];exact y⟩
 .rw[aH m.symm];exact I.free
 .rw[aH (t x c z)];exact I.UX x c z
 .obtain⟨z,n,r⟩:=I.pin p j;exact⟨z,by rw[aH (h p j)];exact n,r⟩
 .by_cases y:b=e
  .subst y;rw[aM] at z;cases z;exact new
  .rw[aH y] at z;exact(I.Su b u z).Wb (fun _ _ _ y=>y) (fun c y=>by rw[aH (d c _ y)];exact y) fun c xs y=>by rw[aH (d c _ y)];exact y
theorem zn (U:X.calm=QW) (B:Gl X "list") (y:X.mg "list"=QS) (A:Gl X "reversed") (w:X.mg "reversed"=QS) (T:PE X e Z)
  (J:Ru [.Call (.Name "reversed" q) [e] [] Y] X.env=[(Q2,eval (.Call (.Name "reversed" q) [e] [] Y) X.env)]:=by rfl) (G:Ru [e] X.env=[(Q2,eval e X.env)]:=by rfl):
  PE X (.Call (.Name "list" p) [.Call (.Name "reversed" q) [e] [] Y] [] p1) (yc X.K Z):=by
 intro f s t H Q I h;refine Tn (mf I B y zA ?_);refine S2 ?_ J rfl;rw[J];show wpAny _ _ (spliced ((Q2,eval (.Call (.Name "reversed" q) [e] [] Y) X.env)::[])) _ _ s;refine Calls.spliced_cons ?_;refine Tn (mf I A w zQ ?_);refine S2 ?_ G rfl;rw[G];show wpAny _ _ (spliced ((Q2,eval e X.env)::[])) _ _ s;refine Calls.spliced_cons (cB (T f s t H _ I h) fun u d ⟨x,n,j,M,a,xs,ex,R,N⟩=>Calls.spliced_nil ?_);subst ex;obtain rfl:u=QT.ref a:=M;obtain⟨g,rv,pl,F⟩:=j.list R;have v:=pl.isList;refine call_reversed_list v (Calls.spliced_nil ?_);have P:a<d.heap.objs.size:=by obtain⟨o,e,_⟩:=v;exact Heap.lt_size e
 have m:Inv X f t n {d with heap:=d.heap.push (revObj a ((g.toArray.size:Int) - 1))}:=j.kept (t':=d.toks) fun b o e=>Heap.get?_push_of_some _ e;have i:g.toArray.size<=Q8:=by rw[Q9,<-rv.length];exact F
 refine L10R.aa4 (r:=d.heap.objs.size) (l:=a) (items:=g.toArray) (j.ok.hd U) (Rr P) (v.at fun o e=>Heap.get?_push_of_some _ e) ⟨_,Heap.get?_push_size _ rfl,rfl,rfl⟩ i fun h' E C c S hL hi=> ?_;obtain⟨f0,f1,L,f3,f4,f5⟩:=j.YY (Q4 d.heap.objs.size) (j.Su.fresh (Q4 _));have I3:Inv X f t n {d with heap:=h',toks:=E}:=Inv.turned (s:={d with heap:=d.heap.push (revObj a ((g.toArray.size:Int) - 1))}) (t':=E) (it:=d.heap.objs.size) m (fun b o hb e=>S b o hb e) f0 f1 f3 f4 f5;have ea:=Dq hi;have hn:n (d.heap.push (revObj a ((g.toArray.size:Int) - 1))).objs.size=QS:=m.Su.fresh (Q4 _);refine⟨.ref (d.heap.push (revObj a ((g.toArray.size:Int) - 1))).objs.size,_,?_,rfl,N _ hn⟩;have L:=m.YY (H':=n) (Q4 (d.heap.push (revObj a ((g.toArray.size:Int) - 1))).objs.size) hn;have O:X.s₀.heap.get? (d.heap.push (revObj a ((g.toArray.size:Int) - 1))).objs.size=QS:=by
  cases z:X.s₀.heap.get? (d.heap.push (revObj a ((g.toArray.size:Int) - 1))).objs.size with
  |none=>rfl
  |some o=>exact absurd (Rq (Heap.lt_size z) m.sz) (Sy _)
 refine Gw I3 L O ⟨by rw[Tw];exact F,C.toList,c,by rw[ea];exact C0 rv,by rw[Zi];exact hL⟩
end
end L2
namespace L10
open PySem PySem.Spec PyProof.Rows L2 L3
end L10
namespace L9
open PySem PySem.Spec PyProof.Rows L2 L3 L4
end L9
namespace L2
open PySem PySem.Spec PyProof.Rows
end L2
namespace L3
open PySem L2
end L3
namespace L10
open PySem PySem.Spec PyProof.Rows L2 L3
section
variable {B O O':ci} {K:QR} {E:XK} {H H' U H2:Hp} {α α' Y α2:List QX} {Z Z' Z1 X:a9} {σ:L2.St} {ρ:bx} {v:V}
def B4 (fa:dC):dC:=fun ρ Z=>(fa ρ Z).bind fun x Z1=>(RS.Sh Z1 (im Z1 x)).bind fun p X=> .ok (.rf X.length) (X++[.lst p.2.reverse])
theorem Nf {a:Type} {R:V->a->Prop} {vs:List V} {xs:List a} (h:Paired R vs xs):Paired R vs.reverse xs.reverse:=by
 induction h with
 |nil=>exact .nil
 |cons h t b=>rw[S4,S4];exact vj b h
theorem D3 {h:TE} {fe:dC} (o:dc K E h fe):dc K E (yc K h) (B4 fe):=by intro B σ H α Z ρ Q s m w;refine o B σ H α Z ρ _ s m (w.bind.imp fun x Y Z1 U y b f u n=> ?_);obtain⟨⟨i,xs⟩,q,f⟩:=WS.Sh f;obtain⟨t,a,vs,ha,rfl,r,p⟩:=vU b n q;refine⟨a,vs,rfl,VR.of r,fun l g=> ?_⟩;have j:S6 U (bC U l (.lst vs.reverse)):=b4 g _;have e:Ta Y Z1 U (Y++[l]) (Z1++[.lst xs.reverse]) (bC U l (.lst vs.reverse)):=Ta.Yf b.len j g;exact f _ _ e (b.Yf j g (by rw[aM];simp) ⟨_,aM,Paired.Vn (Nf p) fun _ _ d=>d.TU e⟩) _ ⟨l,by rw[<-b.len];exact aY,rfl⟩
theorem Ke {i:Nat} {fa:dC} {xs:List SV} (h:fa ρ Z= .ok (.rf i) Z1) (a:Z1[i]? =lD (.lst xs)):B4 fa ρ Z= .ok (.rf Z1.length) (Z1++[.lst xs.reverse]):=by
 have b:im Z1 (.rf i)=lD (i,xs):=by unfold im;dsimp only;rw[a]
 unfold B4;rw[h,RS.bind_ok,b];rfl
theorem Mj {i:Nat} {f:D->D->Option RV} {fe:dC} {x y:SV} {z:SV} {Z3:a9} (a:ρ[i]? =lD (lD x)) (d:fe ρ Z= .ok y Z1) (b:oz f x y Z1= .ok z X):DZ i f fe ρ Z= .ok (.nx (ρ.set i (lD z))) X:=by unfold DZ;rw[bJ a,RS.bind_ok,d,RS.bind_ok,b,RS.bind_ok]
end
end L10
namespace L4
open PySem PySem.Spec PyProof.Rows L2 L3
end L4
namespace L3
open PySem L2
end L3
namespace LD
open PySem PyProof.Rows L2 L3
def sF (xs:List (KD×QX×V)) (k:KD):Option V:=(xs.find? fun x=>decide (x.1=k)).map (·.2.2)
def l6 (xs:List (KD×QX×V)) (k:KD) (b:QX) (v:V):List (KD×QX×V):=
 if(xs.find? fun x=>decide (x.1=k)).isSome=QW then xs.map (fun x=>if x.1=k then(x.1,x.2.1,v) else x) else xs++[(k,b,v)]
abbrev RX:List (KD×QX×V)->List (KD×QX×QT)->Prop:=Paired fun x y=>x.1=y.1/\x.2.1=y.2.1/\RelV x.2.2 y.2.2
theorem wC:∀{xs:List (KD×QX×V)} {a:List (KD×QX×QT)},RX xs a->xs.map (·.1)=a.map (·.1)
 |_,_,.nil=>rfl
 |_,_,.cons h t=>by rw[Ri,Ri,h.1,wC t]
theorem zu:∀{xs:List (KD×QX×V)} {a:List (KD×QX×QT)},RX xs a->Vz (sF xs k) ((atKey a k).map (·.2))
 |_,_,.nil=>by unfold sF atKey;exact trivial
 |x::xs,y::a,.cons h t=>by
  unfold sF atKey;rw[RP,RP,h.1];by_cases e:y.1=k
  .rw[decide_eq_true e];exact h.2.2
  .rw[decide_eq_false e];exact zu t
theorem AF:∀{xs:List (KD×QX×V)} {a:List (KD×QX×QT)},RX xs a->(xs.find? fun x=>decide (x.1=k)).isSome=(atKey a k).isSome
 |_,_,.nil=>rfl
 |x::xs,y::a,.cons h t=>by
  unfold atKey;rw[RP,RP,h.1];by_cases e:y.1=k
  .rw[decide_eq_true e];rfl
  .rw[decide_eq_false e];exact AF t
theorem EN (r:RelV v u):∀{xs:List (KD×QX×V)} {a:List (KD×QX×QT)},RX xs a->RX (xs.map fun x=>if x.1=k then(x.1,x.2.1,v) else x) (a.map (putAt k u))
 |_,_,.nil=> .nil
 |x::xs,y::a,.cons h t=>by
  rw[Ri,Ri];refine .cons ?_ (EN r t);unfold putAt;by_cases e:y.1=k
  .rw[if_pos (h.1.trans e),if_pos e];exact⟨h.1,h.2.1,r⟩
  .rw[if_neg (by rw[h.1];exact e),if_neg e];exact h
theorem Cs (h:x.1=y.1/\x.2.1=y.2.1/\RelV x.2.2 y.2.2):∀{xs:List (KD×QX×V)} {a:List (KD×QX×QT)},RX xs a->RX (xs++[x]) (a++[y])
 |_,_,.nil=> .cons h .nil
 |_,_,.cons g t=> .cons g (Cs h t)
theorem Gi (r:RelV v u) (h:RX xs ys):RX (l6 xs k b v) (storedH ys k b u):=by
 unfold l6 storedH;rw[AF h];split
 .exact EN r h
 .exact Cs ⟨rfl,rfl,r⟩ h
theorem pi (xs:List (KD×QX×V)) (k:KD) (b:QX) (v:V):(l6 xs k b v).length<=xs.length+1:=by
 unfold l6;split
 .rw[QV];omega
 .rw[Q3];exact Q4 _
def xH (K:QR) (H:Hp) (xs:List (KD×QX×V)):Prop:=∀x∈xs,L2.DV K H (.ref x.2.1) x.1.1
section
variable {X:Cx} {Z:List (QX×Obj)} {Y:L2.St} {H:Hp} {s:Q0} {a b:QX} {xs:List (KD×QX×V)} {k:KD} {v:V} {u r:QT} {A:RG} {E:QT->Q0->Prop}
theorem Ko:∀{xs:List (KD×QX×V)} {d:List UH},Paired (fun(x:KD×QX×V) (e:UH)=>e.hash=sA w x.1.1/\e.key= .ref x.2.1/\RelV x.2.2 e.val) xs d->∃ys,RX xs ys/\d=ys.map (entryOfKey (hV P w))
 |_,_,.nil=>⟨[],.nil,rfl⟩
 |x::_,e::_,.cons ⟨h1,h2,h3⟩ t=>by obtain⟨ys,g,f⟩:=Ko t;refine⟨(x.1,x.2.1,e.val)::ys,.cons ⟨rfl,rfl,h3⟩ g,?_⟩;rw[Ri,<-f];obtain⟨i,h,ev⟩:=e;dsimp only at h1 h2;subst h1 h2;rfl
theorem KZ:∀{xs:List (KD×QX×V)} {d:List (KD×QX×QT)},RX xs d->Paired (fun(x:KD×QX×V) (e:UH)=>e.hash=sA w x.1.1/\e.key= .ref x.2.1/\RelV x.2.2 e.val) xs (d.map (entryOfKey (hV P w)))
 |_,_,.nil=> .nil
 |_,_,.cons h t=> .cons ⟨by rw[h.1];rfl,by rw[h.2.1];rfl,h.2.2⟩ (KZ t)
theorem rK (I:L2.Inv X Z Y H s) (h:L2.DV X.K H (.ref b) k.1):(hV X.prog X.w).is s.heap k b:=L2.DV.reads I h rfl
theorem Bi (I:L2.Inv X Z Y H s) (e:H a=lD (DkO a xs)) (i:xH X.K H xs):xs.length<=Q8/\(a==Ti)=Q2/\∃ys,RX xs ys/\s.heap.DictOfH (hV X.prog X.w) a ys:=by
 obtain⟨⟨⟨z,j,nd⟩,o,J,L,F,C,B,n⟩,_⟩:=(show ObjOk X.prog X.w H s.heap a (DkO a xs) from I.Su a _ e);obtain⟨ys,f,G⟩:=Ko n;refine⟨z,j,ys,f,o,J,L,F,C,B,G,?_,by rw[<-wC f];exact nd⟩;have all:∀{l:List (KD×QX×V)} {m:List (KD×QX×QT)},RX l m->(∀x∈l,L2.DV X.K H (.ref x.2.1) x.1.1)->∀y∈m,(hV X.prog X.w).is s.heap y.1 y.2.1:=by
  intro l m q
  induction q with
  |nil=>intro _ y d;exact nomatch d
  | @cons p q ps qs hq t ih=>
   intro g y d;rcases Rv.mp d with e|d
   .subst e;have:=rK I (g p (Rh ..));rw[hq.1,hq.2.1] at this;exact this
   .exact ih (fun x h=>g x (Rf _ h)) y d
 exact all f i
theorem vB (z:xs.length<=Q8) (hd:(a==Ti)=Q2) (d:RX xs ys) (dd:h'.DictOfH (hV P w) a ys):ObjOk P w H' h' a (DkO a xs):=by obtain⟨o,e,f,g,m,l,j,t,i⟩:=dd;refine⟨⟨⟨z,hd,by rw[wC d];exact i⟩,o,e,f,g,m,l,by rw[j];exact KZ d⟩,⟨o,g⟩,?_⟩;rintro B y ⟨q,o,e,f,p,n⟩ h;exact⟨q,o,e,f,h o p,n⟩
theorem wA (d:A.units+64<cLine):(hV X.prog X.w).room A.in1:=by show A.in1.units+8<cLine;rw[RG.in1_units];omega
theorem Ni (j:A.units+64<cLine) (I:L2.Inv X Z Y H s) (e:H a=lD (DkO a xs)) (m:xH X.K H xs) (n:L2.DV X.K H (.ref b) k.1) (g:sF xs k=lD v) (h:∀w' s',L2.Inv X Z Y H s'->RelV v w'->Q w' s'):
  wpAny (model X.prog X.w) A (getItem (.ref a) (.ref b)) Q E s:=by
 obtain⟨z,t,q,d,dd⟩:=Bi I e m;obtain⟨w',i,o⟩:=Vz.some_of (by rw[<-g];exact zu d);obtain⟨p,l,f⟩:=YF.mp i;refine ace (wA j) (rK I n) dd l ?_;rw[f];exact h w' _ (I.tok _) o
theorem Mi (f:A.units+64<cLine) (I:L2.Inv X Z Y H s) (e:H a=lD (DkO a xs)) (g:xH X.K H xs) (j:L2.DV X.K H (.ref b) k.1) (h:∀s',L2.Inv X Z Y H s'->Q (.bool (!(sF xs k).isSome)) s'):
  wpAny (model X.prog X.w) A (Tf .NotIn (.ref b) (.ref a)) Q E s:=by
 obtain⟨z,i,l,d,dd⟩:=Bi I e g;refine wpAny_notIn_heap (wA f) (rK I j) i dd ?_;have q:=(zu (k:=k) d).Wh;rw[Xe] at q;rw[<-q];exact h _ (I.tok _)
theorem Lk (l:A.units+64<cLine) (I:L2.Inv X Z Y H s) (e:H a=lD (DkO a xs)) (n:xH X.K H xs) (t:L2.DV X.K H (.ref b) k.1) (rv:RelV v r) (B:xs.length<Q8) (h:∀s',L2.Inv X Z Y (bC H a (DkO a (l6 xs k b v))) s'->Q () s'):
  wpAny (model X.prog X.w) A (setItem (.ref a) (.ref b) r) Q E s:=by
 obtain⟨z,p,i,d,dd⟩:=Bi I e n;have j:i.length<=Q8:=by rw[<-Paired.length d];exact z
 have g:(l6 xs k b v).length<=Q8:=by have:=pi xs k b v;omega
 refine acf (hsz:=j) (wA l) (rK I t) dd fun y f m=>h _ ?_;have o:∃q,y.get? a=lD q:=let⟨q,_,_,hq,_⟩:=f;⟨q,hq⟩
 exact nJ I (by rw[e];exact True.intro) m o (vB g p (Gi rv d) f)
theorem HJ (I:L2.Inv X Z Y H s) (e:H a=lD (DkO a xs)):s.TypeIs (.ref a) "dict"/\(∀b,QT.ref a= .ref b->∃ob,s.heap.get? b=lD ob/\ob.dict=QS)/\(a==Ti)=Q2:=by obtain⟨⟨⟨z,g,nd⟩,o,j,l,f,d,i,h⟩,_⟩:=(show ObjOk X.prog X.w H s.heap a (DkO a xs) from I.Su a _ e);refine⟨⟨o,f,d.1⟩,fun b q=> ?_,g⟩;cases q;exact⟨o,f,d.2.1⟩
end
section
variable (K:QR)
def Kv (neg:Bool) (ty f:TE):TE:=fun e H Q=>ty e H fun y g=>f e g fun x d=>∃a b xs k,x= .ref a/\y= .ref b/\d a=lD (DkO a xs)/\xH K d xs/\L2.DV K d (.ref b) k.1/\Q (.bl ((sF xs k).isSome !=neg)) d
def Eu (f ty:TE):TE:=fun e H Q=>f e H fun x g=>ty e g fun y d=>∃a b xs k v,x= .ref a/\y= .ref b/\d a=lD (DkO a xs)/\xH K d xs/\L2.DV K d (.ref b) k.1/\sF xs k=lD v/\Q v d
def ED (g ty f:TE):TS:=fun D d H=>f d H fun v i=>g d i fun x h=>ty d h fun y e=>∃a b xs k,x= .ref a/\y= .ref b/\e a=lD (DkO a xs)/\xH K e xs/\L2.DV K e (.ref b) k.1/\xs.length<Q8/\D.nx d (bC e a (DkO a (l6 xs k b v)))
def Ed:TE:=fun _ H Q=>∀p,H p=QS->Q (.ref p) (bC H p (DkO p []))
end
section
variable {X:Cx} {o i e f Z:Sf} {T U tx tv:TE} {pos Y apos Ur:Pos}
theorem Y1 (t:X.A.units+64<cLine) (hi:PE X i U) (v:PE X o T):PC X .NotIn i o (Kv X.K QW U T):=by intro d s g H Q I h;refine cB (hi d s g H _ I h) fun M l ⟨y,G,E,m,p⟩=>cB (v d l g G _ E p) fun u L ⟨x,F,C,n,a,b,xs,k,z,w,e,q,r,j⟩=> ?_;subst z w;obtain rfl:=n;obtain rfl:=m;rw[Bool.bne_true] at j;exact Mi t C e q r fun J B=>⟨.bl _,F,B,rfl,j⟩
theorem X1 (z:X.A.units+64<cLine) (C:PE X o T) (hi:PE X i U) (B:MS i):PE X (.Subscript o i pos) (Eu X.K T U):=by intro d s j H Q I h;refine BJ X7.lookup B (cB (C d s j H _ I h) fun u m ⟨x,N,L,p,r⟩=>cB (hi d m j N _ L r) fun S R ⟨y,M,l,n,a,b,xs,k,v,F,E,e,t,w,g,q⟩=> ?_);subst F E;obtain rfl:=p;obtain rfl:=n;exact⟨(HJ l e).1,Ni z l e t w g fun O P J G=>⟨v,M,J,G,q⟩⟩
theorem YW (C:X.A.units+64<cLine) (F:PE X o T) (hi:PE X i U) (B:PE X Z tv) (E:SU Z (lD (.Subscript o i Y)) pos.line X.env=pure Q2):
  PS X (.Assign [.Subscript o i Y] Z pos) (ED X.K T U tv):=by
 intro d s g H D I h;refine aaG (cB (B d s g H _ I h) fun r l ⟨v,R,P,rv,t⟩=>cB (F d l g R _ P t) fun u j ⟨x,Q,O,n,q⟩=>cB (hi d j g Q _ O q) fun iv s3 ⟨y,H3,N,m,a,b,xs,k,L,J,e,w,z,G,p⟩=> ?_) E;subst L J;obtain rfl:=n;obtain rfl:=m;exact Lk C N e w z rv G fun S M=>⟨g,_,M,p⟩
theorem aa6:PE X (.Dict [] [] pos) Ed:=fun a s b H Q I h=>
 wpAny_Dict_empty ⟨.ref s.heap.objs.size,_,I.laid (fun _ _ q=>Heap.get?_push_of_some _ q) (Q4 _) (vB (RZ _) (beq_eq_false_iff_ne.mpr (Ne.symm (Rr I.big))) .nil (Heap.DictOfH.new s.heap)),rfl,h _ (I.Su.fresh (Q4 _))⟩
end
mutual
def NO:QZ->QZ->Option Bool
 | .int i,.int j=>lD (decide (i<j))
 | .str x,.str y=>lD (decide (x.cps.toList<y.cps.toList))
 | .tuple xs,.tuple ys=>Oj xs ys
 |_,_=>QS
def Oj:List QZ->List QZ->Option Bool
 |[],[]=>lD Q2
 |[],_::_=>lD QW
 |_::_,[]=>lD Q2
 |x::xs,y::ys=>if QZ.eqv x y=QW then Oj xs ys else NO x y
end
end LD
namespace LD
open PySem PyProof.Rows
structure VE (es:List UH) (Rz:List (Unit×QT)):Prop where
 vals:es.map (·.val)=Rz.map (·.2)
end LD
namespace LD
open PySem PyProof.Rows L2 L3 L10
end LD
namespace L10
open PySem PyProof.Rows L2 L3 LD
def jU:SV->Option D
 | .fz d=>if keyD d=QW then lD d else QS
 |_=>QS
def NN:SV->Option D
 | .fz d=>lD d
 |_=>QS
def tR (Z:a9):SV->Option (Nat×List (D×D))
 | .rf i=>match Z[i]? with
  |some (.dd Rz)=>lD (i,Rz)
  |_=>QS
 |_=>QS
def gM (Rz:List (D×D)) (k:D):Option D:=(Rz.find? fun a=>QZ.eqv a.1 k).map (·.2)
def jc (Rz:List (D×D)) (k v:D):List (D×D):=if(Rz.find? fun a=>QZ.eqv a.1 k).isSome=QW then Rz.map (fun a=>if QZ.eqv a.1 k=QW then(a.1,v) else a) else Rz++[(k,v)]
section
variable {B O O':ci} {K:QR} {E:XK} {H H' R P:Hp} {X α' U S:List QX} {Z Z' Z1 Y:a9} {T:L2.St} {ρ:bx} {v:V} {k:KD}
theorem nu (e:jU x=lD d) (h:Uw O K H X v x):∃(k:KD) (b:QX),k.1=d/\v= .ref b/\L3.DV O K H (.ref b) d:=by
 cases x with
 |fz z=>
  have e:(if keyD z=QW then lD z else QS)=lD d:=e;by_cases a:keyD z=QW
  .rw[if_pos a] at e
   cases e;have h:=h;cases d with
   |tuple xs=>cases h with
    |tup g f=>exact⟨⟨_,a⟩,_,rfl,rfl,.tup g f⟩
   |_=>simp[keyD] at a
  .rw[if_neg a] at e;cases e
 |rf i=>cases e
 |tp l=>cases e
theorem EJ (s:RF B K H X Z) (b:Uw (ow B X Z) K H X v x) (h:tR Z x=lD (i,Rz)):Z[i]? =lD (.dd Rz)/\∃a xs,X[i]? =lD a/\v= .ref a/\H a=lD (DkO a xs)/\PrD (ow B X Z) K H xs Rz:=by
 cases x with
 |fz d=>cases h
 |tp l=>cases h
 |rf j=>
  obtain⟨a,ha,rfl⟩:=b;unfold tR at h;dsimp only at h;cases q:Z[j]? with
  |none=>rw[q] at h;cases h
  |some c=>
   rw[q] at h;cases c with
   |dd m=>have e:=Rm h;cases e;obtain⟨ws,g,f⟩:=s.Ye i a _ ha q;exact⟨q,a,ws,ha,rfl,g,f⟩
   |_=>cases h
theorem Ar:∀{xs:List (KD×QX×V)} {Rz:List (D×D)},PrD O K H xs Rz->xH K H xs
 |_,_,.nil=>fun _ h=>nomatch h
 |x::xs,kv::Rz,.cons h t=>fun y a=>by
  rcases Rv.mp a with e|a
  .subst e;rw[h.1];exact h.2.1.plain
  .exact Ar t y a
theorem wy {x:KD×QX×V} {a:D×D} (h:x.1.1=a.1):decide (x.1=k)=QZ.eqv a.1 k.1:=by
 rw[<-h]
 haveI:Decidable (x.1.1=k.1):=Classical.propDecidable _
 rw[Fv (keyD_kd x.1.2).1 (keyD_kd k.2).1];by_cases e:x.1=k
 .rw[decide_eq_true e,decide_eq_true (congrArg Subtype.val e)]
 .rw[decide_eq_false e,decide_eq_false fun z=>e (Subtype.ext z)]
theorem sC:∀{xs:List (KD×QX×V)} {Rz:List (D×D)},PrD O K H xs Rz->(∀d,gM Rz k.1=lD d->∃v,sF xs k=lD v/\L3.DV O K H v d)/\(gM Rz k.1=QS->sF xs k=QS)
 |_,_,.nil=>⟨fun x e=>(by cases e),fun _=>rfl⟩
 |x::xs,kv::Rz,.cons h t=>by
  unfold gM sF;rw[RP,RP,wy h.1];cases QZ.eqv kv.1 k.1 with
  |true=>exact⟨fun d e=>⟨x.2.2,rfl,by cases e;exact h.2.2⟩,fun e=>by cases e⟩
  |false=>exact sC t
theorem Af (h:PrD O K H xs Rz):(sF xs k).isSome=(gM Rz k.1).isSome:=by
 obtain⟨b,a⟩:=sC h;cases q:gM Rz k.1 with
 |none=>rw[a q];rfl
 |some x=>obtain⟨u,e,_⟩:=b x q;rw[e];rfl
theorem Fo:∀{xs:List (KD×QX×V)} {Rz:List (D×D)},PrD O K H xs Rz->(xs.find? fun x=>decide (x.1=k)).isSome=(Rz.find? fun kv=>QZ.eqv kv.1 k.1).isSome
 |_,_,.nil=>rfl
 |x::xs,kv::Rz,.cons h t=>by
  rw[RP,RP,wy h.1];cases QZ.eqv kv.1 k.1 with
  |true=>rfl
  |false=>exact Fo t
theorem KI (a:L3.DV O K H v d):∀{xs:List (KD×QX×V)} {Rz:List (D×D)},PrD O K H xs Rz->PrD O K H (xs.map fun x=>if x.1=k then(x.1,x.2.1,v) else x) (Rz.map fun kv=>if QZ.eqv kv.1 k.1=QW then(kv.1,d) else kv)
 |_,_,.nil=> .nil
 |x::xs,kv::Rz,.cons h t=>by
  rw[Ri,Ri];refine .cons ?_ (KI a t);have e:=wy (k:=k) h.1;by_cases z:x.1=k
  .rw[if_pos z,if_pos (by rw[<-e];exact decide_eq_true z)];exact⟨h.1,h.2.1,a⟩
  .rw[if_neg z,if_neg (by rw[<-e,decide_eq_false z];simp)];exact h
theorem yt (r:x.1.1=kv.1/\L3.DV O K H (.ref x.2.1) kv.1/\L3.DV O K H x.2.2 kv.2):∀{xs:List (KD×QX×V)} {Rz:List (D×D)},PrD O K H xs Rz->PrD O K H (xs++[x]) (Rz++[kv])
 |_,_,.nil=> .cons r .nil
 |_,_,.cons g t=> .cons g (yt r t)
theorem xw (e:L3.DV O K H (.ref b) k.1) (a:L3.DV O K H v d) (h:PrD O K H xs Rz):PrD O K H (l6 xs k b v) (jc Rz k.1 d):=by
 unfold l6 jc;rw[Fo h];split
 .exact KI a h
 .exact yt ⟨rfl,e,a⟩ h
theorem M5 (e:Ev O H O' H') (h:PrD O K H xs Rz):PrD O' K H' xs Rz:=Paired.Vn h fun _ _ q=>⟨q.1,q.2.1.ev e,q.2.2.ev e⟩
def x5 (neg:Bool) (fk fd:dC):dC:=fun ρ Z=>(fk ρ Z).bind fun x Z1=>(fd ρ Z1).bind fun o Y=>(RS.Sh Y (jU x)).bind fun k Y=>(RS.Sh Y (tR Y o)).bind fun p Y=> .ok (.fz (.bool ((gM p.2 k).isSome !=neg))) Y
theorem wL (r:dc K E tk fk) (hd:dc K E td fd):dc K E (Kv K neg tk td) (x5 neg fk fd):=by intro B T H X Z ρ Q s f w;refine r B T H X Z ρ _ s f (w.bind.imp fun x U Z1 R A l j v p=> ?_);refine hd B T R U Z1 ρ _ l (f.TU A) (j.bind.imp fun o S Y P z g e u q=> ?_);obtain⟨d,n,e⟩:=WS.Sh e;obtain⟨⟨i,Rz⟩,m,e⟩:=WS.Sh e;obtain⟨_,a,xs,ha,rfl,y,h⟩:=EJ g q m;obtain⟨k,b,rfl,rfl,t⟩:=nu n (p.TU z);refine⟨a,b,xs,k,rfl,rfl,y,Ar h,t.plain,?_⟩;rw[Af h];exact WS.now g e _ (.bl _)
def kN (fd fk:dC):dC:=fun ρ Z=>(fd ρ Z).bind fun o Z1=>(fk ρ Z1).bind fun x Y=>(RS.Sh Y (jU x)).bind fun k Y=>(RS.Sh Y (tR Y o)).bind fun p Y=>(RS.Sh Y (gM p.2 k)).bind fun d Y=> .ok (.fz d) Y
theorem oy (hd:dc K E td fd) (C:dc K E tk fk):dc K E (Eu K td tk) (kN fd fk):=by intro B T H X Z ρ Q s f w;refine hd B T H X Z ρ _ s f (w.bind.imp fun o U Z1 R J m j u A=> ?_);refine C B T R U Z1 ρ _ m (f.TU J) (j.bind.imp fun x S Y P I g e v t=> ?_);obtain⟨d,q,e⟩:=WS.Sh e;obtain⟨⟨i,Rz⟩,p,e⟩:=WS.Sh e;obtain⟨_,a,xs,ha,rfl,G,h⟩:=EJ g (A.TU I) p;obtain⟨k,b,rfl,rfl,F⟩:=nu q t;obtain⟨y,n,e⟩:=WS.Sh e;obtain⟨z,r,l⟩:=(sC h).1 y n;exact⟨a,b,xs,k,z,rfl,rfl,G,Ar h,F.plain,r,WS.now g e z l⟩
def rN (fd fk b:dC):eT:=fun ρ Z=>(b ρ Z).bind fun y Z1=>(fd ρ Z1).bind fun o Y=>(fk ρ Y).bind fun x a=>(RS.Sh a (jU x)).bind fun k a=>(RS.Sh a (tR a o)).bind fun p a=>(RS.Sh a (NN y)).bind fun d a=>if p.2.length<1000000 then .ok (.nx ρ) (a.set p.1 (.dd (jc p.2 k d))) else .bad
theorem DU (e:NN x=lD d) (h:Uw O K H X v x):L3.DV O K H v d:=by
 cases x with
 |fz z=>cases e;exact h
 |rf i=>cases e
 |tp l=>cases e
theorem ue (hd:dc K E td fd) (hk:dc K E tk fk) (hv:dc K E tv fv):mG K E (ED K td tk tv) (rN fd fk fv):=by
 intro B T H X Z ρ D s g w;refine hv B T H X Z ρ _ s g (WS.imp (WS.bind w) fun y U Z1 R r L I t m=> ?_);refine hd B T R U Z1 ρ _ L (g.TU r) (WS.imp (WS.bind I) fun o S Y P q J G u hu=> ?_);refine hk B T P S Y ρ _ J (g.TU (r.trans q)) (WS.imp (WS.bind G) fun x e h j p A f z hz=> ?_);obtain⟨kd,Q,f⟩:=WS.Sh f;obtain⟨⟨i,Rz⟩,N,f⟩:=WS.Sh f;obtain⟨d,M,f⟩:=WS.Sh f;obtain⟨l,a,xs,ha,rfl,g1,n⟩:=EJ A (hu.TU p) N;obtain⟨k,b,rfl,rfl,C⟩:=nu Q hz;have hy:=DU M (m.TU (q.trans p));dsimp only at f;by_cases hn:Rz.length<1000000
 .rw[if_pos hn] at f;have ev:Ev (ow B e h) j (ow B e h) (bC j a (DkO a (l6 xs k b t))):=rS ha l (by intro z;cases z);have F:Ta e h j e (h.set i (.dd (jc Rz k.1 d))) (bC j a (DkO a (l6 xs k b t))):=Ta.put ha l (by intro z;cases z) (by intro z;cases z);have hl:=Paired.length n;refine⟨a,b,xs,k,rfl,rfl,g1,Ar n,C.plain,uG (by omega),?_⟩;exact f e _ F (A.put ha l (by intro z;cases z) (by intro z;cases z) ⟨_,aM,xw (C.ev ev) (hy.ev ev) (M5 ev n)⟩) T ((g.TU (r.trans (q.trans p))).TU F)
 .rw[if_neg hn] at f;exact f.elim
def Ag:dC:=fun _ Z=> .ok (.rf Z.length) (Z++[.dd []])
theorem Cv:dc K E Ed Ag:=by intro B T H X Z ρ Q s b w;exact fun p a=>nc s a w fun _=>⟨[],aM,.nil⟩
end
end L10
namespace PySem
open Sem (wp)
namespace F
end F
end PySem
namespace PySem
open Sem (wp)
open PyProof.Rows
end PySem
namespace L10
open PySem PySem.Spec PyProof.Rows L2 L3
end L10
namespace PySem
open Sem (wp)
open PyProof.Rows
end PySem
namespace L10
open PySem PySem.Spec PyProof.Rows L2 L3 LD
end L10
namespace L10
open PySem PyProof.Rows L2 L3 LD
end L10
namespace L10
open PySem PyProof.Rows L2 L3
end L10
namespace L3
open PySem PyProof.Rows L2
structure Yy (K:QR) (x qual:Str) (st:Ts) (f:QX) (fd:Sj) (T:QX) (RQ:Array QT):Prop where
 ex:∃(oc:QT) (od:Option QX) (kV doc pm:QT) (an:Option QX) (SE ct:QT) (Y8:Array (Option QT)),
  fd=SN x qual (fO st) (cr st) (aG st) (.ref T) kV doc pm an SE ct/\K.lookup f=lD ⟨oc,od,.func fd,Y8⟩/\U5 K SE qual=QW
 kp:SX K (.ref f)=QW
 tp:∃o n,K.lookup T=lD o/\o.data= .seq RQ n
section
variable {P:Rt} {w:RM} {K:QR} {mg:Str->Option QT} {base:Heap} {x Z:Str} {Y:Ts} {f:QX} {fd:Sj} {T:QX} {RQ:Array QT} {N ps:List Str} {k n m:Nat} {sp:Sp} {ds:List QT}
theorem Yy.binds (F:Yy K x Z Y f fd T RQ)
  (h:∀(kV a b:QT) (d:Option QX) (e ct:QT) (us:List QT),(us++ds).length=ps.length->∃k:Option (Array QT)->Sem (List (Str×QT)),bindArgs (SN x Z (fO Y) (cr Y) (aG Y) (.ref T) kV a b d e ct) ⟨us,[]⟩=seqItems? (.ref T)>>=k/\k (lD RQ)=pure (ps.zip (us++ds))):Binds K fd ps ds:=by
 obtain⟨r,q,kV,a,b,d,e,ct,v,rfl,t,u⟩:=F.ex;obtain⟨o,n,j,i⟩:=F.tp;intro s us X g;obtain⟨k,p,l⟩:=h kV a b d e ct us g;exact Wz.of_defaults (fd:=SN x Z (fO Y) (cr Y) (aG Y) (.ref T) kV a b d e ct) rfl (X _ _ j) i p l
def GX (P:Rt) (w:RM) (K:QR) (mg:Str->Option QT) (base:Heap) (a:vX) (k:Nat) (x:Str) (ps:List Str) (dvs:List V) (sp:Sp):Prop:=
 ∃(f:QX) (fd:Sj) (ds:List QT),FnOk P w K mg base a k f fd ps sp/\Binds K fd ps ds/\Vals dvs ds/\SX K (.ref f)=QW/\mg x=lD (.ref f)
theorem IB (C:GX X.prog X.w X.K X.mg X.base CX k x ps dvs sp) (h:Tt j X.A) (g:fW CX X E) (ha:PA X (e::es) t) (a:k<=j:=by decide) (i:Gl X x:=by rfl)
  (o:(x==("__debug__":Str))=Q2:=by decide) (l:Ru (e::es) X.env=(Q2,eval e X.env)::Ru es X.env:=by rfl) (q:(backTo pos (Ru es X.env)).any (·.1)=Q2:=by rfl):
  PE X (.Call (.Name x p) (e::es) [] pos) (ng sp dvs E t):=by
 obtain⟨f,fd,ds,F,b,v,d,m⟩:=C;exact Cp F (h.mono a) i m d b v g ha o l q
end
end L3
namespace L10
open PySem PyProof.Rows L2 L3
section
variable {P:Rt} {w:RM} {K:QR} {mg:Str->Option QT} {base:Heap} {x Z:Str} {Y:Ts} {f:QX} {fd:Sj} {T:QX} {RQ:Array QT} {N ps:List Str} {k n m:Nat} {g:eT} {FF:i7}
theorem OY (F:Yy K x Z Y f fd T RQ) (S:TN N ps (aG Y)) (hn:ps.length=n) (hm:N.length=m) (l:FF=dj m g)
  (q:∀(a:QT) (A:RG) (outer:List Env) (s:Q0) (H:Hp) (E:XK),Tt k (A.deeper (Ry Z (aG Y) s.heap.objs.size f a))->
   ∃t,Xi (fV (L4.mF P w) P w K mg base N Z (aG Y) f a A outer s H E) (cr Y) t/\mG K E t g):FnOk P w K mg base (L4.mF P w) (k+1) f fd ps (d4 K n FF):=by
 subst l hm;obtain⟨v,u,kV,o,r,y,a,ct,z,rfl,d,p⟩:=F.ex;refine G0 d p S (fun vs H Q E h=>h.1.trans hn.symm) fun A outer s H vs Q E j b=> ?_;obtain⟨t,e,i⟩:=q a A outer s H E j;exact⟨t,e,z4 (xs:=[]) i b⟩
end
end L10
namespace L4
open PySem PyProof.Rows L2 L3
end L4
namespace L2
open PySem PySem.Spec PyProof.Rows
end L2
namespace L4
open PySem PyProof.Rows L2 L3
end L4
namespace L2
open PySem PySem.Spec PyProof.Rows
end L2
namespace L10
open PySem PyProof.Rows L2 L3
end L10
namespace L3
open PySem L2
section
variable {P:Rt} {w:RM} {K:QR} {mg:Str->Option QT} {base h:Heap} {f C:QX} {n m q:Str} {t:Ts} {ps fs:List Str} {Z k:Nat} {sp sp':Sp} {Y:vX}
theorem MI.aev (i:MI K C f m q t) (c:CI K C n fs) (b:BA m q t ps) (ok:∀fd,Ut K m q t f fd->FnOk P w K mg base Y Z f fd ps sp):L10.b9 P w K mg base Y Z n m ps sp:=
 let⟨fd,z⟩:=i.F;⟨C,f,fd,c.a,c.cls,⟨i.a,i.i,z.kp⟩,ok fd z,z.binds b⟩
theorem MI.ag7 (i:MI K C f "__init__" q t) (c:CI K C n fs) (X:K.In h) (G:h.Ns Rk mg) (b:BA "__init__" q t ps) (ok:∀fd,Ut K "__init__" q t f fd->FnOk P w K mg base Y Z f fd ps sp):L10.xg P w K mg base Y Z n ps sp:=
 let⟨fd,z⟩:=i.F;⟨C,f,fd,c.a,To X G c.a,⟨c.mm,i.a,i.i,c.kc⟩,ok fd z,z.binds b⟩
end
end L3
namespace L10
open PySem PySem.Spec PyProof.Rows L2 L3
section
variable {B O O':ci} {K:QR} {E:XK} {H H' X H2:Hp} {α α' Y α2:List QX} {Z Z' Z1 Z2:a9} {σ:L2.St} {ρ:bx} {v:V}
def qE (c f:Str) (fe:dC):eT:=fun ρ Z=>(fe ρ Z).bind fun x Z1=>match x with
 | .fz d=>if L9.Os d=QW then .er ⟨c,[(f,d)]⟩ Z1 else .bad
 |_=> .bad
theorem zJ (M:Rp K Rk c=lD (lD (.ref C))) (L:dc K E te fe):mG K E (L9.AG C (L9.wb C f) E (jW te pQ)) (qE c f fe):=by
 intro B σ H α Z ρ D s G w;refine L B σ H α Z ρ _ s G (WS.imp (WS.bind w) fun x Y Z1 X Q I a v h=> ?_)
 match x,h,a with
 | .fz d,h,a=>
  have h:=h;dsimp only at a;by_cases r:L9.Os d=QW
  .rw[if_pos r] at a
   have j:L9.Pb v/\∀(O':ci) (H':Hp),L3.DV O' K H' v d:=by
    cases d with
    |none=>cases h;exact⟨.inl rfl,fun _ _=> .TL⟩
    |int i=>cases h;exact⟨.inr ⟨i,rfl,of_decide_eq_true r⟩,fun _ _=> .int i⟩
    |_=>cases r
   refine⟨by show 1<=Q8;decide,fun e hn=>⟨e,v,rfl,j.1,aM,fun p F g=>⟨rfl,p,?_,?_⟩⟩⟩
   .rw[aH (Ne.symm g),aM]
   .have u:X p=QS:=by rw[aH g] at F;exact F
    have A:S6 X (L9.NT (bC (bC (bC X e (.ext (L9.JQ C e))) e (.ext (L9.OE C e p))) p (.xd [(f,v)])) e):=fun b o z=>by
     have t:b≠e:=fun y=>by rw[y,hn] at z;cases z
     have J:b≠p:=fun y=>by rw[y,u] at z;cases z
     rw[L9.jz t,aH J,aH t,aH t];exact z
    refine a (.ref C) (lD p) Y _ (Ta.same A) (I.grow A) ⟨⟨C,rfl,M⟩,[(f,v)],fun P q=> ?_,fun m N l=>⟨(fun z=>nomatch z),?_⟩⟩
    .cases q;rw[L9.jz g,aM]
    .have n:(match m==f with|true=>lD d|false=>TH m [])=lD N:=l
     cases hb:m==f with
     |true=>rw[hb] at n;cases n;refine⟨v,?_,j.2 _ _⟩;show(match m==f with|true=>lD v|false=>TH m [])=lD v;rw[hb]
     |false=>rw[hb] at n;cases n
  .rw[if_neg r] at a;exact a.elim
 | .rf _,_,a=>exact a.elim
 | .tp _,_,a=>exact a.elim
end
end L10
namespace L10
open PySem L2 L3
section
variable {P:Rt} {w:RM} {K:QR} {mg:Str->Option QT} {base:Heap} {x Z:Str} {Y:Ts} {f:QX} {fd:Sj} {T:QX} {RQ:Array QT} {N ps:List Str} {k n m:Nat} {g:eT} {X:i7}
theorem Kl (F:Ut K x Z Y f fd) (S:TN N ps (aG Y)) (hn:ps.length=n) (hm:N.length=m) (d:X=dj m g)
  (e:∀(a:QT) (A:RG) (outer:List Env) (s:Q0) (H:Hp) (E:XK),N.Nodup->Tt k (A.deeper (Ry Z (aG Y) s.heap.objs.size f a))->(A.deeper (Ry Z (aG Y) s.heap.objs.size f a)).units+64<cLine->(A.deeper (Ry Z (aG Y) s.heap.objs.size f a)).units+1<cLine->(A.deeper (Ry Z (aG Y) s.heap.objs.size f a)).units+65<cLine->
   ∃t,Xi (fV (L4.mF P w) P w K mg base N Z (aG Y) f a A outer s H E) (cr Y) t/\mG K E t g):FnOk P w K mg base (L4.mF P w) (k+1) f fd ps (d4 K n X):=
 PL F S hn hm d fun a A outer s H E b=>e a A outer s H E S.nd b b.units (AN b) (BE b)
theorem LM (F:Yy K x Z Y f fd T RQ) (S:TN N ps (aG Y)) (hn:ps.length=n) (hm:N.length=m) (d:X=dj m g)
  (e:∀(a:QT) (A:RG) (outer:List Env) (s:Q0) (H:Hp) (E:XK),N.Nodup->Tt k (A.deeper (Ry Z (aG Y) s.heap.objs.size f a))->(A.deeper (Ry Z (aG Y) s.heap.objs.size f a)).units+64<cLine->(A.deeper (Ry Z (aG Y) s.heap.objs.size f a)).units+1<cLine->(A.deeper (Ry Z (aG Y) s.heap.objs.size f a)).units+65<cLine->
   ∃t,Xi (fV (L4.mF P w) P w K mg base N Z (aG Y) f a A outer s H E) (cr Y) t/\mG K E t g):FnOk P w K mg base (L4.mF P w) (k+1) f fd ps (d4 K n X):=
 OY F S hn hm d fun a A outer s H E b=>e a A outer s H E S.nd b b.units (AN b) (BE b)
end
end L10
namespace LD
open PySem PySem.Spec PyProof.Rows L2
def OS (K:QR) (f e:TE):TE:=fun d H Q=>∀p,H p=QS->f d (bC H p (DkO p [])) fun y g=>e d g fun v a=>∃b k,y= .ref b/\a p=lD (DkO p [])/\L2.DV K a (.ref b) k.1/\Q (.ref p) (bC a p (DkO p (l6 [] k b v)))
theorem acz (T:X.A.units+64<cLine) (F:PE X k tk) (C:PE X v tv):PE X (.Dict [lD k] [v] pos) (OS X.K tk tv):=by
 intro a s l H Q I q;have hn:=I.Su.fresh (Q4 s.heap.objs.size);have N:=I.laid (t':=s.toks) (fun _ _ q=>Heap.get?_push_of_some _ q) (Q4 _) (vB (RZ _) (beq_eq_false_iff_ne.mpr (Ne.symm (Rr I.big))) .nil (Heap.DictOfH.new s.heap));refine wpAny_Dict_any rfl rfl (XJ _ _) (show 1<=15 by decide) (pairTrees_cons_walk (cB (F a _ l _ _ N (q _ hn)) fun u o ⟨x,O,j,r,w⟩=>cB (C a o l O _ j w) fun P R ⟨y,U,i,p,b,m,M,e,B,t⟩=>pairTrees_nil_walk ?_));subst M;obtain rfl:=r;obtain⟨z,J,n,d,dd⟩:=Bi i e (fun _ h=>nomatch h);have S:n.length<=Q8:=by rw[<-Paired.length d];exact z
 have g:(l6 [] m b y).length<=Q8:=by have:=pi [] m b y;rw[Tv];simp only[SD] at this;omega
 unfold storeAll;simp only[U2,Wt];refine Ld (Ld (wpAny_dictSet_heap (show X.A.units+8<cLine by omega) (rK i B) dd fun L f E=>Q1 (Q1 ?_)));have G:∃q,L.get? s.heap.objs.size=lD q:=let⟨q,_,_,hq,_⟩:=f;⟨q,hq⟩
 exact⟨.ref s.heap.objs.size,_,nJ i (by rw[e];exact True.intro) E G (vB g J (Gi p d) f),rfl,t⟩
end LD
namespace L10
open PySem PyProof.Rows L2 L3 LD
section
variable {B O O':ci} {K:QR} {E:XK} {H H' H1 H2:Hp} {Y α' α1 α2:List QX} {Z Z' Z1 X:a9} {U:L2.St} {ρ:bx} {v:V}
def GV (fk a:dC):dC:=fun ρ Z=>(jY (fk ρ Z)).bind fun x Z1=>(jY (a ρ Z1)).bind fun y X=>match jU x,NN y with
 |some k,lD d=> .ok (.rf X.length) (X++[.dd (jc [] k d)])
 |_,_=> .bad
theorem IW (hk:dc K E tk fk) (hv:dc K E tv fv):dc K E (OS K tk tv) (GV fk fv):=by
 intro B U H Y Z ρ Q s P w p g;have hB:=fun z=>s.bn p z g;have R:RF (cj B p) K (bC H p (DkO p [])) Y Z:=s.hide g;have l:Ug (ow (cj B p) Y Z) K (bC H p (DkO p [])) Y U ρ:=by
  have ev:Ev (ow B Y Z) H (ow (cj B p) Y Z) (bC H p (DkO p [])):=fun b o h n=>by
   have r:b≠p:=fun z=>by rw[z,g] at h;cases h
   refine⟨by rw[aH r];exact h,fun z=> ?_⟩;rcases z with(z|z)|z
   .exact n (.inl z)
   .exact r z
   .exact n (.inr z)
  exact⟨P.1,fun j x hx=>let⟨v,h1,h2⟩:=P.2 j x hx;⟨v,h1,h2.ev ev fun _ _ h=>h⟩⟩
 unfold GV at w;refine hk (cj B p) U _ Y Z ρ _ R l ?_;cases qk:fk ρ Z with
 |er x f=>rw[qk] at w;exact w.elim
 |bad=>rw[qk] at w;exact w.elim
 |ok x L=>
  rw[qk] at w;intro t Hk G T v0 F;refine hv (cj B p) U Hk t L ρ _ T (l.TU G) ?_;have w:WS K E B H Y Z (PQ B K Q) ((jY (fv ρ L)).bind fun y X=>match jU x,NN y with|some k,lD d=> .ok (.rf X.length) (X++[.dd (jc [] k d)])|_,_=> .bad):=w;cases qv:fv ρ L with
  |er x f=>rw[qv] at w;exact w.elim
  |bad=>rw[qv] at w;exact w.elim
  |ok y f=>
   rw[qv] at w;intro e M I u N C;have w:WS K E B H Y Z (PQ B K Q) (match jU x,NN y with|some k,lD d=> .ok (.rf f.length) (f++[.dd (jc [] k d)])|_,_=> .bad):=w;cases q1:jU x with
   |none=>rw[q1] at w;exact w.elim
   |some kd=>
    cases q3:NN y with
    |none=>rw[q1,q3] at w;exact w.elim
    |some d=>rw[q1,q3] at w;obtain⟨k,b,rfl,rfl,r⟩:=nu q1 (F.TU I);have hy:=DU q3 C;have m:=(G.trans I).kp p _ aM fun⟨i,c,q,_⟩=>R.ba p (.inr rfl) i q;refine⟨b,k,rfl,m,r.plain,?_⟩;have S:Ev (ow (cj B p) e f) M (ow (cj B p) e f) (bC M p (DkO p (l6 [] k b N))):=Ev.mut (.inl (.inr rfl)) _;have A:=xw (r.ev S) (hy.ev S) .nil;have s3:=(u.adP m).acU (c:= .dd (jc [] k.1 d)) (by intro z;cases z) (by rw[aM];simp) ⟨_,aM,A⟩ hB;have J:Ta Y Z H e f (bC M p (DkO p (l6 [] k b N))):=((Ta.same (b4 g _)).trans (G.trans I)).dd g;exact w (e++[p]) _ ⟨fun i a h=>eN (J.pre i a h),J.kp,fun b z=>(sj u.len z).elim (J.lv b) fun z=> .inr (by rw[z];exact g)⟩ s3 (.ref p) ⟨p,by rw[<-u.len];exact aY,rfl⟩
end
end L10
namespace L3
open PySem L2
end L3
namespace L10
open PySem PyProof.Rows L2 L3
end L10
namespace L4
open PySem PySem.Spec PySem.W PyProof.Rows L2 L3
end L4
namespace L10
open PySem L2 L3
def P5 (T:A->a9->Prop) (X:Xc->Prop):RS A->Prop
 | .ok a Z=>T a Z
 | .er x _=>X x
 | .bad=>False
structure Out {A:Type} (r:RS A) (T:A->a9->Prop) (X:Xc->Prop):Prop where
 out:P5 T X r
section
variable {A B:Type} {r r':RS A} {T T':A->a9->Prop} {U:B->a9->Prop} {X:Xc->Prop} {Z:a9}
theorem Out.eq (e:r=r') (h:Out r' T X):Out r T X:=by rw[e];exact h
theorem Out.imp (h:Out r T X) (k:∀a Z,T a Z->T' a Z):Out r T' X:=by
 refine⟨?_⟩;have h:=h.out;cases r with
 |bad=>exact h
 |er x o=>exact h
 |ok a o=>exact k a o h
theorem Out.bind (h:Out r (fun a o=>Out (f a o) U X) X):Out (r.bind f) U X:=by
 refine⟨?_⟩;have h:=h.out;cases r with
 |bad=>exact h
 |er x o=>exact h
 |ok a o=>exact(show Out (f a o) U X from h).out
theorem Out.all (h:Out r T fun _=>False):∃a o,r= .ok a o/\T a o:=by
 have h:=h.out;cases r with
 |bad=>exact h.elim
 |er x o=>exact h.elim
 |ok a o=>exact⟨a,o,rfl,h⟩
end
section
variable {ρ ρ1 ρ2:bx} {Z Z1 Y Z3:a9} {x y z:SV} {i n:Nat} {d:D} {ds:List D} {b:Bool} {f g:eT} {fe:dC} {N:bx->a9->Prop} {T:SV->a9->Prop} {X:Xc->Prop}
def QE (N:bx->a9->Prop) (T:SV->a9->Prop):FlS->a9->Prop
 | .nx ρ,Z=>N ρ Z
 | .rt v,Z=>T v Z
 |_,_=>False
abbrev nV (r:RS FlS) (N:bx->a9->Prop) (T:SV->a9->Prop) (X:Xc->Prop):Prop:=Out r (QE N T) X
theorem kB (h:nV (f ρ Z) (fun r o=>nV (g r o) N T X) T X):nV (aX f g ρ Z) N T X:=by
 refine Out.bind (h.imp fun a o k=> ?_);cases a with
 |nx r=>exact k
 |rt v=>exact⟨k⟩
 |ct r=>exact k.elim
 |bk r=>exact k.elim
theorem KB (a:f ρ Z= .ok (.nx ρ1) Z1) (h:nV (g ρ1 Z1) N T X):nV (aX f g ρ Z) N T X:=kB (.eq a ⟨h⟩)
theorem yO (a:f ρ Z= .ok (.nx ρ1) Z1) (h:N ρ1 Z1):nV (f ρ Z) N T X:= .eq a ⟨h⟩
theorem dZ (e:fe ρ Z= .ok x Z1) (a:gt x ρ Z1= .ok ρ1 Y) (h:nV (g ρ1 Y) N T X):nV (aX (dL fe gt) g ρ Z) N T X:=KB (by unfold dL;rw[e,RS.bind_ok,a,RS.bind_ok]) h
theorem G4 (a:Out (fe ρ Z) (fun _ Z1=>N ρ Z1) X):nV (b3 fe ρ Z) N T X:=Out.bind (a.imp fun _ _ k=>⟨k⟩)
theorem ww {a j:eT} (e:c ρ Z= .ok QW Z1) (h:nV (aX a g ρ Z1) N T X):nV (aX (cC c a j) g ρ Z) N T X:=by refine .eq ?_ h;unfold aX cC;rw[e,RS.bind_ok,if_pos rfl]
theorem ot {j a:eT} (e:c ρ Z= .ok Q2 Z1) (h:nV (aX a g ρ Z1) N T X):nV (aX (cC c j a) g ρ Z) N T X:=by refine .eq ?_ h;unfold aX cC;rw[e,RS.bind_ok,if_neg Rc]
theorem lf (h:nV (g ρ Z) N T X):nV (aX cK g ρ Z) N T X:=kB ⟨h⟩
theorem r8 (a:fe ρ Z= .ok x Z1) (h:T x Z1):nV (gU fe ρ Z) N T X:= .eq (iR a) ⟨h⟩
theorem qL (a:fe ρ Z= .ok x Z1) (h:T x Z1):nV (aX (gU fe) g ρ Z) N T X:=kB (r8 a h)
theorem v9 (a:xs.map lD++Q6 (n - xs.length) QS=ρ) (h:nV (g ρ Z) (fun _ Z'=>T (.fz .none) Z') T X):Out (dj n g xs Z) T X:=by
 unfold dj;rw[a];refine Out.bind (h.imp fun e o k=> ?_);cases e with
 |nx r=>exact⟨k⟩
 |rt v=>exact⟨k⟩
 |ct r=>exact k.elim
 |bk r=>exact k.elim
theorem FB {b:eT} (I:Nat->bx->a9->Prop) (M:Nat) (j:∀n ρ Z,I n ρ Z->(∃Z1,c ρ Z= .ok Q2 Z1/\N ρ Z1)\/(n<M/\∃Z1,c ρ Z= .ok QW Z1/\nV (b ρ Z1) (I (n+1)) T X)):∀(m n:Nat) (ρ:bx) (Z:a9),M - n<m->I n ρ Z->nV (tN c b m ρ Z) N T X
 |0,n,_,_,h,_=>by omega
 |m+1,n,ρ,Z,h,h0=>by
  rcases j n ρ Z h0 with⟨Z1,e,p⟩|⟨hn,Z1,e,l⟩
  .refine .eq (show tN c b (m+1) ρ Z= .ok (.nx ρ) Z1 from ?_) ⟨p⟩;show((c ρ Z).bind _)=_;rw[e,RS.bind_ok,if_neg Rc]
  .refine .eq (show tN c b (m+1) ρ Z=(b ρ Z1).bind fun a Y=>match a with
    | .nx ρ2=>tN c b m ρ2 Y
    | .ct ρ2=>tN c b m ρ2 Y
    | .bk ρ2=> .ok (.nx ρ2) Y
    | .rt x=> .ok (.rt x) Y from ?_) (Out.bind (l.imp fun a o k=> ?_))
   .show((c ρ Z).bind _)=_
    rw[e,RS.bind_ok,if_pos rfl]
    all_goals (cases b ρ Z1 with
     |bad=>rfl
     |er x o=>rfl
     |ok a o=>cases a<;>rfl)
   .cases a with
    |nx r=>exact FB I M j m (n+1) r o (by omega) k
    |rt v=>exact⟨k⟩
    |ct r=>exact k.elim
    |bk r=>exact k.elim
theorem sJ {b:eT} (I:Nat->bx->a9->Prop) (M:Nat) (h:M<1000000) (e:I 0 ρ Z) (a:∀n ρ Z,I n ρ Z->(∃Z1,c ρ Z= .ok Q2 Z1/\N ρ Z1)\/(n<M/\∃Z1,c ρ Z= .ok QW Z1/\nV (b ρ Z1) (I (n+1)) T X)):nV (rV c b ρ Z) N T X:=FB I M a 1000000 0 ρ Z (by omega) e
theorem Bw {b:eT} (I:Nat->bx->a9->Prop):∀(ds:List D) (k:Nat) (ρ:bx) (Z:a9),I k ρ Z->(∀i d ρ Z,ds[i]? =lD d->I (k+i) ρ Z->∃ρ1 Z1,gt (.fz d) ρ Z= .ok ρ1 Z1/\nV (b ρ1 Z1) (I (k+i+1)) T X)->nV (kz gt b ds ρ Z) (I (k+ds.length)) T X
 |[],k,ρ,Z,h0,_=>⟨h0⟩
 |d::r,k,ρ,Z,h0,hs=>by
  obtain⟨ρ1,Z1,w,u⟩:=hs 0 d ρ Z rfl h0;have l:∀a p,I (k+1) a p->nV (kz gt b r a p) (I (k+(r.length+1))) T X:=fun a p h=>by
   have e:k+(r.length+1)=k+1+r.length:=by omega
   rw[e];refine Bw I r (k+1) a p h fun i A j q hi t=> ?_;have e:k+1+i=k+(i+1):=by omega
   rw[e] at t⊢;exact hs (i+1) A j q (by simpa using hi) t
  refine .eq (show kz gt b (d::r) ρ Z=(b ρ1 Z1).bind fun m Y=>match m with
   | .nx ρ2=>kz gt b r ρ2 Y
   | .ct ρ2=>kz gt b r ρ2 Y
   | .bk ρ2=> .ok (.nx ρ2) Y
   | .rt x=> .ok (.rt x) Y from ?_) (Out.bind (u.imp fun m o k=> ?_))
  .show((gt (.fz d) ρ Z).bind _)=_
   rw[w,RS.bind_ok]
   all_goals (cases b ρ1 Z1 with
    |bad=>rfl
    |er x o=>rfl
    |ok m o=>cases m<;>rfl)
  .cases m with
   |nx r=>exact l _ _ k
   |rt v=>exact⟨k⟩
   |ct r=>exact k.elim
   |bk r=>exact k.elim
theorem GK {b:eT} (I:Nat->bx->a9->Prop) (hi:fi ρ Z= .ok ds Z1) (h:I 0 ρ Z1) (a:∀i d ρ Z,ds[i]? =lD d->I i ρ Z->∃ρ1 Z1,gt (.fz d) ρ Z= .ok ρ1 Z1/\nV (b ρ1 Z1) (I (i+1)) T X) (e:∀ρ' Z',I ds.length ρ' Z'->N ρ' Z'):nV (xb fi gt b ρ Z) N T X:=by
 have:=Bw I ds 0 ρ Z1 h (by simpa using a);rw[Vd] at this;refine .eq ?_ (this.imp fun j o k=> ?_)
 .unfold xb;rw[hi,RS.bind_ok]
 .cases j with
  |nx r=>exact e _ _ k
  |rt v=>exact k
  |ct r=>exact k.elim
  |bk r=>exact k.elim
theorem AD (a:fo ρ Z= .ok (.rf i) Z1) (h:Z1[i]? =lD (.obj C fs)) (hm:fs.lookup m=QS) (ha:fa ρ Z1= .ok xs Y) (hn:(SV.rf i::xs).length=n):rp C m F n fo fa ρ Z=F (.rf i::xs) Y:=by
 have e:lH Z1 C m (.rf i)=QW:=by unfold lH;dsimp only;rw[h];dsimp only;rw[hm];simp
 unfold rp;rw[a,RS.bind_ok,if_pos e,ha,RS.bind_ok,if_pos hn]
theorem MP (ha:fa ρ Z= .ok xs Z1) (hn:(SV.rf Z1.length::xs).length=n):DA C F n fa ρ Z=(F (.rf Z1.length::xs) (Z1++[.obj C []])).bind fun r Y=>(if C2 r=QW then .ok (.rf Z1.length) Y else .bad):=by unfold DA;rw[ha,RS.bind_ok];unfold ud;rw[if_pos hn]
theorem CU {c f:Str} (h:fe ρ Z= .ok (.fz d) Z1) (hd:L9.Os d=QW):qE c f fe ρ Z= .er ⟨c,[(f,d)]⟩ Z1:=by unfold qE;rw[h,RS.bind_ok];dsimp only;rw[if_pos hd]
end
end L10
namespace L3
open PySem PyProof.Rows L2
section
variable {P:Rt} {w:RM} {K:QR} {mg:Str->Option QT} {base h:Heap} {f T:QX} {n:Str} {t:Ts} {ps:List Str} {lv:Nat} {sp:Sp} {CX:vX} {Z:Array QT}
structure DI (K:QR) (f T:QX) (n:Str) (t:Ts) (Z:Array QT):Prop where
 a:Rp K Rk n=lD (lD (.ref f))
 F:∃fd,Yy K n n t f fd T Z
theorem JT {x a:Str} {b:Ts} {p:QT} {o:Option QX} {kV d g:QT} {i:Option QX} {e ct:QT} {v:Array (Option QT)} {m:QT} {l:Option QX} {k:Nat} {j:Array (Option QT)}
  (q:K.lookup f=lD ⟨p,o,.func (SN x a (fO b) (cr b) (aG b) (.ref T) kV d g i e ct),v⟩) (u:U5 K e a=QW) (r:SX K (.ref f)=QW) (lt:K.lookup T=lD ⟨m,l,.seq Z k,j⟩):Yy K x a b f (SN x a (fO b) (cr b) (aG b) (.ref T) kV d g i e ct) T Z:=
 ⟨⟨_,_,_,_,_,_,_,_,_,rfl,q,u⟩,r,_,_,lt,rfl⟩
def BD (n:Str) (t:Ts) (T:QX) (Z:Array QT) (ps:List Str) (ds:List QT):Prop:=∀(kV b d:QT) (e:Option QX) (g ct:QT) (a:List QT),(a++ds).length=ps.length->∃k:Option (Array QT)->Sem (List (Str×QT)),bindArgs (SN n n (fO t) (cr t) (aG t) (.ref T) kV b d e g ct) ⟨a,[]⟩=seqItems? (.ref T)>>=k/\k (lD Z)=pure (ps.zip (a++ds))
theorem DI.cal {ds:List QT} {dvs:List V} (i:DI K f T n t Z) (X:K.In h) (G:h.Ns Rk mg) (d:BD n t T Z ps ds) (b:Vals dvs ds) (ok:∀fd,Yy K n n t f fd T Z->FnOk P w K mg base CX lv f fd ps sp):GX P w K mg base CX lv n ps dvs sp:=
 let⟨fd,z⟩:=i.F;⟨f,fd,ds,ok fd z,z.binds d,b,z.kp,To X G i.a⟩
end
structure Tp (P:Rt) (w:RM) (K:QR) (mg:Str->Option QT) (base h:Heap):Prop where
 X:K.In h
 G:h.Ns Rk mg
section
variable {P:Rt} {w:RM} {K:QR} {mg:Str->Option QT} {base h:Heap} {f C T:QX} {n m q:Str} {t:Ts} {ps fs:List Str} {Z:Nat} {sp:Sp} {Y:vX} {U:Array QT}
theorem NI.c (i:NI K f n t) (W:Tp P w K mg base h) (ok:∀fd,Ut K n n t f fd->FnOk P w K mg base dm Z f fd ps sp) (a:BA n n t ps:=by fail "ba"):xk P w K mg base Z n ps sp:=i.cal W.X W.G a ok
theorem MI.mt (i:MI K C f m q t) (c:CI K C n fs) (W:Tp P w K mg base h) (ok:∀fd,Ut K m q t f fd->FnOk P w K mg base Y Z f fd ps sp) (a:BA m q t ps:=by fail "ba"):L10.b9 P w K mg base Y Z n m ps sp:=i.aev c a ok
theorem MI.k (i:MI K C f "__init__" q t) (c:CI K C n fs) (W:Tp P w K mg base h) (ok:∀fd,Ut K "__init__" q t f fd->FnOk P w K mg base Y Z f fd ps sp) (a:BA "__init__" q t ps:=by fail "ba"):L10.xg P w K mg base Y Z n ps sp:=i.ag7 c W.X W.G a ok
theorem DI.c {ds:List QT} {dvs:List V} (i:DI K f T n t U) (W:Tp P w K mg base h) (a:Vals dvs ds) (ok:∀fd,Yy K n n t f fd T U->FnOk P w K mg base Y Z f fd ps sp) (b:BD n t T U ps ds:=by fail "bd"):GX P w K mg base Y Z n ps dvs sp:=i.cal W.X W.G b a ok
end
end L3
namespace LD
open PySem PySem.Spec PyProof.Rows L2 L3
end LD
namespace L10
open PySem PyProof.Rows L2 L3 LD
end L10
namespace LD
open PySem PySem.Spec PyProof.Rows L2 L3
end LD
namespace L10
open PySem PyProof.Rows L2 L3 LD
end L10
namespace L4
open PySem PySem.Spec PyProof.Rows L2 L3
def Kr (E2:XK) (e d:TS):TS:=fun D b H=>e D b H/\∀c dx H1,E2 c dx H1->∀(a:L2.St),a.length=b.length->d {nx:=D.nx,rt:=fun _ _=>False} a H1
theorem Jj {X:Cx} {E O:List Ts} {b0:Ts} {tb ts:TS} {E2:XK} {U:QX} {x:Str} {np agQ pos:Pos} {mU:List QT}
  (hex:X.ex=[]) (dQ:X.stack=X.env::X.outer) (ZV:X.env.frame=lD X.env.locals) (hg:Gl X x) (hm:X.mg x=lD (.ref U)) (hU:yx X.K U mU) (hbU:mU.contains (.type "BaseException")=QW)
  (hb:∀l,Xi ((Cx.pinned X l).WU (Gy (Cx.pinned X l) E2)) E tb) (hs:∀l e,Xi (Cx.marked (Cx.pinned X l) e) (b0::O) ts)
  (hE:∀c dx H,E2 c dx H->∃C m,c= .ref C/\yx X.K C m/\(QT.ref C::m).contains (.ref U)=QW) (Yq:(x==("__debug__":Str))=Q2:=by decide):
  PS X (.Try E [.ExceptHandler (lD (.Name x np)) QS (b0::O) agQ] [] [] pos) (Kr E2 tb ts):=by
 intro d s σ H D I ⟨h,hc⟩;have IY:=Ir I;have L:(Cx.pinned X (X.pn++d)).ex=[]:=hex;refine wpAny_Try_except (wpAny_mono (hb (X.pn++d) [] s σ H D (IY.WU _) h) (fun f N j=> ?_) (fun v N hx=> ?_))
 .have j:=SP.U8 j
  cases f with
  |next=>obtain⟨a,i,g,B⟩:=j;exact Vk ⟨a,i,jp I.ok g,B⟩
  |brk=>obtain⟨a,i,g,B⟩:=j;exact⟨a,i,jp I.ok g,B⟩
  |cont=>obtain⟨a,i,g,B⟩:=j;exact⟨a,i,jp I.ok g,B⟩
  |ret u=>obtain⟨v,a,i,g,r,B⟩:=j;exact⟨v,a,i,jp I.ok g,r,B⟩
 .obtain⟨a,i,e,c,dx,a0,T,rfl,g,F,R,Q,ne,nT,q⟩:=hx
  obtain⟨C,mC,hcC,⟨n1,B,N1,b1,d1,t1,u1,a1,l1,x1,i0,i1,i2,i3,i5,id1,kC⟩,hup⟩:=hE c dx i q;obtain⟨n2,q2,N2,b2,d2,t2,u2,a2,l2,x2,j0,j1,j2,j3,j5,id2,kU⟩:=hU;have fr:X.A.frames=lD (X.env::X.outer):=by rw[<-dQ];exact I.ok.frames
  have ff:N.heap.FunFrames X.base (X.env::X.outer):=by rw[<-dQ];exact g.stack
  refine Jq fr ff ZV F fun h2 S z2 F2 M=> ?_
  have Z:L2.Inv (Cx.pinned X (X.pn++d)) [] a i {N with heap:=h2}:=w9 g (fun b=>b=e\/b=T) L (fun p P y=>y.elim (R.nP p P) (Q.nP p P))
   (fun b o z n nf=>M.keep b o z (fun y=>n (.inl y)) (fun y=>n (.inr (Rm y).symm)) (by rw[<-dQ];exact nf))
   (fun b o z n=>M.slot b o z (fun y=>n (.inl y)) (fun y=>n (.inr (Rm y).symm))) M.here
   (fun b y=>y.elim (fun y=>by rw[y];exact R.n0) (fun y=>by rw[y];exact Q.n0)) (fun y=>y.elim (fun y=>R.nL y.symm) (fun y=>Q.nL y.symm))
   (fun y k z w=>w.elim (R.nC y k z) (Q.nC y k z)) (fun b y=>y.elim (fun y=>by rw[y];exact ne) (fun y=>by rw[y];exact nT))
  have t:Apart (Cx.pinned X (X.pn++d)) S:=sH g L (Heap.get?_none_of_le z2);have nT2:i S=QS:=g.Su.fresh z2;refine wpAny_handleBy_cons (codeAny_handlers_test (kZ (X:=Cx.marked (Cx.pinned X (X.pn++d)) e) (rL Z e) hg hm ?_ Yq)) (by intro y;cases y);have F2':=F2;obtain⟨ob,fs,qe,cE,dE,dF,_⟩:=F2';refine GD (Z.XB _ _ kC) (Z.XB _ _ kU) qe (cE.trans hcC) hbU hup ?_;refine codeAny_handlers_suite (Nl F2 fun h3 F3 Xq hT3=> ?_)
  have I3:L2.Inv (Cx.pinned X (X.pn++d)) [] a i {N with heap:=h3}:=w9 (s:={N with heap:=h2}) Z (fun b=>b=S) L (fun p P y=>t.nP p P y)
   (fun b o z n _=>(Xq b n).trans z) (fun b o z n=>⟨o.slots,(Xq b n).trans z⟩)
   (fun b o z=>(Classical.em (b=S)).elim (fun y=>by rw[y];exact hT3) (fun y=>⟨o,(Xq b y).trans z⟩)) (fun b y=>by rw[y];exact t.n0) (fun y=>t.nL y.symm) (fun y k z w=>t.nC y k z w) (fun b y=>by rw[y];exact nT2)
  have w:=hc c dx i q a (g.len.trans I.len.symm);refine wpAny_mono (hs (X.pn++d) e [] _ _ _ _ (rL I3 e) w) (fun f s5 j=> ?_) (fun y s5 z=>z.elim);cases f with
  |next=>obtain⟨G,H2,Y,J⟩:=j;exact⟨_,_,jp I.ok (Ao IY.ok Y),J⟩
  |brk=>obtain⟨G,H2,Y,J⟩:=j;exact J.elim
  |cont=>obtain⟨G,H2,Y,J⟩:=j;exact J.elim
  |ret u=>obtain⟨v,G,H2,Y,r,J⟩:=j;exact J.elim
end L4
namespace L10
open PySem PySem.Spec PyProof.Rows L2 L3
def Og:D->D->Option RV:=fI fun i j=>i+j
def Kz:R2:=Qn fun i j=>i+j
theorem Iu {X:Cx}:P4 X .Add Kz:=MX
theorem Ds {K:QR}:mw K Kz Og:=by intro O H x y dx d rv Q n b a e q;obtain⟨i,j,rfl,rfl,rfl⟩:=xO e;cases b;cases a;exact⟨_,_,rfl,rfl,q.at (.int _)⟩
end L10
namespace M02
inductive Con (E:List (Nat×Nat)) (r0:Nat):Bool->Nat->Prop
 |base:Con E r0 QW r0
 |col {r c:Nat}:Con E r0 QW r->(r,c)∈E->Con E r0 Q2 c
 |row {r c:Nat}:Con E r0 Q2 c->(r,c)∈E->Con E r0 QW r
def has (n c:Nat):Prop:=n.testBit c=QW
structure Nums (E:List (Nat×Nat)) (R C:Nat) (ns:List Nat):Prop where
 len:ns.length=R
 lt:∀n∈ns,n<2^C
 own:∀r c,(r,c)∈E->has (ns.getD r 0) c
 snd:∀r,r<R->∀c,has (ns.getD r 0) c->Con E r Q2 c
abbrev NF:=List Nat×List Nat
structure alM (E:List (Nat×Nat)) (r0:Nat) (s:NF):Prop where
 a:r0∈s.1
 n:∀x∈s.1,Con E r0 QW x
 f:∀x∈s.2,Con E r0 Q2 x
 d:s.2.Nodup
 d1:s.1.Nodup
structure akP (R C:Nat) (ss:List (Nat×Nat)):Prop where
 r1:1<=R
 r6:R<=6
 c1:1<=C
 c6:C<=6
 l1:1<=ss.length
 l12:ss.length<=12
 nd:ss.Nodup
 inn:∀s∈ss,s.1<R/\s.2<C
end M02
local macro_rules(kind:=«term{_}»)|`({$a})=>`(L3.ae $a L3.aw)|`({$a,$b})=>`(L3.ae $a (L3.ae $b L3.aw))|`({$a,$b,$c})=>`(L3.ae $a (L3.ae $b (L3.ae $c L3.aw)))|`({$a,$b,$c,$d})=>`(L3.ae $a (L3.ae $b (L3.ae $c (L3.ae $d L3.aw))))
local macro_rules|`(~~~$n)=>`(L3.pC (.int $n))
namespace STP
open PySem L2 L3
def mh:FS:=(bG (ka (aK (aJ mI (aJ bq (aa 0) (~~~2)) (pC .none))) (cW (aJ bq (aa 0) (~~~2))) dr)
 (cW (g8 (L10.Fe 0) {gu 2 [] (jN (aJ bq (aa 0) (~~~0))) (gT 2 (Ht (gN 0) (Ht (gN 1) OB))) (aK (aJ cY (aJ bq (aa 1) (~~~0)) (pC (.str "layer")))) (aJ bq (aa 1) (~~~1))})))
def dH:FN:=fQ 1 mh
def ko:FS:=(bG (eZ (aJ bq (aJ bq (aJ bq (aa 0) (~~~1)) (aa 1)) (aa 2)) (gN 3))
 (bG (ka (aK (aJ cY (aJ bq (aa 3) (~~~0)) (pC (.str "below")))) (cW (aJ bq (aJ bq (aJ bq (aa 0) (~~~1)) (~~~0)) (aa 2))) dr)
 (cW (aa 3))))
def iA:FN:=fQ 4 ko
def iM:FS:=(cW (gu 1 [1] (jN (aJ bq (aa 0) (~~~2))) (gN 0) (aK (g8 Ak {gu 1 [0] (jN (aa 1)) (gN 0) fH (aJ Im (aa 0) (aJ bq (aa 1) (~~~0)))})) (aa 0)))
def bL:FN:=fQ 2 iM
def jH:FS:=(bG (oE (jN (aJ bq (aa 0) (~~~2))) (gN 2) (ka (aK (aJ cY (g8 vD {aJ bq (aa 2) (~~~0)}) (g8 L9.gW {aa 1}))) (cW (aJ db (df {bQ {pC (.str "letter"),aJ bq (aa 2) (~~~1)}}) (aJ ii (df {pC (.tuple [(.str "none")])}) (aJ pN (g8 dk {aa 1}) (~~~1))))) dr))
 (cW (gu 1 [0] (jN (aa 1)) (gN 0) fH (aJ bq (aJ bq (aJ bq (aa 1) (~~~1)) (~~~0)) (aa 0)))))
def fF:FN:=fQ 3 jH
open L10
def jV:eT:=(aX (fP "Hand" "bed" (az 0) (ag (aa 1)))
 (aX (fP "Hand" "acts" (az 0) (wP (ag (aJ bq (aa 2) (~~~0)))))
 (aX (fP "Hand" "waiting" (az 0) (ag (aJ bq (aa 2) (~~~1))))
 (aX (fP "Hand" "once" (az 0) (ag (aJ bq (aa 2) (~~~2))))
 (fP "Hand" "sent" (az 0) (ag (df aw)))))))
def dM:i7:=dj 3 jV
def lM:eT:=(gU (jR (am (BV sr (am (lS 1 [0] (jX (t6 (bv "Hand" "acts" (az 0)))) (gA 0) lL (jR (am (ag (aa 0)) (am (ul (bv "Hand" "acts" (az 1)) (ag (aa 0))) aV)))) aV)) (am (bv "Hand" "waiting" (az 0)) (am (bv "Hand" "once" (az 0)) aV)))))
def bK:i7:=dj 1 lM
def iJ:eT:=(gU (Dl (kI mI (bv "Hand" "waiting" (az 0)) (ag (pC .none))) (kI Im (ag (aa 1)) (fY (bv "Hand" "waiting" (az 0)) (ag (~~~0))))))
def cb:i7:=dj 2 iJ
def kJ:eT:=(gU (kI Im (ag (aa 1)) (Ba (bv "Hand" "acts" (az 0)))))
def bS:i7:=dj 2 kJ
def ki:eT:=(aX (cC (mn (bT (aK (aJ cY (aJ bq (aa 2) (~~~0)) (pC (.str "letter"))))) (yg (bU (bc "Hand" "has_act" bS 2 (az 0) (am (ag (aa 2)) aV))))) (b3 (tL (bv "Hand" "sent" (az 0)) (ag (bQ {aJ bq (aa 2) (~~~1),pC (.str "down")})))) cK)
 (wT (bv "Hand" "acts" (az 0)) (ag (aa 1)) (ag (aa 2))))
def bB:i7:=dj 3 ki
def om:eT:=(aX (dL (wY (bv "Hand" "acts" (az 0)) (ag (aa 1))) (gA 2))
 (cC (mn (bT (aK (aJ cY (aJ bq (aa 2) (~~~0)) (pC (.str "letter"))))) (yg (bU (bc "Hand" "has_act" bS 2 (az 0) (am (ag (aa 2)) aV))))) (b3 (tL (bv "Hand" "sent" (az 0)) (ag (bQ {aJ bq (aa 2) (~~~1),pC (.str "up")})))) cK))
def jj:i7:=dj 3 om
def lK:eT:=(aX (dL (fY (bv "Hand" "waiting" (az 0)) (ag (~~~0))) (gA 1))
 (aX (dL (fY (bv "Hand" "waiting" (az 0)) (ag (~~~2))) (gA 2))
 (aX (fP "Hand" "waiting" (az 0) (ag (pC .none)))
 (aX (dL (lA (LG (bT (aK (aJ cY (aa 2) (pC (.tuple [(.str "chord")]))))) (jf fF 2 (am (bv "Hand" "bed" (az 0)) (am (ag (aa 1)) aV))) (ag (df {bQ {pC (.str "layer"),aJ bq (aa 2) (~~~2)}})))) (gA 3))
 (xb (nt (D8 {aa 1,aa 3})) (OI 2 (uP (gA 4) (uP (gA 5) Gv))) (b3 (bc "Hand" "come" bB 3 (az 0) (am (ag (aa 4)) (am (ag (aa 5)) aV)))))))))
def bZ:i7:=dj 6 lK
def eW:eT:=(aX (cC (Gn (bU (kI oU (bv "Hand" "waiting" (az 0)) (ag (pC .none)))) (Gn (bU (kI nW (fY (bv "Hand" "waiting" (az 0)) (ag (~~~2))) (ag (pC (.tuple [(.str "chord")]))))) (bU (kI nW (jf dH 1 (am (bc "Hand" "stands" bK 1 (az 0) aV) aV)) (ag (~~~0)))))) (gU (ag (pC (.bool Q2)))) cK)
 (gU (kI nW (jf bL 2 (am (bv "Hand" "bed" (az 0)) (am (kI db (fY (bv "Hand" "waiting" (az 0)) (ag (~~~0))) (ag (bQ {aa 1}))) aV))) (ag (df aw)))))
def dJ:i7:=dj 2 eW
def gO:eT:=(aX (dL (kI db (fY (bv "Hand" "waiting" (az 0)) (ag (~~~0))) (ag (bQ {aa 1}))) (gA 2))
 (aX (fP "Hand" "waiting" (az 0) (jR (am (ag (aa 2)) (am (fY (bv "Hand" "waiting" (az 0)) (ag (~~~1))) (am (ag (pC (.tuple [(.str "chord")]))) aV)))))
 (cC (bU (kI cY (lS 1 [] (jX (jf bL 2 (am (bv "Hand" "bed" (az 0)) (am (ag (aa 2)) aV)))) (gA 0) lL (ag (g8 dk {aJ bq (aa 0) (~~~0)}))) (ag (df {g8 dk {aa 2}})))) (b3 (bc "Hand" "decide" bZ 1 (az 0) aV)) cK)))
def dg:i7:=dj 3 gO
def jL:eT:=(aX (dL (jf dH 1 (am (bc "Hand" "stands" bK 1 (az 0) aV) aV)) (gA 2))
 (aX (dL (jf iA 3 (am (bv "Hand" "bed" (az 0)) (am (ag (aa 2)) (am (ag (aa 1)) aV)))) (gA 3))
 (aX (dL (ag (aJ bq (aa 3) (~~~0))) (gA 4))
 (aX (cC (bT (aK (aJ Aq (aa 4) (bQ {pC (.str "layer"),pC (.str "once")})))) (fP "Hand" "once" (az 0) (ag (pC .none))) cK)
 (cC (bT (aK (aJ cY (aa 4) (pC (.str "tap"))))) (fP "Hand" "waiting" (az 0) (ag (bQ {bQ {aa 1},~~~0,aa 3}))) (cC (mn (bT (aK (aJ cY (aa 4) (pC (.str "letter"))))) (mn (bT (aK (aJ cY (aa 2) (~~~0)))) (bU (kI nW (jf bL 2 (am (bv "Hand" "bed" (az 0)) (am (ag (bQ {aa 1})) aV))) (ag (df aw)))))) (fP "Hand" "waiting" (az 0) (ag (bQ {bQ {aa 1},~~~0,pC (.tuple [(.str "chord")])}))) (cC (bT (aK (aJ cY (aa 4) (pC (.str "once"))))) (aX (b3 (bc "Hand" "come" bB 3 (az 0) (am (ag (aa 1)) (am (ag (pC (.tuple [(.str "none")]))) aV))))
 (fP "Hand" "once" (az 0) (ag (aJ bq (aa 3) (~~~1))))) (b3 (bc "Hand" "come" bB 3 (az 0) (am (ag (aa 1)) (am (ag (aa 3)) aV)))))))))))
def fE:i7:=dj 5 jL
def jC:eT:=(aX (cC (Gn (bU (wZ Q2 (ag (aa 1)) (bv "Hand" "acts" (az 0)))) (bU (bc "Hand" "is_waiting" cb 2 (az 0) (am (ag (aa 1)) aV)))) uI cK)
 (aX (cC (bU (bc "Hand" "makes_chord" dJ 2 (az 0) (am (ag (aa 1)) aV))) (aX (b3 (bc "Hand" "put_to_chord" dg 2 (az 0) (am (ag (aa 1)) aV)))
 uI) cK)
 (aX (cC (bU (kI mI (bv "Hand" "waiting" (az 0)) (ag (pC .none)))) (b3 (bc "Hand" "decide" bZ 1 (az 0) aV)) cK)
 (b3 (bc "Hand" "begin" fE 2 (az 0) (am (ag (aa 1)) aV))))))
def g7:i7:=dj 2 jC
def iZ:eT:=(aX (dL (fY (bv "Hand" "waiting" (az 0)) (ag (~~~2))) (gA 2))
 (cC (bT (aK (aJ cY (aa 2) (pC (.tuple [(.str "chord")]))))) (b3 (bc "Hand" "decide" bZ 1 (az 0) aV)) (aX (fP "Hand" "waiting" (az 0) (ag (pC .none)))
 (b3 (bc "Hand" "come" bB 3 (az 0) (am (ag (aa 1)) (am (ag (bQ {pC (.str "letter"),aJ bq (aa 2) (~~~1)})) aV)))))))
def gh:i7:=dj 3 iZ
def kj:eT:=(aX (cC (bU (bc "Hand" "is_waiting" cb 2 (az 0) (am (ag (aa 1)) aV))) (b3 (bc "Hand" "settle" gh 2 (az 0) (am (ag (aa 1)) aV))) cK)
 (cC (bU (wZ Q2 (ag (aa 1)) (bv "Hand" "acts" (az 0)))) (b3 (bc "Hand" "go" jj 2 (az 0) (am (ag (aa 1)) aV))) cK))
def iG:i7:=dj 2 kj
def ig:eT:=(aX (cC (bU (kI oU (bv "Hand" "waiting" (az 0)) (ag (pC .none)))) uI cK)
 (aX (dL (kI db (fY (bv "Hand" "waiting" (az 0)) (ag (~~~1))) (ag (~~~1))) (gA 1))
 (aX (fP "Hand" "waiting" (az 0) (jR (am (fY (bv "Hand" "waiting" (az 0)) (ag (~~~0))) (am (ag (aa 1)) (am (fY (bv "Hand" "waiting" (az 0)) (ag (~~~2))) aV)))))
 (cC (bU (kI cY (ag (aa 1)) (fY (bv "Hand" "bed" (az 0)) (ag (~~~3))))) (b3 (bc "Hand" "decide" bZ 1 (az 0) aV)) cK))))
def fK:i7:=dj 2 ig
def zk:eT:=(aX (dL (uE "Hand" dM 3 (am (ag (aa 0)) (am (ag (aa 1)) aV))) (gA 3))
 (aX (cC (bT (aK (aJ cY (aJ bq (aa 2) (~~~0)) (pC (.str "turn"))))) (b3 (bc "Hand" "wait_on" fK 1 (az 3) aV)) (cC (bT (aK (aJ cY (aJ bq (aa 2) (~~~0)) (pC (.str "down"))))) (b3 (bc "Hand" "press" g7 2 (az 3) (am (ag (aJ bq (aa 2) (~~~1))) aV))) (b3 (bc "Hand" "lift" iG 2 (az 3) (am (ag (aJ bq (aa 2) (~~~1))) aV)))))
 (gU (jR (am (bv "Hand" "sent" (az 3)) (am (bc "Hand" "stands" bK 1 (az 3) aV) aV))))))
def dD:i7:=dj 4 zk
end STP
local macro_rules| `(tactic|fail "px")=> `(tactic|simp only[L3.fQ,L3.bG,L3.ka,L3.eZ,L3.cW,L3.aiq,L3.pz,L3.dr,L3.oE,L3.agh,L3.aiF,L3.agL,L3.ahg,L3.agR,L3.afj,L3.afD,L3.aJ,L3.OH,L3.zp,L3.G6,L3.EF,L3.pC,L3.g8,L3.cP,L3.bQ,L3.df,L3.aK,L3.Dk,L3.pOr,L3.GC,L3.pIf,L3.NC,L3.rc,L3.tW,
 L3.tO,L3.IH,L3.aj4,L3.fH,L3.aw,L3.ae,L3.pR,L3.jN,L3.aiI,L3.Gg,L3.ahJ,L3.aij,L3.gT,L3.OB,L3.Ht,L3.gIx,L3.zU,L3.ai8,L3.gu,L3.adn,L3.acn,L3.alh,L3.alq,
 L3.agI,L3.afS,L3.age,L3.ahp,L3.ahr,L3.agf,L3.ahs,L3.ag1,L3.agG,L3.agN,L3.ad3,L3.afx,L3.aeD,L3.aeh,L3.ae9,L3.aeB,L3.ado,L3.ade,L3.adm,L3.xL,L3.B7,L3.afv,L3.adq,L3.ac8,L3.oh,L3.wV,L3.ah6,L3.ahH,L3.Res.bind_ok,L3.bp,L3.di,L3.adL,L3.aeo,L3.acD,L3.kL,L3.acv,
 L3.jb,L3.eO,L3.sr,L3.vD,L3.negD,L3.ku,L3.Hc,L3.xq,L3.yd,L3.fA,L3.on,L3.gZ,L3.uQ,L3.aaK,L3.aaN,
 Ri,T7,abb,V0,RB,Si,List.replicate_zero,Rg,SD,YO,YN,aat,aau,Nat.reduceSub,Nat.reduceAdd,Nat.reduceLeDiff,Nat.reduceLT,Vd,adF,RZ,reduceIte,Option.map_some,Option.map_none,YH,Bool.not_false,TJ,if_true,if_false,ite_true,ite_false])
local macro_rules| `(tactic|fail "nm")=> `(tactic|first|((simp only[aat,aau]);rfl)|rfl)| `(tactic|fail "evf")=> `(tactic|first|with_reducible assumption|change L3.fA _ _|change L3.on _ _|change L3.ku _ _|change L3.Hc _ _|change L3.xq _ _|change L3.yd _ _|change L3.afZ _ _|change L3.agB _ _|change L3.gZ _ _|change L3.uQ _ _|change L3.aaK _ _|change L3.aaN _ _|change L3.afs _ _|change L3.afk _ _|change L3.vC _ _|change L3.afC _ _|change L3.aff _ _|change L3.adV _ _|change L3.v5 _ _|change L3.adT _ _|change L3.adS _ _|change L3.afm _ _|change L3.Ma _ _|change L3.eJ|change L3.fU|change L3.rq|change L3.akT|change L3.akv|change L3.KW|change L3.jb _|change L3.eO _|(with_reducible rfl))| `(tactic|fail "ev")=> `(tactic|first
 |change L3.aA
 |((exists L3.af);rfl)
 |((exists L3.jB);rfl)
 |change L3.aD
 |change L3.ny
 |((exists L3.ay);(·fail "ev");(·fail "ev");(·rfl);(·rfl);(·fail "evf"))
 |((exists L3.Lg);(·fail "ev");(·rfl);(·rfl))
 |((exists L3.ah);(·fail "ev");(·fail "ev"))
 |((exists L3.aZ);(·fail "ev");(·rfl))
 |((exists L3.d6);(·fail "ev");(·rfl);(·first|fail "evf"|rfl))
 |((exists L3.bO);(·fail "ev");(·rfl);(·rfl);(·with_reducible assumption))
 |((exists L3.cF);(·fail "ev");(·rfl);(·exact QY rfl))
 |((exists L3.oJ);(·fail "ev");(·rfl);(·exact QY rfl))
 |((exists L3.ag2);(·fail "ev");(·rfl);(·rfl))
 |((exists L3.nI);(·fail "ev");(·rfl))
 |((exists L3.B6);(·fail "ev");(·fail "ev");(·fail "ev");(·rfl);(·first|with_reducible assumption|rfl))
 |((exists L3.afb);(·fail "ev"))
 |((exists L3.jO);(·fail "ev");(·intro _;fail "ev"))
 |((exists L3.mx);(·fail "ev");(·intro _;fail "ev"))
 |((exists L3.B0);(·fail "ev"))
 |((exists L3.qp);(·fail "ev");(·intro _;fail "ev"))
 |((exists L3.acQ);(·fail "ev");(·intro _;fail "ev"))
 |((exists L3.JX);(·fail "ev");(·rfl);(·first|with_reducible assumption|rfl))
 |((exists L3.jy);(·fail "ev");(·rfl);(·rfl))
 |((exists L3.ad0);(·fail "ev");(·rfl);(·rfl))
 |((exists L3.wa);(·rfl);(·fail "ev");(·rfl);(·rfl);(·first|with_reducible assumption|(simp only[SD,Rg,L3.gp] at*;omega));(·fail "nm"))
 |((exists L3.agd);(·rfl);(·fail "ev");(·rfl);(·rfl);(·with_reducible assumption);(·with_reducible assumption);(·with_reducible assumption);(·fail "nm"))
 |((exists L3.yG);(·fail "ev");(·rfl);(·fail "nm"))
 |((exists L3.AH);(·fail "ev"))
 |((exists L3.vZ);(·fail "ev");(·rfl)))
local macro_rules| `(tactic|fail "evb")=> `(tactic|first
 |((exists L3.agm);(·fail "ev");(·fail "ev");(·rfl);(·rfl);(·fail "evf"))
 |((exists L3.ae3);(·fail "ev");(·rfl);(·rfl);(·with_reducible assumption))
 |((exists L3.af6);(·fail "ev");(·rfl);(·first|fail "evf"|rfl))
 |fail "ev")
local macro_rules| `(tactic|fail "ev")=> `(tactic|first
 |with_reducible assumption
 |((exists L3.qp);(·fail "ev");(·intro _;fail "evb"))
 |((exists L3.acQ);(·fail "ev");(·intro _;fail "evb"))
 |((exists L3.ad9);(·fail "ev");(·fail "ev");(·fail "ev");(·rfl);(·rfl);(·rfl);(·fail "evf");(·intro _;fail "evf"))
 |((exists L3.Cq);(·fail "ev");(·rfl);(·rfl);(·rfl)))
local macro_rules| `(tactic|fail "go")=> `(tactic|first
 |((exists L3.cM);(·fail "ev");(·rfl);(·fail "nm");try fail "go")
 |((exists L3.afh);(·fail "ev");try fail "go")
 |((exists L3.yJ);try fail "go")
 |((exists L3.dh);try fail "go")
 |((exists L3.eK);(·fail "ev");(·rfl))
 |((exists L3.hJ);(·fail "ev"))
 |((exists L3.afT);(·fail "ev");(·rfl);(·fail "nm"))
 |((exists L3.qB);(·fail "ev"))
 |((exists L3.ei);(·fail "ev");(·rfl))
 |((exists L3.Bj);(·fail "ev"))
 |(exists L3.qD))
local macro_rules| `(tactic|fail "evp")=> `(tactic|((apply Eq.trans);(·fail "ev");(·rfl)))| `(tactic|fail "sv")=> `(tactic|first
 |with_reducible assumption
 |((exists L10.bJ);rfl)
 |((exists STP.nY);rfl)
 |((exists STP.gR);rfl)
 |((exists STP.bW);rfl)
 |((exists STP.A3);rfl)
 |((exists STP.vt);rfl)
 |change L10.aW
 |((exists L10.au);(·fail "sv");(·fail "sv"))
 |((exists L10.ai);fail "ev")
 |((exists L10.bw);fail "ev")
 |((exists L10.cI);(·fail "sv");(·fail "sv");(·fail "evf"))
 |((exists L10.cL);(·fail "sv");(·fail "sv");(·(exists L10.cg);fail "evf"))
 |((exists L10.bu);fail "sv")
 |((exists L10.vG);fail "sv"))
namespace STP
open PySem L2 L3
def jq (c:Nat):Str:=⟨#[97+c]⟩
inductive Mn where
 |RH (c:Nat)
 |TZ (n:Int)
 |WZ (c:Nat) (n:Int)
 |once (n:Int)
 |none
 |below
 deriving DecidableEq
def mD:Mn->D
 | .RH c=> .tuple [.str "letter",.str (jq c)]
 | .TZ n=> .tuple [.str "layer",.int n]
 | .WZ c n=> .tuple [.str "tap",.str (jq c),.int n]
 | .once n=> .tuple [.str "once",.int n]
 | .none=> .tuple [.str "none"]
 | .below=> .tuple [.str "below"]
def VM (L a:Int):Mn->Prop
 | .RH c=>c<26
 | .TZ n=>1<=n/\n<a
 | .WZ c n=>c<26/\1<=n/\n<a
 | .once n=>1<=n/\n<a
 | .none=>True
 | .below=>L≠0
def Mn.isL:Mn->Bool
 | .RH _=>QW
 |_=>Q2
structure Bd where
 n:Int
 ls:List (List Mn)
 cs:List (List Nat×Nat)
 wt:Int
def dW (l:List Mn):D:= .tuple (l.map mD)
def d7 (c:List Nat×Nat):D:= .tuple [.tuple (bX c.1),.str (jq c.2)]
def bD (b:Bd):D:= .tuple [.int b.n,.tuple (b.ls.map dW),.tuple (b.cs.map d7),.int b.wt]
def VL (n a:Int) (b:List (List Mn)):Prop:=∀(i:Nat) l,b[i]? =lD l->(l.length:Int)=n/\∀m∈l,VM i a m
def yE (l0:List Mn) (k:Nat):Bool:=(l0[k]?.map Mn.isL).getD Q2
def VC (l0:List Mn) (c:List Nat×Nat):Prop:=2<=c.1.length/\c.1.Pairwise (·<·)/\(∀k∈c.1,yE l0 k=QW)/\c.2<26
structure VB (b:Bd):Prop where
 n1:1<=b.n
 n5:b.n<=5
 l1:1<=b.ls.length
 l3:b.ls.length<=3
 vl:VL b.n b.ls.length b.ls
 c4:b.cs.length<=4
 vc:∀c∈b.cs,VC (b.ls.headD []) c
 cu:b.cs.Pairwise fun a c=>a.1≠c.1
 w1:1<=b.wt
 w4:b.wt<=4
def wn:Mn->Nat
 | .RH _=>0
 | .TZ _=>1
 | .WZ _ _=>2
 | .once _=>3
 | .none=>4
 | .below=>5
def ws:Nat->Str
 |0=> "letter"
 |1=> "layer"
 |2=> "tap"
 |3=> "once"
 |4=> "none"
 |_=> "below"
def wd (m:Mn):Str:=ws (wn m)
theorem o0 (m:Mn):wn m<6:=by cases m<;>exact QY rfl
theorem nQ (m:Mn):bq (mD m) (.int 0)=lD (.fz (.str (wd m))):=by cases m<;>exact eJ
theorem KG (m:Mn):QZ.strOk (wd m)=QW:=(by left:∀i,i<6->QZ.strOk (ws i)=QW) _ (o0 m)
theorem xf:∀i,i<6->∀j,j<6->(ws i==ws j)=decide (i=j):=by left
theorem wO (m:Mn) (j:Nat) (a:j<6):cY (.str (wd m)) (.str (ws j))=lD (.fz (.bool (decide (wn m=j)))):=by rw[Pp (KG m) ((by left:∀i,i<6->QZ.strOk (ws i)=QW) j a)];unfold wd;rw[xf _ (o0 m) _ a]
def Mn.isB:Mn->Bool
 | .below=>QW
 |_=>Q2
def Mn.aaj:Mn->Bool
 | .TZ _=>QW
 |_=>Q2
def Mn.isT:Mn->Bool
 | .WZ _ _=>QW
 |_=>Q2
def Mn.isO:Mn->Bool
 | .once _=>QW
 |_=>Q2
theorem jm (m:Mn):cY (.str (wd m)) (.str "letter")=lD (.fz (.bool m.isL)):=(wO m 0 (by decide)).trans (by cases m<;>rfl)
theorem F1 (m:Mn):cY (.str (wd m)) (.str "below")=lD (.fz (.bool m.isB)):=(wO m 5 (by decide)).trans (by cases m<;>rfl)
theorem GM (m:Mn):cY (.str (wd m)) (.str "layer")=lD (.fz (.bool m.aaj)):=(wO m 1 (by decide)).trans (by cases m<;>rfl)
theorem MV (m:Mn):cY (.str (wd m)) (.str "tap")=lD (.fz (.bool m.isT)):=(wO m 2 (by decide)).trans (by cases m<;>rfl)
theorem Ig (m:Mn):cY (.str (wd m)) (.str "once")=lD (.fz (.bool m.isO)):=(wO m 3 (by decide)).trans (by cases m<;>rfl)
theorem Om (m:Mn):Aq (.str (wd m)) (.tuple [.str "layer",.str "once"])=lD (.fz (.bool (!(m.aaj||m.isO)))):=by
 have h:∀a:Str,QZ.strOk a=QW->Aq (.str a) (.tuple [.str "layer",.str "once"])=lD (.fz (.bool (!(("layer":Str)==a||("once":Str)==a)))):=fun a ha=>by show(if(lQ (.str a)&&(QZ.strOk "layer"&&(QZ.strOk "once"&&QW)))=QW then lD (RV.fz (.bool (!(QZ.eqv (.str "layer") (.str a)||(QZ.eqv (.str "once") (.str a)||false))))) else QS)=_;rw[show lQ (.str a)=QW by unfold lQ;rw[show QZ.canLay0 (.str a)=QW from ha];rfl,show QZ.strOk "layer"=QW by left,show QZ.strOk "once"=QW by left,YD];rfl
 rw[h _ (KG m)];unfold wd;rw[show(("layer":Str)==ws (wn m))=_ from xf 1 (by decide) _ (o0 m),show(("once":Str)==ws (wn m))=_ from xf 3 (by decide) _ (o0 m)];cases m<;>rfl
def LB:Mn->Prop
 | .RH c=>c<26
 | .WZ c _=>c<26
 |_=>True
theorem VM.lb (h:VM L nL m):LB m:=by
 cases m with
 |RH c=>exact h
 |WZ c n=>exact h.1
 |_=>trivial
theorem lW (h:c<26):QZ.strOk (jq c)=QW:=by show((#[97+c]:Array Nat).all fun c=>decide (c<0x110000))=QW;simp;omega
theorem qO (h:jq c=jq d):c=d:=by
 have:(97+c)=97+d:=by have a:=congrArg (fun z:Str=>z.cps.toList) h;exact List.head_eq_of_cons_eq a
 omega
theorem zi (h:LB m):QZ.canLay0 (mD m)=QW:=by
 cases m with
 |RH c=>show(QZ.strOk "letter"&&(QZ.strOk (jq c)&&QW))=QW;rw[lW h,show QZ.strOk "letter"=QW by left];rfl
 |TZ n=>show(QZ.strOk "layer"&&(QW&&QW))=QW;left
 |WZ c n=>show(QZ.strOk "tap"&&(QZ.strOk (jq c)&&(QW&&QW)))=QW;rw[lW h,show QZ.strOk "tap"=QW by left];rfl
 |once n=>show(QZ.strOk "once"&&(QW&&QW))=QW;left
 |none=>show(QZ.strOk "none"&&QW)=QW;left
 |below=>show(QZ.strOk "below"&&QW)=QW;left
theorem D1 (h:LB m):lQ (mD m)=QW:=by unfold lQ;rw[zi h];cases m<;>rfl
def mR:Mn->List D
 | .RH c=>[.str (jq c)]
 | .TZ n=>[.int n]
 | .WZ c n=>[.str (jq c),.int n]
 | .once n=>[.int n]
 | .none=>[]
 | .below=>[]
theorem KA (m:Mn):mD m= .tuple (.str (wd m)::mR m):=by cases m<;>rfl
theorem O9 (a b:Mn):decide (wd a=wd b)=decide (wn a=wn b):=by have h:=xf _ (o0 a) _ (o0 b);unfold wd;rw[<-h];rfl
theorem Bp (c d:Nat):decide (jq c=jq d)=decide (c=d):=decide_eq_decide.mpr ⟨qO,fun h=>by rw[h]⟩
theorem LJ (a b:Mn) (h:wn a=wn b):QZ.eqvAll (mR a) (mR b)=decide (a=b):=by
 cases a<;>cases b<;>first|cases h|skip
 .show(decide (jq _=jq _)&&QW)=_;rw[Bp,W7];exact decide_eq_decide.mpr ⟨fun h=>by rw[h],fun h=>by cases h;rfl⟩
 .show(decide (_=_)&&QW)=_;rw[W7];exact decide_eq_decide.mpr ⟨fun h=>by rw[h],fun h=>by cases h;rfl⟩
 .show(decide (jq _=jq _)&&(decide (_=_)&&QW))=_;rw[Bp,W7,<-Bool.decide_and];exact decide_eq_decide.mpr ⟨fun h=>by rw[h.1,h.2],fun h=>by cases h;exact⟨rfl,rfl⟩⟩
 .show(decide (_=_)&&QW)=_;rw[W7];exact decide_eq_decide.mpr ⟨fun h=>by rw[h],fun h=>by cases h;rfl⟩
 .rfl
 .rfl
theorem MC (a b:Mn):QZ.eqv (mD a) (mD b)=decide (a=b):=by
 rw[KA,KA];show(decide (wd a=wd b)&&QZ.eqvAll (mR a) (mR b))=_;rw[O9];by_cases h:wn a=wn b
 .rw[decide_eq_true h,W6,LJ a b h]
 .rw[decide_eq_false h,Ux,decide_eq_false fun z=>h (by rw[z])]
theorem Bc:∀{l:List Mn},(∀m∈l,LB m)->QZ.canLayAll0 (l.map mD)=QW
 |[],_=>rfl
 |m::r,h=>by show(QZ.canLay0 (mD m)&&QZ.canLayAll0 (r.map mD))=QW;rw[zi (h m Rh),Bc fun x a=>h x (Rf _ a)];rfl
theorem BC (a:Mn):∀l:List Mn,((l.map mD).any fun e=>QZ.eqv e (mD a))=decide (a∈l)
 |[]=>rfl
 |m::r=>by rw[Ri,US,BC a r,MC,<-Bool.decide_or];exact decide_eq_decide.mpr (by rw[Rv];exact⟨fun h=>h.imp (fun z=>z.symm) id,fun h=>h.imp (fun z=>z.symm) id⟩)
theorem IJ {l:List Mn} (ha:LB a) (b:∀m∈l,LB m):Im (mD a) (.list (l.map mD))=lD (.fz (.bool (decide (a∈l)))):=by show(if(lQ (mD a)&&QZ.canLayAll0 (l.map mD))=QW then _ else _)=_;rw[D1 ha,Bc b,Tb,if_pos rfl,BC]
theorem AA (e:α->D) (g:α->Option D) (I:bt->Prop) (xs:List α) (o:I ρ) (f:xs.length<=1000) (b:∀x∈xs,∀ρ,I ρ->∃ρ',kL gt ft fe (e x) ρ= .ok (g x,ρ')/\I ρ'):lF (d5 gt ft fe (xs.map e) ρ [])= .ok (xs.filterMap g):=by
 have h:∀(xs:List α) (a:List D) (ρ:bt),I ρ->a.length+xs.length<=1000->(∀x∈xs,∀ρ,I ρ->∃ρ',kL gt ft fe (e x) ρ= .ok (g x,ρ')/\I ρ')->d5 gt ft fe (xs.map e) ρ a= .ok (a++xs.filterMap g):=by
  intro xs
  induction xs with
  |nil=>intro a ρ _ _ _;show Res.ok a=_;rw[List.filterMap_nil,RB]
  |cons x r i=>
   intro a ρ l f b;rw[Rg] at f;obtain⟨ρ',n,m⟩:=b x Rh ρ l;rw[Ri,tD n (by omega)];have d:(a++(g x).toList).length+r.length<=1000:=by
    rw[Q3];cases g x with
    |none=>rw[ZQ,SD];omega
    |some y=>rw[Option.toList_some,TQ];omega
   rw[i _ ρ' m d fun y j=>b y (Rf _ j),RJ];cases q:g x with
   |none=>rw[YI q];rfl
   |some y=>rw[YJ q];rfl
 rw[h xs [] ρ o (by simpa using f) b];rfl
theorem AC (a:di cp=cp):di (lD (PV.fz d)::cp)=lD (.fz d)::cp:=by show Fc _::di cp=_;rw[a];rfl
theorem u8 {α:Type} {ft:FT} {fe:FE} {cp:bt} (e f:α->D) (p:α->Bool) (xs:List α) (h:xs.length<=1000) (j:di cp=cp) (d:∀x∈xs,ft (lD (.fz (e x))::cp)= .ok (p x,lD (.fz (e x))::cp)) (i:∀x∈xs,p x=QW->fe (lD (.fz (e x))::cp)= .ok (.fz (f x),lD (.fz (e x))::cp)):lF (d5 (gN 0) ft fe (xs.map e) (QS::cp) [])= .ok ((xs.filter p).map f):=by
 rw[AA e (fun x=>if p x=QW then lD (f x) else QS) (fun ρ=>∃o,ρ=o::cp) xs ⟨QS,rfl⟩ h ?_]
 .congr 1
  clear h d i
  induction xs with
  |nil=>rfl
  |cons x r g=>
   cases q:p x with
   |true=>rw[YJ (b:=f x) (by rw[if_pos q]),List.filter_cons_of_pos q,g];rfl
   |false=>rw[YI (by rw[if_neg (by rw[q];simp)]),List.filter_cons_of_neg (by rw[q];simp),g]
 .rintro x a ρ ⟨o,rfl⟩
  cases q:p x with
  |true=>exact⟨_,JF rfl ((d x a).trans (by rw[q])) (i x a q) rfl (AC j),_,rfl⟩
  |false=>exact⟨_,Oh rfl ((d x a).trans (by rw[q])) (AC j),_,rfl⟩
theorem yY (xs:List α):xs.filter (fun _=>QW)=xs:=List.filter_eq_self.mpr fun _ _=>rfl
theorem kY {α:Type} (e f:α->D) (xs:List α) (b:xs.length<=1000) (g:di cp=cp) (d:∀x∈xs,fe (lD (.fz (e x))::cp)= .ok (.fz (f x),lD (.fz (e x))::cp)):lF (d5 (gN 0) fH fe (xs.map e) (QS::cp) [])= .ok (xs.map f):=by rw[u8 e f (fun _=>QW) xs b g (fun _ _=>rfl) fun x a _=>d x a,yY]
theorem ja (p:α->Bool):∀l:List α,mj (l.map fun c=>QZ.bool (p c))=lD (l.map p)
 |[]=>rfl
 |c::r=>by show(mj (r.map fun c=>QZ.bool (p c))).map (p c::·)=_;rw[ja p r];rfl
theorem rY (p:α->Bool) (l:List α):Ak [.list (l.map fun c=>QZ.bool (p c))]=lD (.fz (.bool (l.all p))):=by show(mj _).map (fun bs=>RV.fz (.bool (bs.all id)))=_;rw[ja];show lD (RV.fz (.bool _))=_;rw[acZ];rfl
theorem rB:∀ns:List Int,oH (ns.map QZ.int)=lD ns
 |[]=>rfl
 |n::r=>by show(oH (r.map QZ.int)).map (n::·)=_;rw[rB r];rfl
abbrev Ac:=Nat->Option Mn
abbrev Wq:=Option (List Nat×Int×Option (Nat×Int))
structure Uo where
 ac:Ac
 wt:Wq
 oc:Option Int
def gP (ac:Ac):List (Nat×Mn):=(Rj 5).filterMap fun k=>(ac k).map fun a=>(k,a)
def pD (p:Nat×Mn):D:= .tuple [nd p.1,mD p.2]
def tK:Option (Nat×Int)->D
 |some (c,n)=>mD (.WZ c n)
 |none=> .tuple [.str "chord"]
def jQ:Wq->D
 |some (ks,a,w)=> .tuple [.tuple (bX ks),.int a,tK w]
 |none=> .none
def tF:Option Int->D
 |some o=> .int o
 |none=> .none
def dS (s:Uo):D:= .tuple [.tuple ((gP s.ac).map pD),jQ s.wt,tF s.oc]
inductive W0 where
 |down (k:Nat)
 |up (k:Nat)
 |turn
def eG:W0->D
 | .down k=> .tuple [.str "down",nd k]
 | .up k=> .tuple [.str "up",nd k]
 | .turn=> .tuple [.str "turn",.int 0]
theorem gn:p∈gP ac↔p.1<5/\ac p.1=lD p.2:=by
 unfold gP;rw[Vf];constructor
 .rintro⟨k,d,b⟩
  cases q:ac k with
  |none=>rw[q] at b;cases b
  |some a=>rw[q] at b;cases b;exact⟨SS.mp d,q⟩
 .rintro⟨d,b⟩;exact⟨p.1,SS.mpr d,by rw[b];rfl⟩
theorem wv (ac:Ac):(gP ac).length<=5:=List.length_filterMap_le _ _
def MD:Nat×Mn->Option Int
 |(_,.TZ n)=>lD n
 |_=>QS
def x3 (ac:Ac):Int:=(((gP ac).filterMap MD).foldl lw QS).getD 0
def pS (ac:Ac):Option Int->Int
 |some o=>o
 |none=>x3 ac
theorem GH (ac:Ac):lF (d5 (gT 2 (Ht (gN 0) (Ht (gN 1) OB))) (aK (aJ cY (aJ bq (aa 1) (~~~0)) (pC (.str "layer")))) (aJ bq (aa 1) (~~~1)) ((gP ac).map pD) [QS,QS] [])= .ok (((gP ac).filterMap MD).map .int):=by
 rw[AA pD (fun p=>(MD p).map .int) (fun ρ=>∃d b,ρ=[d,b]) (gP ac) ⟨QS,QS,rfl⟩ (RO (wv ac) (by decide)) ?_,List.map_filterMap];rintro⟨k,a⟩ _ ρ ⟨d,b,rfl⟩;have g:=nQ a;have f:=GM a;have e:aK (aJ cY (aJ bq (aa 1) (~~~0)) (pC (.str "layer"))) [lD (.fz (nd k)),lD (.fz (mD a))]= .ok (a.aaj,[lD (.fz (nd k)),lD (.fz (mD a))]):=by fail "ev"
 refine⟨[lD (.fz (nd k)),lD (.fz (mD a))],?_,_,_,rfl⟩;cases a with
 |TZ n=>exact JF rfl e (ay (af rfl) aA rfl rfl fU) rfl rfl
 |_=>exact Oh rfl e rfl
theorem wK (s:Uo):dH [dS s]= .ok (.fz (.int (pS s.ac s.oc))):=by
 refine gF rfl ?_;have a:bq (dS s) (.int 2)=lD (.fz (tF s.oc)):=rq;have e0:bq (dS s) (.int 0)=lD (.fz (.tuple ((gP s.ac).map pD))):=eJ;unfold mh;cases q:s.oc with
 |some o=>
  rw[q] at a;have b:mI (tF (lD o)) .none=lD (.fz (.bool QW)):=rfl;fail "go"
  .intro _;exact eK (by fail "ev") rfl rfl
  .intro h;cases h
 |none=>
  rw[q] at a;have b:mI (tF QS) .none=lD (.fz (.bool Q2)):=rfl;fail "go"
  .intro h;cases h
  .intro _;refine dh (ei (d6 (rv:= .fz (.int (x3 s.ac))) (ah (fG (by fail "ev") rfl (GH s.ac)) aD) rfl ?_) rfl rfl);show(oH _).map _=_;rw[rB];rfl
def tH (b:Bd) (L k:Nat):Mn:=((b.ls[L]?.getD [])[k]?).getD .none
def look (b:Bd) (L:Int) (k:Nat):Mn:=if(tH b L.toNat k).isB=QW then tH b 0 k else tH b L.toNat k
section
variable {b:Bd} (Z:VB b)
include Z
theorem KC {L k:Nat} (a:L<b.ls.length) (e:(k:Int)<b.n):∃l,b.ls[L]? =lD l/\l[k]? =lD (tH b L k):=by
 have f:=Z.vl L _ (Q5 a);have d:k<(b.ls[L]).length:=by omega
 refine⟨_,Q5 a,?_⟩;unfold tH;rw[Q5 a,VI,Q5 d];rfl
theorem zT {L k:Nat} (d:L<b.ls.length) (a:(k:Int)<b.n):VM L b.ls.length (tH b L k):=by obtain⟨l,f,e⟩:=KC Z d a;exact(Z.vl L l f).2 _ (Ro e)
theorem Eb {L k:Nat} (e:L<b.ls.length) (a:(k:Int)<b.n):∃d,bq (.tuple (b.ls.map dW)) (nd L)=lD (.fz d)/\bq d (nd k)=lD (.fz (mD (tH b L k))):=by obtain⟨l,g,f⟩:=KC Z e a;exact⟨dW l,Fi (by rw[Q7,g];rfl),Fi (by rw[Q7,f];rfl)⟩
theorem Ic {L:Int} {k:Nat} (r:0<=L) (p:L<b.ls.length) (e:(k:Int)<b.n):iA [bD b,.int L,nd k]= .ok (.fz (mD (look b L k))):=by
 obtain⟨n,rfl⟩:∃n:Nat,L=(n:Int):=⟨L.toNat,by omega⟩;have o:=Z.l1;obtain⟨d,u,j⟩:=Eb Z (L:=n) (by omega) e;obtain⟨l,i,h⟩:=Eb Z (L:=0) (by omega) e;have v:bq (bD b) (.int 1)=lD (.fz (.tuple (b.ls.map dW))):=fU;have g:=nQ (tH b n k);have f:=F1 (tH b n k);have t:bq (.tuple (b.ls.map dW)) (.int 0)=lD (.fz l):=i;have a:look b (n:Int) k=if(tH b n k).isB=QW then tH b 0 k else tH b n k:=rfl
 rw[a];generalize tH b n k=m at j g f a;generalize tH b 0 k=m0 at h a;refine gF rfl ?_;unfold ko;fail "go"
 .intro q;rw[if_pos q];exact eK (by fail "ev") rfl rfl
 .intro q;rw[if_neg (by rw[q];simp)];exact dh (ei (by fail "ev") rfl rfl)
theorem ve {L:Int} {k:Nat} (f:0<=L) (h:L<b.ls.length) (e:(k:Int)<b.n):VM L b.ls.length (look b L k)/\look b L k≠ .below:=by
 have g:=Z.l1;have a:=zT Z (L:=0) (k:=k) (by omega) e;have v:=zT Z (L:=L.toNat) (k:=k) (by omega) e;have d:tH b 0 k≠ .below:=fun z=>by rw[z] at a;exact a rfl
 rw[W4 f] at v;unfold look;split
 .refine⟨?_,d⟩
  generalize tH b 0 k=m at a d;cases m with
  |below=>exact absurd rfl d
  |_=>exact a
 .rename_i q;refine⟨v,fun z=> ?_⟩;rw[z] at q;exact q rfl
omit Z in
theorem Ei (ks:List Nat) (a:ks.length<=5) (c:List Nat×Nat):aK (g8 Ak {gu 1 [0] (jN (aa 1)) (gN 0) fH (aJ Im (aa 0) (aJ bq (aa 1) (~~~0)))}) [lD (.fz (d7 c)),lD (.fz (.tuple (bX ks)))]= .ok (ks.all fun k=>decide (k∈c.1),[lD (.fz (d7 c)),lD (.fz (.tuple (bX ks)))]):=by
 have e:lF (d5 (gN 0) fH (aJ Im (aa 0) (aJ bq (aa 1) (~~~0))) (bX ks) [QS,lD (.fz (d7 c))] [])= .ok (ks.map fun k=> .bool (decide (k∈c.1))):=kY nd (fun k=> .bool (decide (k∈c.1))) ks (by omega) rfl fun k _=>by have e0:bq (d7 c) (.int 0)=lD (.fz (.tuple (bX c.1))):=eJ;exact ay (rv:= .fz (.bool (decide (k∈c.1)))) (af rfl) (by fail "ev") rfl rfl (v5 _ _)
 exact aZ (d6 (rv:= .fz (.bool (ks.all fun k=>decide (k∈c.1)))) (ds:=[.list (ks.map fun k=> .bool (decide (k∈c.1)))]) (ah (fG (cs:=[d7 c]) (ds:=bX ks) (by fail "ev") rfl e) aD) rfl (rY _ _)) rfl
def e9 (b:Bd) (ks:List Nat):List (List Nat×Nat):=b.cs.filter fun c=>ks.all fun k=>decide (k∈c.1)
theorem AR (a:ks.length<=5):bL [bD b,.tuple (bX ks)]= .ok (.ow ((e9 b ks).map d7)):=by have e:bq (bD b) (.int 2)=lD (.fz (.tuple (b.cs.map d7))):=rq;have d:=Z.c4;refine gF rfl ?_;unfold iM;exact ei (fG (cs:=[.tuple (bX ks)]) (by fail "ev") rfl (u8 d7 d7 (fun c=>ks.all fun k=>decide (k∈c.1)) b.cs (by omega) rfl (fun c _=>Ei ks a c) fun c _ _=>af rfl)) rfl rfl
def pP (ks:List Nat):List Nat:=(kr (ks.map XU)).map Y5
omit Z in
theorem sK (ks:List Nat):(pP ks).Perm ks:=by have h:=(eU (ks.map XU)).map Y5;rw[RT] at h;exact h.trans (by rw[show(Y5∘XU)=id from funext fun x=>rfl,List.map_id])
omit Z in
theorem IS (ks:List Nat):(kr (ks.map XU)).map QZ.int=bX (pP ks):=by unfold pP bX;rw[RT];refine U6 fun x a=> ?_;obtain⟨n,_,rfl⟩:=RA.mp ((eU _).mem_iff.mp a);rfl
omit Z in
theorem ze (ks:List Nat):(pP ks).Pairwise (·<=·):=by
 have h:∀l:List Int,l.Pairwise (·<=·)->(l.map Y5).Pairwise (·<=·):=fun l h=>by rw[Vy];exact h.imp fun h=>by omega
 exact h _ (eB _)
omit Z in
theorem HL (ks:List Nat):(pP ks).length=ks.length:=(sK ks).length_eq
omit Z in
theorem xW {ks:List Nat} (h:ks.length<64):L9.gW [.tuple (bX ks)]=lD (.ow (bX (pP ks))):=by
 have e:bX ks=(ks.map XU).map QZ.int:=by rw[RT];rfl
 show(match oH (bX ks) with
  |some a=>if a.length<64 then lD (RV.ow ((kr a).map .int)) else QS
  |none=>QS)=_
 rw[e,rB];dsimp only;rw[if_pos (by rw[QV];exact h),IS]
def O0 (b:Bd) (ks:List Nat):List Mn:=match b.cs.find? fun c=>decide (c.1=pP ks) with
 |some c=> .RH c.2::Q6 (ks.length - 1) .none
 |none=>ks.map (tH b 0)
omit Z in
omit Z in
theorem N4 (n:Nat) (d:D):(Q6 n [d]).flatten=Q6 n d:=by
 induction n with
 |zero=>rfl
 |succ n a=>rw[Si,Tr,a];rfl
theorem M7 {ks:List Nat} (G:1<=ks.length) (F:ks.length<=5) (B:∀k∈ks,(k:Int)<b.n):fF [bD b,.tuple (bX ks)]= .ok (.ow ((O0 b ks).map mD)):=by
 have H:bq (bD b) (.int 2)=lD (.fz (.tuple (b.cs.map d7))):=rq;have I:bq (bD b) (.int 1)=lD (.fz (.tuple (b.ls.map dW))):=fU;have E:=Z.l1;have i:=xW (ks:=ks) (by omega);refine gF rfl ?_;unfold jH;have rt:∀c:List Nat×Nat,(aJ db (df {bQ {pC (.str "letter"),aJ bq (aa 2) (~~~1)}}) (aJ ii (df {pC (.tuple [(.str "none")])}) (aJ pN (g8 dk {aa 1}) (~~~1)))) [lD (.fz (bD b)),lD (.fz (.tuple (bX ks))),lD (.fz (d7 c))]= .ok (.ow ((Mn.RH c.2::Q6 (ks.length - 1) Mn.none).map mD),[lD (.fz (bD b)),lD (.fz (.tuple (bX ks))),lD (.fz (d7 c))]):=fun c=>by
  have l:bq (d7 c) (.int 1)=lD (.fz (.str (jq c.2))):=fU;have j:ii (.list [.tuple [.str "none"]]) (.int (((bX ks).length:Int) - 1))=lD (.ow (Q6 (ks.length - 1) (.tuple [.str "none"]))):=by rw[gp,show((ks.length:Int) - 1)=((ks.length - 1:Nat):Int) by omega];exact(Nv (by omega) (by decide)).trans (by rw[N4])
  have y:db (.list [mD (.RH c.2)]) (.list (Q6 (ks.length - 1) (.tuple [.str "none"])))=lD (.ow ((Mn.RH c.2::Q6 (ks.length - 1) Mn.none).map mD)):=by show(if 1+(Q6 (ks.length - 1) (QZ.tuple [.str "none"])).length<=1000000 then lD (RV.ow ([mD (.RH c.2)]++Q6 (ks.length - 1) (QZ.tuple [.str "none"]))) else QS)=_;rw[RK,if_pos (by omega),Ri,List.map_replicate];rfl
  exact ay (by fail "ev") (ay (by fail "ev") (ay (by fail "ev") aA rfl rfl (on _ _)) rfl rfl j) rfl rfl y
 have f:∀(e:List (List Nat×Nat)) (o:Option PV),(∀c,e.find? (fun c=>decide (c.1=pP ks))=lD c->pI (gN 2) (ka (aK (aJ cY (g8 vD {aJ bq (aa 2) (~~~0)}) (g8 L9.gW {aa 1}))) (cW (aJ db (df {bQ {pC (.str "letter"),aJ bq (aa 2) (~~~1)}}) (aJ ii (df {pC (.tuple [(.str "none")])}) (aJ pN (g8 dk {aa 1}) (~~~1))))) dr) (e.map d7) [lD (.fz (bD b)),lD (.fz (.tuple (bX ks))),o]= .ok (.rt (.ow ((Mn.RH c.2::Q6 (ks.length - 1) Mn.none).map mD))))/\
   (e.find? (fun c=>decide (c.1=pP ks))=QS->∃u,pI (gN 2) (ka (aK (aJ cY (g8 vD {aJ bq (aa 2) (~~~0)}) (g8 L9.gW {aa 1}))) (cW (aJ db (df {bQ {pC (.str "letter"),aJ bq (aa 2) (~~~1)}}) (aJ ii (df {pC (.tuple [(.str "none")])}) (aJ pN (g8 dk {aa 1}) (~~~1))))) dr) (e.map d7) [lD (.fz (bD b)),lD (.fz (.tuple (bX ks))),o]= .ok (.nx [lD (.fz (bD b)),lD (.fz (.tuple (bX ks))),u])):=by
  intro e
  induction e with
  |nil=>exact fun o=>⟨fun c h=>(by cases h),fun _=>⟨o,rfl⟩⟩
  |cons c r A=>
   intro o;have C:bq (d7 c) (.int 0)=lD (.fz (.tuple (bX c.1))):=eJ
   have a:aK (aJ cY (g8 vD {aJ bq (aa 2) (~~~0)}) (g8 L9.gW {aa 1})) [lD (.fz (bD b)),lD (.fz (.tuple (bX ks))),lD (.fz (d7 c))]= .ok (decide (c.1=pP ks),[lD (.fz (bD b)),lD (.fz (.tuple (bX ks))),lD (.fz (d7 c))]):=
    aZ (ay (d6 (by fail "ev") rfl rfl) (d6 (by fail "ev") rfl i) rfl rfl (vC _ _)) rfl
   rw[RP];by_cases h:c.1=pP ks
   .rw[decide_eq_true h] at a⊢;refine⟨fun J t=> ?_,fun t=>(by cases t)⟩;cases t;show((gN 2 (.fz (d7 c)) [lD (.fz (bD b)),lD (.fz (.tuple (bX ks))),o]).bind fun g=>_)=_;rw[Gg,Res.bind_ok];show((ka _ _ _ [lD (.fz (bD b)),lD (.fz (.tuple (bX ks))),lD (.fz (d7 c))]).bind _)=_;rw[PZ a,vZ (rt c) rfl];rfl
   .rw[decide_eq_false h] at a⊢
    have w:pI (gN 2) (ka (aK (aJ cY (g8 vD {aJ bq (aa 2) (~~~0)}) (g8 L9.gW {aa 1}))) (cW (aJ db (df {bQ {pC (.str "letter"),aJ bq (aa 2) (~~~1)}}) (aJ ii (df {pC (.tuple [(.str "none")])}) (aJ pN (g8 dk {aa 1}) (~~~1))))) dr) ((c::r).map d7) [lD (.fz (bD b)),lD (.fz (.tuple (bX ks))),o]=pI (gN 2) (ka (aK (aJ cY (g8 vD {aJ bq (aa 2) (~~~0)}) (g8 L9.gW {aa 1}))) (cW (aJ db (df {bQ {pC (.str "letter"),aJ bq (aa 2) (~~~1)}}) (aJ ii (df {pC (.tuple [(.str "none")])}) (aJ pN (g8 dk {aa 1}) (~~~1))))) dr) (r.map d7) [lD (.fz (bD b)),lD (.fz (.tuple (bX ks))),lD (.fz (d7 c))]:=by show((gN 2 (.fz (d7 c)) [lD (.fz (bD b)),lD (.fz (.tuple (bX ks))),o]).bind fun g=>_)=_;rw[Gg,Res.bind_ok];show((ka _ _ _ [lD (.fz (bD b)),lD (.fz (.tuple (bX ks))),lD (.fz (d7 c))]).bind _)=_;rw[PN a];rfl
    rw[w];exact A _
 obtain⟨z,m⟩:=f b.cs QS;have v:jN (aJ bq (aa 0) (~~~2)) [lD (.fz (bD b)),lD (.fz (.tuple (bX ks))),QS]= .ok (b.cs.map d7,[lD (.fz (bD b)),lD (.fz (.tuple (bX ks))),QS]):=by fail "ev"
 unfold O0;cases q:b.cs.find? fun c=>decide (c.1=pP ks) with
 |some c=>exact .eq (Fm ((zB v).trans (z c q))) ⟨rfl⟩
 |none=>obtain⟨u,m⟩:=m q;refine .eq (GY ((zB v).trans m)) ?_;refine ei (fG (by fail "ev") rfl ?_) rfl rfl;rw[RT];refine kY nd (mD∘tH b 0) ks (by omega) rfl fun k p=> ?_;obtain⟨d,l,j⟩:=Eb Z (L:=0) (by omega) (B k p);have l:bq (.tuple (b.ls.map dW)) (.int 0)=lD (.fz d):=l;exact ay (by fail "ev") (af rfl) rfl rfl j
end
end STP
local macro_rules|`(-($x))=>`(Option.some (.fz $x))
namespace STP
open PySem L2 L3
open L10
def ke (p:Nat×Mn):cH×SV:=(.inl (p.1:Int),.fz (mD p.2))
def lP (ac:Ac) (k:Nat) (o:Option Mn):Ac:=fun j=>if j=k then o else ac j
theorem eR:lP ac k o k=o:=by unfold lP;rw[if_pos rfl]
theorem gI (h:j≠k):lP ac k o j=ac j:=by unfold lP;rw[if_neg h]
theorem Gj (ac:Ac):(gP ac).Pairwise fun p q=>p.1<q.1:=by
 unfold gP;refine adG _ (fun a f h p d q b=> ?_) (Y6);cases e:ac a with
 |none=>rw[e] at d;cases d
 |some x=>
  cases e':ac f with
  |none=>rw[e'] at b;cases b
  |some y=>rw[e] at d;rw[e'] at b;cases d;cases b;exact h
theorem rm (ac:Ac):((gP ac).map (·.1)).Nodup:=by rw[Sw,Vy];exact(Gj ac).imp fun h=>Rr h
theorem Br {l:List (Nat×Mn)} (h:(l.map (·.1)).Nodup):l.Nodup:=by rw[Sw,Vy] at h;exact h.imp fun h e=>h (by rw[e])
theorem qV {l:List (Nat×Mn)} (h:(l.map (·.1)).Nodup) (hm:∀p,p∈l↔p.1<5/\ac p.1=lD p.2):l.Perm (gP ac):=
 (List.perm_ext_iff_of_nodup (Br h) (Br (rm ac))).mpr fun p=>(hm p).trans gn.symm
section
variable {ps:List (Nat×Mn)} {ac:Ac} (Z:ps.Perm (gP ac))
include Z
theorem kq:p∈ps↔p.1<5/\ac p.1=lD p.2:=Z.mem_iff.trans gn
theorem Dy:(ps.map (·.1)).Nodup:=(Z.map (·.1)).nodup_iff.mpr (rm ac)
theorem Er:ps.length<=5:=by rw[Z.length_eq];exact wv ac
theorem nj {k:Nat} (d:k<5):jJ (ps.map ke) (.inl (k:Int))=(ac k).map fun a=>SV.fz (mD a):=by
 unfold jJ;cases q:(ps.map ke).find? fun b=>decide (b.1=(.inl (k:Int):cH)) with
 |none=>
  cases e:ac k with
  |none=>rfl
  |some a=>have:=aav.mp q (ke (k,a)) (RA.mpr ⟨(k,a),(kq Z).mpr ⟨d,e⟩,rfl⟩);exact absurd (decide_eq_true rfl) this
 |some b=>
  obtain⟨p,h,rfl⟩:=RA.mp (Yp q);have g:=of_decide_eq_true (List.find?_some (p:=fun b:cH×SV=>decide (b.1=(.inl (k:Int):cH))) q);have f:p.1=k:=by have:=Sum.inl.inj g;omega
  rw[<-f,((kq Z).mp h).2];rfl
theorem Jd {k:Nat} (n:k<5):∃qs:List (Nat×Mn),jZ (ps.map ke) (.inl (k:Int)) (.fz (mD a))=qs.map ke/\qs.Perm (gP (lP ac k (lD a))):=by
 unfold jZ;have f:∀p:Nat×Mn,((ke p).1=(.inl (k:Int):cH))↔p.1=k:=fun p=>⟨fun h=>by have:=Sum.inl.inj h;omega,fun h=>by rw[<-h];rfl⟩;split
 .rename_i h
  refine⟨ps.map fun p=>if p.1=k then(k,a) else p,?_,qV ?_ fun p=> ?_⟩
  .rw[RT,RT]
   refine U6 fun p _=> ?_;show(if(ke p).1=(.inl (k:Int):cH) then((ke p).1,SV.fz (mD a)) else ke p)=ke (if p.1=k then(k,a) else p);by_cases e:p.1=k
   .rw[if_pos ((f p).mpr e),if_pos e,(f p).mpr e];rfl
   .rw[if_neg (fun z=>e ((f p).mp z)),if_neg e]
  .rw[RT,show ps.map ((·.1)∘fun p:Nat×Mn=>if p.1=k then(k,a) else p)=ps.map (·.1) from U6 fun p _=>by
    show(if p.1=k then(k,a) else p).1=p.1;split
    .rename_i e;exact e.symm
    .rfl]
   exact Dy Z
  .obtain⟨v,j,i⟩:=UO.mp h
   obtain⟨m,u,rfl⟩:=RA.mp j;have b:=(f m).mp (of_decide_eq_true i);rw[RA];constructor
   .rintro⟨r,t,rfl⟩
    split
    .exact⟨n,eR⟩
    .rename_i e;have:=(kq Z).mp t;exact⟨this.1,by rw[gI e];exact this.2⟩
   .rintro⟨d,g⟩
    by_cases e:p.1=k
    .rw[e,eR] at g;refine⟨m,u,?_⟩;rw[if_pos b,<-e,Rm g]
    .rw[gI e] at g;exact⟨p,(kq Z).mpr ⟨d,g⟩,by rw[if_neg e]⟩
 .rename_i h
  have hn:=fun p l e=>h (UO.mpr ⟨ke p,RA.mpr ⟨p,l,rfl⟩,decide_eq_true ((f p).mpr e)⟩);refine⟨ps++[(k,a)],by rw[RD];rfl,qV ?_ fun p=> ?_⟩
  .rw[RD,TY];refine⟨Dy Z,Sz.mpr ⟨SJ,Wv⟩,fun x q y o=> ?_⟩;obtain⟨p,b,rfl⟩:=RA.mp q;rw[Rb.mp o];exact hn p b
  .rw[RL,Rb]
   constructor
   .rintro(b|rfl)
    .have:=(kq Z).mp b;exact⟨this.1,by rw[gI (hn p b)];exact this.2⟩
    .exact⟨n,eR⟩
   .rintro⟨b,d⟩
    by_cases e:p.1=k
    .rw[e,eR] at d;exact .inr (by rw[<-e,Rm d])
    .rw[gI e] at d;exact .inl ((kq Z).mpr ⟨b,d⟩)
theorem Fg {k:Nat}:∃qs:List (Nat×Mn),l7 (ps.map ke) (.inl (k:Int))=qs.map ke/\qs.Perm (gP (lP ac k QS)):=by
 have f:∀p:Nat×Mn,((ke p).1=(.inl (k:Int):cH))↔p.1=k:=fun p=>⟨fun h=>by have:=Sum.inl.inj h;omega,fun h=>by rw[<-h];rfl⟩;refine⟨ps.filter fun p=>decide (p.1≠k),?_,qV ?_ fun p=> ?_⟩
 .unfold l7;rw[List.filter_map];congr 1;refine List.filter_congr fun p _=> ?_;exact decide_eq_decide.mpr (not_congr (f p))
 .exact ahE ((List.filter_sublist).map _) (Dy Z)
 .rw[Tj,kq Z,decide_eq_true_eq]
  constructor
  .rintro⟨⟨b,a⟩,d⟩;exact⟨b,by rw[gI d];exact a⟩
  .rintro⟨b,a⟩
   by_cases e:p.1=k
   .rw[e,eR] at a;cases a
   .rw[gI e] at a;exact⟨⟨b,a⟩,e⟩
theorem E1:aQ yI ((ps.map ke).map (·.1))=lD (ps.map fun p=>(p.1:Int)):=by
 clear Z
 induction ps with
 |nil=>rfl
 |cons p r a=>rw[Ri,Ri];unfold aQ;rw[a];rfl
theorem Gq:kr (ps.map fun p=>(p.1:Int))=(gP ac).map fun p=>(p.1:Int):=by refine k7 ((eU _).trans (Z.map _)) (eB _) ?_;rw[Vy];exact(Gj ac).imp fun h=>by omega
end
abbrev Sn:=List (Nat×Bool)
def mM (ac:Ac) (a:Mn):Bool:=decide (a∈(gP ac).map (·.2))
def sW (ac:Ac):Mn->Sn
 | .RH c=>if mM ac (.RH c)=QW then[] else[(c,QW)]
 |_=>[]
def LX (ac:Ac):Mn->Sn
 | .RH c=>if mM ac (.RH c)=QW then[] else[(c,Q2)]
 |_=>[]
def gx (p:Uo×Sn) (k:Nat) (a:Mn):Uo×Sn:=({p.1 with ac:=lP p.1.ac k (lD a)},p.2++sW p.1.ac a)
def go (p:Uo×Sn) (k:Nat):Uo×Sn:=match p.1.ac k with
 |some a=>({p.1 with ac:=lP p.1.ac k QS},p.2++LX (lP p.1.ac k QS) a)
 |none=>p
def j4 (p:Uo×Sn) (a:List (Nat×Mn)):Uo×Sn:=a.foldl (fun p q=>gx p q.1 q.2) p
def gL (b:Bd) (ks:List Nat):Option (Nat×Int)->List Mn
 |some (_,n)=>[.TZ n]
 |none=>O0 b ks
def dA (b:Bd) (p:Uo×Sn):Uo×Sn:=match p.1.wt with
 |none=>p
 |some (ks,_,w)=>j4 ({p.1 with wt:=QS},p.2) (ks.zip (gL b ks w))
def CS:Wq->Nat->Bool
 |some (ks,_,_),k=>decide (k∈ks)
 |none,_=>Q2
def FM (b:Bd) (s:Uo) (k:Nat):Bool:=match s.wt with
 |some (ks,_,QS)=>decide (pS s.ac s.oc=0)&& !(e9 b (ks++[k])).isEmpty
 |_=>Q2
def v4 (b:Bd) (p:Uo×Sn) (k:Nat):Uo×Sn:=match p.1.wt with
 |some (ks,g,_)=>if(e9 b (ks++[k])).map (·.1.length)=[(ks++[k]).length] then dA b ({p.1 with wt:=lD (ks++[k],g,QS)},p.2) else({p.1 with wt:=lD (ks++[k],g,QS)},p.2)
 |none=>p
def gJ (s:Uo) (m:Mn):Uo:=if(m.aaj||m.isO)=QW then s else{s with oc:=QS}
def xE (b:Bd) (L:Int) (p:Uo×Sn) (k:Nat):Mn->Uo×Sn
 | .WZ c n=>({p.1 with wt:=lD ([k],0,lD (c,n))},p.2)
 | .RH c=>if(decide (L=0)&& !(e9 b [k]).isEmpty)=QW then({p.1 with wt:=lD ([k],0,QS)},p.2) else gx p k (.RH c)
 | .once n=>({(gx p k .none).1 with oc:=lD n},(gx p k .none).2)
 |m=>gx p k m
def Hs (b:Bd) (p:Uo×Sn) (k:Nat):Uo×Sn:=
 xE b (pS p.1.ac p.1.oc) (gJ p.1 (look b (pS p.1.ac p.1.oc) k),p.2) k (look b (pS p.1.ac p.1.oc) k)
def mY (b:Bd) (p:Uo×Sn) (k:Nat):Uo×Sn:=
 if((p.1.ac k).isSome||CS p.1.wt k)=QW then p else if FM b p.1 k=QW then v4 b p k else Hs b (dA b p) k
def dB (b:Bd) (p:Uo×Sn) (k:Nat):Uo×Sn:=match p.1.wt with
 |some (_,_,QS)=>dA b p
 |some (_,_,lD (c,_))=>gx ({p.1 with wt:=QS},p.2) k (.RH c)
 |none=>p
def xX (b:Bd) (p:Uo×Sn) (k:Nat):Uo×Sn:=go (if CS p.1.wt k=QW then dB b p k else p) k
def lJ (b:Bd) (p:Uo×Sn):Uo×Sn:=match p.1.wt with
 |none=>p
 |some (ks,g,w)=>if g+1=b.wt then dA b ({p.1 with wt:=lD (ks,g+1,w)},p.2) else({p.1 with wt:=lD (ks,g+1,w)},p.2)
def bA (b:Bd) (s:Uo):W0->Uo×Sn
 | .down k=>mY b (s,[]) k
 | .up k=>xX b (s,[]) k
 | .turn=>lJ b (s,[])
def uq (b:Bd) (s:Uo):List (Str×SV):=[("bed",.fz (bD b)),("acts",.rf 1),("waiting",.fz (jQ s.wt)),("once",.fz (tF s.oc)),("sent",.rf 2)]
def iu (p:Nat×Bool):D:= .tuple [.str (jq p.1),.str (if p.2=QW then "down" else "up")]
def dQ (b:Bd) (s:Uo) (sn:Sn) (ps:List (Nat×Mn)) (J:a9):a9:= .obj "Hand" (uq b s):: .Xd (ps.map ke):: .lst ((sn.map iu).map .fz)::J
def HS (b:Bd) (p:Uo×Sn) (Z:a9):Prop:=∃ps J,ps.Perm (gP p.1.ac)/\Z=dQ b p.1 p.2 ps J
section
variable {b:Bd} {s:Uo} {sn:Sn} {ps:List (Nat×Mn)} {J:a9} {ρ:bx} {i:Nat} {Z:a9} {p:Uo×Sn} {k:Nat} {a:Mn}
theorem Mo:(uq b s).lookup ("bed":Str)=-(bD b):=by unfold uq;rw[TR]
theorem JK:(uq b s).lookup ("acts":Str)=lD (.rf 1):=by unfold uq;rw[Rn,show(("acts":Str)== "bed")=Q2 by left];dsimp only;rw[TR]
theorem JN:(uq b s).lookup ("waiting":Str)=-(jQ s.wt):=by unfold uq;rw[Rn,show(("waiting":Str)== "bed")=Q2 by left];dsimp only;rw[Rn,show(("waiting":Str)== "acts")=Q2 by left];dsimp only;rw[TR]
theorem HK:(uq b s).lookup ("once":Str)=-(tF s.oc):=by unfold uq;rw[Rn,show(("once":Str)== "bed")=Q2 by left];dsimp only;rw[Rn,show(("once":Str)== "acts")=Q2 by left];dsimp only;rw[Rn,show(("once":Str)== "waiting")=Q2 by left];dsimp only;rw[TR]
theorem Hv:(uq b s).lookup ("sent":Str)=lD (.rf 2):=by unfold uq;rw[Rn,show(("sent":Str)== "bed")=Q2 by left];dsimp only;rw[Rn,show(("sent":Str)== "acts")=Q2 by left];dsimp only;rw[Rn,show(("sent":Str)== "waiting")=Q2 by left];dsimp only;rw[Rn,show(("sent":Str)== "once")=Q2 by left];dsimp only;rw[TR]
def Qe (m:Str):Bool:=(m== "bed"||m== "acts"||m== "waiting"||m== "once"||m== "sent")==Q2
theorem Ol (h:Qe m=QW):(uq b s).lookup m=QS:=by unfold Qe at h;simp only[beq_iff_eq,ZR] at h;obtain⟨⟨⟨⟨j,g⟩,f⟩,e⟩,d⟩:=h;unfold uq;rw[Rn,j];dsimp only;rw[Rn,g];dsimp only;rw[Rn,f];dsimp only;rw[Rn,e];dsimp only;rw[Rn,d];rfl
theorem nY (h:ρ[i]? =lD (lD (.rf 0))):bv "Hand" "bed" (az i) ρ (dQ b s sn ps J)= .ok (.fz (bD b)) (dQ b s sn ps J):=iU (bJ h) rfl Mo
theorem gR (h:ρ[i]? =lD (lD (.rf 0))):bv "Hand" "acts" (az i) ρ (dQ b s sn ps J)= .ok (.rf 1) (dQ b s sn ps J):=iU (bJ h) rfl JK
theorem bW (h:ρ[i]? =lD (lD (.rf 0))):bv "Hand" "waiting" (az i) ρ (dQ b s sn ps J)= .ok (.fz (jQ s.wt)) (dQ b s sn ps J):=iU (bJ h) rfl JN
theorem A3 (h:ρ[i]? =lD (lD (.rf 0))):bv "Hand" "once" (az i) ρ (dQ b s sn ps J)= .ok (.fz (tF s.oc)) (dQ b s sn ps J):=iU (bJ h) rfl HK
theorem vt (h:ρ[i]? =lD (lD (.rf 0))):bv "Hand" "sent" (az i) ρ (dQ b s sn ps J)= .ok (.rf 2) (dQ b s sn ps J):=iU (bJ h) rfl Hv
theorem DW (w:Wq):eP "waiting" (.fz (jQ w)) (uq b s)=uq b {s with wt:=w}:=by unfold uq;unfold eP;rw[if_neg (by left)];unfold eP;rw[if_neg (by left)];unfold eP;rw[if_pos rfl]
theorem F8 (o:Option Int):eP "once" (.fz (tF o)) (uq b s)=uq b {s with oc:=o}:=by unfold uq;unfold eP;rw[if_neg (by left)];unfold eP;rw[if_neg (by left)];unfold eP;rw[if_neg (by left)];unfold eP;rw[if_pos rfl]
theorem kT (w:Wq) (h:ρ[i]? =lD (lD (.rf 0))) (d:fe ρ Z= .ok (.fz (jQ w)) (dQ b s sn ps J)):fP "Hand" "waiting" (az i) fe ρ Z= .ok (.nx ρ) (dQ b {s with wt:=w} sn ps J):=
 (oK d (bJ h) rfl (by exact QY rfl)).trans (by rw[DW];rfl)
theorem BO (o:Option Int) (h:ρ[i]? =lD (lD (.rf 0))) (d:fe ρ Z= .ok (.fz (tF o)) (dQ b s sn ps J)):fP "Hand" "once" (az i) fe ρ Z= .ok (.nx ρ) (dQ b {s with oc:=o} sn ps J):=
 (oK d (bJ h) rfl (by exact QY rfl)).trans (by rw[F8];rfl)
theorem b6 (d:HS b p Z) (hm:Qe m=QW) (h:ρ[i]? =lD (lD (.rf 0))) (ha:fa ρ Z= .ok xs Z) (hn:(SV.rf 0::xs).length=n) (e:F (.rf 0::xs) Z= .ok x Z'):bc "Hand" m F n (az i) fa ρ Z= .ok x Z':=by obtain⟨ps,J,f,rfl⟩:=d;exact BK (bJ h) rfl (Ol hm) ha hn e
theorem DC (ps:List (Nat×Mn)):(ps.map ke).map (·.2)=((ps.map (·.2)).map mD).map SV.fz:=by rw[RT,RT,RT];rfl
def AK (ac:Ac):Prop:=∀k a,ac k=lD a->k<5/\LB a
theorem EH (e:HS b p Z) (f:AK p.1.ac) (ha:LB a):∃Z',bS [.rf 0,.fz (mD a)] Z= .ok (.fz (.bool (mM p.1.ac a))) Z'/\HS b p Z':=by
 obtain⟨ps,J,d,rfl⟩:=e;have h:mM p.1.ac a=decide (a∈ps.map (·.2)):=decide_eq_decide.mpr (d.map (·.2)).symm.mem_iff;have lb:∀m∈ps.map (·.2),LB m:=fun m hm=>by obtain⟨q,g,rfl⟩:=RA.mp hm;exact(f _ _ ((kq d).mp g).2).2
 refine⟨dQ b p.1 p.2 ps (J++[.lst ((ps.map ke).map (·.2))]),?_,ps,_,d,rfl⟩;rw[h];exact jT rfl (iR (cL (ai (af rfl)) (JU (gR rfl) rfl) (z6 rfl (fT (by rw[DC];exact aY)) (IJ ha lb))))
theorem AM (f:sn.length<1000) (h:ρ[i]? =lD (lD (.rf 0))) (e:fe ρ (dQ b s sn ps J)= .ok (.fz (iu (c,d))) (dQ b s sn ps J)):tL (bv "Hand" "sent" (az i)) fe ρ (dQ b s sn ps J)= .ok (.fz .none) (dQ b s (sn++[(c,d)]) ps J):=
 (vd (vt h) rfl e rfl (by rw[QV,QV];omega)).trans (by unfold dQ;rw[RD,RD];rfl)
theorem sQ (d:ps.Perm (gP s.ac)) (g:k<5) (n:ρ[0]? =lD (lD (.rf 0))) (m:ρ[1]? =lD (-(nd k))) (l:ρ[2]? =lD (-(mD a))):∃qs:List (Nat×Mn),qs.Perm (gP (lP s.ac k (lD a)))/\wT (bv "Hand" "acts" (az 0)) (ag (aa 1)) (ag (aa 2)) ρ (dQ b s sn ps J)= .ok (.nx ρ) (dQ b {s with ac:=lP s.ac k (lD a)} sn qs J):=by obtain⟨qs,j,h⟩:=Jd d g;have f:aa 1 (cy ρ)= .ok (.fz (nd k),cy ρ):=af (by unfold cy;rw[Q7,m];rfl);have e:aa 2 (cy ρ)= .ok (.fz (mD a),cy ρ):=af (by unfold cy;rw[Q7,l];rfl);refine⟨qs,h,(Ie (ai e) (gR n) (ai f) rfl rfl (by rw[QV];have:=Er d;omega)).trans ?_⟩;rw[j];rfl
theorem qM (h:HS b p Z) (u:AK p.1.ac) (ha:LB a) (j:k<5) (t:p.2.length<1000):∃Z',bB [.rf 0,.fz (nd k),.fz (mD a)] Z= .ok (.fz .none) Z'/\HS b (gx p k a) Z':=by
 have e0:=nQ a;have o:=jm a;cases q:a.isL with
 |false=>
  obtain⟨ps,J,f,rfl⟩:=h;rw[q] at o;obtain⟨d,g,v⟩:=sQ (ρ:=[lD (.rf 0),-(nd k),-(mD a)]) f j rfl rfl rfl;refine⟨_,mP rfl (cN (hG (fS (bw (by fail "ev"))) gS) v),d,J,g,?_⟩;have:sW p.1.ac a=[]:=by cases a<;>first|rfl|cases q
  unfold gx;rw[this,RB]
 |true=>
  rw[q] at o;obtain⟨w,g,y⟩:=EH h u ha;have r:∀n,mM p.1.ac a=n->(mn (bT (aK (aJ cY (aJ bq (aa 2) (~~~0)) (pC (.str "letter"))))) (yg (bU (bc "Hand" "has_act" bS 2 (az 0) (am (ag (aa 2)) aV))))) [lD (.rf 0),-(nd k),-(mD a)] Z= .ok (!n) w:=fun n e=>by rw[e] at g;exact gf (bw (by fail "ev")) (vG (bu (b6 h (by left) rfl (au (ai (af rfl)) aW) rfl g)))
  obtain⟨ps,J,f,rfl⟩:=y;cases q2:mM p.1.ac a with
  |true=>
   obtain⟨d,m,l⟩:=sQ (ρ:=[lD (.rf 0),-(nd k),-(mD a)]) f j rfl rfl rfl;refine⟨_,mP rfl (cN (hG (r QW q2) gS) l),d,J,m,?_⟩;have:sW p.1.ac a=[]:=by
    cases a<;>first|cases q|skip
    show(if mM p.1.ac _=QW then _ else _)=_;rw[if_pos q2]
   unfold gx;rw[this,RB]
  |false=>
   cases a<;>first|cases q|skip
   rename_i c;obtain⟨d,m,l⟩:=sQ (ρ:=[lD (.rf 0),-(nd k),-(mD (.RH c))]) (sn:=p.2++[(c,QW)]) f j rfl rfl rfl;have z:bq (mD (.RH c)) (.int 1)=-(.str (jq c)):=fU;refine⟨_,mP rfl (cN (fx (r Q2 q2) (iH (AM t rfl (ai (show _=Res.ok (PV.fz (.tuple [.str (jq c),.str "down"]),_) by fail "ev"))))) l),d,J,m,?_⟩;have:sW p.1.ac (.RH c)=[(c,QW)]:=by show(if mM p.1.ac _=QW then _ else _)=_;rw[if_neg (by rw[q2];simp)]
   unfold gx;rw[this]
end
end STP
namespace STP
open PySem L2 L3 L10
def VA (a:Int):Mn->Prop
 | .RH c=>c<26
 | .TZ n=>1<=n/\n<a
 | .none=>True
 |_=>False
theorem VA.lb (h:VA nL m):LB m:=by
 cases m with
 |RH c=>exact h
 |WZ c n=>exact h.elim
 |_=>trivial
structure SA (b:Bd) (s:Uo):Prop where
 ac:∀k a,s.ac k=lD a->(k:Int)<b.n/\VA b.ls.length a
 oc:∀o,s.oc=lD o->1<=o/\o<b.ls.length
structure WV (b:Bd) (ac:Ac) (ks:List Nat) (g:Int) (w:Option (Nat×Int)):Prop where
 ne:ks≠[]
 nd:ks.Nodup
 kn:∀k∈ks,(k:Int)<b.n
 kf:∀k∈ks,ac k=QS
 g0:0<=g
 tp:∀c n,w=lD (c,n)->c<26/\(1<=n/\n<b.ls.length)/\ks.length=1
 ch:w=QS->∀k∈ks,yE (b.ls.headD []) k=QW
structure SW (b:Bd) (s:Uo):Prop where
 sa:SA b s
 wt:∀ks g w,s.wt=lD (ks,g,w)->WV b s.ac ks g w/\g<b.wt
theorem yT {ks:List Nat} (hd:ks.Nodup) (h:∀k∈ks,k<n):ks.length<=n:=by rw[<-HL ks];have b:=(sK ks).nodup_iff.mpr hd;refine Jz (((ze ks).and b).imp fun h=>by omega) fun k a=>h k ((sK ks).mem_iff.mp a)
section
variable {b:Bd} (Z:VB b) {s:Uo} {p:Uo×Sn} {ks:List Nat} {g:Int} {w:Option (Nat×Int)} {ac:Ac} {k:Nat} {a:Mn}
include Z
theorem WV.len (h:WV b ac ks g w):ks.length<=5:=yT h.nd fun k d=>by have:=h.kn k d;have:=Z.n5;omega
omit Z in
theorem WV.agF (h:WV b ac ks g w):1<=ks.length:=List.length_pos_iff.mpr h.ne
theorem SA.ak (h:SA b s):AK s.ac:=fun k a e=>by have:=h.ac k a e;have:=Z.n5;exact⟨by omega,(h.ac k a e).2.lb⟩
omit Z in
theorem SA.cm (h:SA b p.1) (d:(k:Int)<b.n) (ha:VA b.ls.length a):SA b (gx p k a).1:=by
 refine⟨fun j x e=> ?_,h.oc⟩;by_cases z:j=k
 .subst z;have f:lD a=lD x:=(eR (ac:=p.1.ac) (k:=j) (o:=lD a)).symm.trans e;cases f;exact⟨d,ha⟩
 .exact h.ac j x ((gI z).symm.trans e)
omit Z in
theorem SA.gg (h:SA b p.1):SA b (go p k).1:=by
 unfold go;split
 .refine⟨fun j x e=> ?_,h.oc⟩
  by_cases z:j=k
  .subst z;exact absurd ((eR (ac:=p.1.ac) (k:=j) (o:=QS)).symm.trans e) (by simp)
  .exact h.ac j x ((gI z).symm.trans e)
 .exact h
omit Z in
theorem qS:(gx p k a).2.length<=p.2.length+1:=by
 show(p.2++sW p.1.ac a).length<=_;rw[Q3];have:(sW p.1.ac a).length<=1:=by
  cases a with
  |RH c=>show(if _ then _ else _:Sn).length<=1;split<;>simp
  |_=>simp[sW]
 omega
omit Z in
theorem Cw (d:List (Nat×Mn)):∀p:Uo×Sn,(j4 p d).2.length<=p.2.length+d.length:=by
 induction d with
 |nil=>exact fun p=>Q4 _
 |cons q r e=>intro p;have h:=e (gx p q.1 q.2);have f:=qS (p:=p) (k:=q.1) (a:=q.2);show(j4 (gx p q.1 q.2) r).2.length<=_;rw[Rg];omega
omit Z in
theorem SA.cms (d:List (Nat×Mn)):∀{p:Uo×Sn},SA b p.1->(∀q∈d,(q.1:Int)<b.n/\VA b.ls.length q.2)->SA b (j4 p d).1/\(j4 p d).1.wt=p.1.wt/\(j4 p d).1.oc=p.1.oc:=by
 induction d with
 |nil=>exact fun h _=>⟨h,rfl,rfl⟩
 |cons q r i=>intro p h e;have f:=e q Rh;exact i (h.cm f.1 f.2) fun x j=>e x (Rf _ j)
theorem LP (h:yE (b.ls.headD []) k=QW):∃c,tH b 0 k= .RH c:=by
 have f:=Z.l1;obtain⟨d,r,e⟩:∃d r,b.ls=d::r:=by
  cases q:b.ls with
  |nil=>rw[q] at f;cases f
  |cons l r=>exact⟨l,r,rfl⟩
 unfold yE at h;unfold tH;rw[e] at h⊢;rw[YO,VI];rw[List.headD_cons] at h;cases q:d[k]? with
 |none=>rw[q] at h;cases h
 |some m=>
  rw[q] at h;cases m with
  |RH c=>exact⟨c,rfl⟩
  |_=>cases h
theorem Jy (d:(k:Int)<b.n) (h:yE (b.ls.headD []) k=QW):VA b.ls.length (tH b 0 k):=by have f:=Z.l1;obtain⟨c,e⟩:=LP Z h;have:=zT Z (L:=0) (by omega) d;rw[e] at this⊢;exact this
theorem My (h:WV b ac ks g QS):∀m∈O0 b ks,VA b.ls.length m:=by
 intro m hm;unfold O0 at hm;split at hm
 .rename_i c e
  rcases Rv.mp hm with rfl|hm
  .exact(Z.vc c (Yp e)).2.2.2
  .rw[(List.mem_replicate.mp hm).2];trivial
 .obtain⟨j,d,rfl⟩:=RA.mp hm;exact Jy Z (h.kn j d) (h.ch rfl j d)
theorem v8 (h:WV b ac ks g w):∀q∈ks.zip (gL b ks w),(q.1:Int)<b.n/\VA b.ls.length q.2:=by
 intro q e;have d:=U1 e;refine⟨h.kn _ d.1,?_⟩;cases w with
 |none=>exact My Z h _ d.2
 |some f=>obtain⟨c,n⟩:=f;rw[Rb.mp d.2];exact(h.tp c n rfl).2.1
def WD (b:Bd) (s:Uo):Prop:=∀ks g w,s.wt=lD (ks,g,w)->WV b s.ac ks g w
theorem jt (h:SA b p.1) (f:WD b p.1):SW b (dA b p).1/\(dA b p).1.wt=QS/\(dA b p).2.length<=p.2.length+5/\(dA b p).1.oc=p.1.oc:=by
 unfold dA;split
 .rename_i q;exact⟨⟨h,fun ks g w e=>by rw[q] at e;cases e⟩,q,abr _ _,rfl⟩
 .rename_i ks g w q
  have v:=f ks g w q;obtain⟨j,d,i⟩:=SA.cms (ks.zip (gL b ks w)) (p:=({p.1 with wt:=QS},p.2)) ⟨h.ac,h.oc⟩ (v8 Z v);refine⟨⟨j,fun _ _ _ e=> ?_⟩,d,?_,i⟩
  .rw[d] at e;cases e
  .have:=Cw (ks.zip (gL b ks w)) ({p.1 with wt:=QS},p.2);have l:=v.len Z;rw[abt] at this;have:(j4 ({p.1 with wt:=QS},p.2) (ks.zip (gL b ks w))).2.length<=p.2.length+min ks.length (gL b ks w).length:=this;omega
omit Z in
theorem AX:∀(l:List Int) (m:Option Int),l.foldl lw m=m\/∃x∈l,l.foldl lw m=lD x
 |[],m=> .inl rfl
 |x::r,m=>by
  rw[VY];rcases AX r (lw m x) with h|⟨y,hy,h⟩
  .rw[h]
   cases m with
   |none=>exact .inr ⟨x,Rh,rfl⟩
   |some z=>
    show lD (if x>z then x else z)=lD z\/_;split
    .exact .inr ⟨x,Rh,by show lD (if x>z then x else z)=_;rename_i q;rw[if_pos q]⟩
    .exact .inl rfl
  .exact .inr ⟨y,Rf _ hy,h⟩
omit Z in
theorem Bv:∀(l:List Int) (m:Option Int),(∀x∈l,∃y,l.foldl lw m=lD y/\x<=y)/\∀z,m=lD z->∃y,l.foldl lw m=lD y/\z<=y
 |[],m=>⟨fun x f=>(by cases f),fun z h=>⟨z,h,WI _⟩⟩
 |x::r,m=>by
  rw[VY];obtain⟨o,n⟩:=Bv r (lw m x);have j:∃z,lw m x=lD z/\x<=z/\∀u,m=lD u->u<=z:=by
   cases m with
   |none=>exact⟨x,rfl,WI _,fun u h=>by cases h⟩
   |some u=>
    refine⟨if x>u then x else u,rfl,?_,fun v h=> ?_⟩
    .split<;>omega
    .cases h;split<;>omega
  obtain⟨z,t,B,q⟩:=j;obtain⟨y,e,A⟩:=n z t;refine⟨fun v d=> ?_,fun u i=>⟨y,e,by have:=q u i;omega⟩⟩;rcases Rv.mp d with rfl|d
  .exact⟨y,e,by omega⟩
  .exact o v d
omit Z in
theorem BU {ac:Ac} {n:Int}:n∈(gP ac).filterMap MD↔∃k,k<5/\ac k=lD (.TZ n):=by
 rw[Vf];constructor
 .rintro⟨⟨k,m⟩,e,d⟩
  have f:=gn.mp e;cases m with
  |TZ x=>have:x=n:=Rm d;subst this;exact⟨k,f.1,f.2⟩
  |_=>cases d
 .rintro⟨k,e,d⟩;exact⟨(k,.TZ n),gn.mpr ⟨e,d⟩,rfl⟩
theorem Ip (h:SA b s):0<=x3 s.ac/\x3 s.ac<b.ls.length/\(∀k n,s.ac k=lD (.TZ n)->n<=x3 s.ac)/\(x3 s.ac=0\/∃k,s.ac k=lD (.TZ (x3 s.ac))):=by
 have l:=Z.l1;have o:=Z.n5;unfold x3;generalize hm:((gP s.ac).filterMap MD).foldl lw QS=m;have i:=(Bv ((gP s.ac).filterMap MD) QS).1;have d:=AX ((gP s.ac).filterMap MD) QS;rw[hm] at i d;have up:∀k n,s.ac k=lD (.TZ n)->∃y,m=lD y/\n<=y:=fun k n e=>i n (BU.mpr ⟨k,by have:=(h.ac k _ e).1;omega,e⟩);cases m with
 |none=>refine⟨WI _,by show(0:Int)<_;omega,fun k n e=> ?_,.inl rfl⟩;obtain⟨y,f,_⟩:=up k n e;cases f
 |some x=>
  rcases d with d|⟨y,hy,d⟩
  .cases d
  .cases d;obtain⟨k,_,e⟩:=BU.mp hy;have:=(h.ac k _ e).2;have:1<=x/\x<b.ls.length:=this;refine⟨by show 0<=x;omega,by show x<_;omega,fun k n e=> ?_,.inr ⟨k,e⟩⟩;obtain⟨y,f,j⟩:=up k n e;cases f;exact j
theorem zy (h:SA b s):0<=pS s.ac s.oc/\pS s.ac s.oc<b.ls.length:=by
 cases q:s.oc with
 |none=>have:=Ip Z h;exact⟨this.1,this.2.1⟩
 |some o=>have:=h.oc o q;exact⟨by show 0<=o;omega,this.2⟩
end
section
variable {b:Bd} {s:Uo} {sn:Sn} {ps:List (Nat×Mn)} {J:a9} {ρ:bx} {i:Nat} {Z:a9} {p:Uo×Sn} {k:Nat} {a:Mn}
theorem za (h:f x=lD y):aQ f [x]=lD [y]:=by unfold aQ;rw[h];rfl
theorem gw:(l++[c]).set l.length c'=l++[c']:=by simp
theorem oA (e:HS b p Z):∃Z',bK [.rf 0] Z= .ok (.fz (dS p.1)) Z'/\HS b p Z':=by
 obtain⟨ps,J,d,rfl⟩:=e;have g:=Er d;have h:jX (t6 (bv "Hand" "acts" (az 0))) [lD (.rf 0)] (dQ b p.1 p.2 ps J)= .ok ((gP p.1.ac).map fun q=>nd q.1) (dQ b p.1 p.2 ps (J++[.dead])):=by
  refine(uX (ds:=(gP p.1.ac).map fun q=>nd q.1) (HE (gR rfl) rfl (E1 d) (by rw[QV];omega)) ?_).trans ?_
  .rw[Gq d];refine aY.trans ?_;rw[RT,RT];rfl
  .rw[gw];rfl
 have j:dY (gA 0) lL (jR (am (ag (aa 0)) (am (ul (bv "Hand" "acts" (az 1)) (ag (aa 0))) aV))) ((gP p.1.ac).map fun q=>nd q.1) [QS,lD (.rf 0)] (dQ b p.1 p.2 ps (J++[.dead])) []= .ok (((gP p.1.ac).map pD).map .fz) (dQ b p.1 p.2 ps (J++[.dead])):=by refine(kR (fun q:Nat×Mn=>nd q.1) (fun q=> .fz (pD q)) _ (fun ρ=>∃o,ρ=[o,lD (.rf 0)]) (gP p.1.ac) _ [] ⟨QS,rfl⟩ (by have:=wv p.1.ac;rw[SD];omega) ?_).trans (by rw[RT];rfl);rintro q f ρ ⟨o,rfl⟩;have hm:=gn.mp f;refine⟨[-(nd q.1),lD (.rf 0)],rfl,rfl,?_,_,rfl⟩;exact rD (au (ai (af rfl)) (au (IX (gR rfl) (ai (af rfl)) rfl rfl (by rw[nj d hm.1,hm.2];rfl)) aW)) (QY rfl)
 have tp:BV sr (am (lS 1 [0] (jX (t6 (bv "Hand" "acts" (az 0)))) (gA 0) lL (jR (am (ag (aa 0)) (am (ul (bv "Hand" "acts" (az 1)) (ag (aa 0))) aV)))) aV) [lD (.rf 0)] (dQ b p.1 p.2 ps J)= .ok (.fz (.tuple ((gP p.1.ac).map pD))) (dQ b p.1 p.2 ps (J++[.dead]++[.lst (((gP p.1.ac).map pD).map .fz)])):=
  xz (au (p7 h j) aW) (za (fT aY)) rfl
 exact⟨_,jT rfl (iR (rD (au tp (au (bW rfl) (au (A3 rfl) aW))) (QY rfl))),ps,_,d,rfl⟩
theorem Gc (f:HS b p Z):cb [.rf 0,.fz (nd k)] Z= .ok (.fz (.bool (CS p.1.wt k))) Z:=by
 obtain⟨ps,J,j,rfl⟩:=f;refine jT rfl (iR ?_);cases q:p.1.wt with
 |none=>
  have d:mI (jQ p.1.wt) .none=-(.bool Q2):=by rw[q];rfl
  exact CW (bu (cL (bW rfl) (ai aA) (cg d)))
 |some x=>
  obtain⟨e,g,w⟩:=x;have d:mI (jQ p.1.wt) .none=-(.bool QW):=by rw[q];rfl
  have h:bq (jQ p.1.wt) (.int 0)=-(.tuple (bX e)):=by rw[q];exact eJ
  exact CG (bu (cL (bW rfl) (ai aA) (cg d))) (cL (ai (af rfl)) (cI (bW rfl) (ai aA) h) (cg (v5 _ _)))
theorem OC (E:HS b p Z) (n:AK p.1.ac) (ha:p.1.ac k=lD a) (F:p.2.length<1000):∃Z',jj [.rf 0,.fz (nd k)] Z= .ok (.fz .none) Z'/\HS b (go p k) Z':=by
 obtain⟨ps,J,A,rfl⟩:=E;have G:=(n k a ha).1;have lb:=(n k a ha).2;obtain⟨f,K,u⟩:=Fg A
 have l:wY (bv "Hand" "acts" (az 0)) (ag (aa 1)) [lD (.rf 0),-(nd k),QS] (dQ b p.1 p.2 ps J)= .ok (.fz (mD a)) (dQ b {p.1 with ac:=lP p.1.ac k QS} p.2 f J):=
  (JM (gR rfl) rfl (ai (af rfl)) rfl rfl (by rw[nj A G,ha];rfl)).trans (by rw[K];rfl)
 have H:go p k=({p.1 with ac:=lP p.1.ac k QS},p.2++LX (lP p.1.ac k QS) a):=by unfold go;rw[ha]
 rw[H];have m:AK (lP p.1.ac k QS):=fun j x e=>by
  by_cases z:j=k
  .subst z;rw[eR] at e;cases e
  .rw[gI z] at e;exact n j x e
 have e0:=nQ a;have N:=jm a;have g:aK (aJ cY (aJ bq (aa 2) (~~~0)) (pC (.str "letter"))) (cy [lD (.rf 0),-(nd k),-(mD a)])= .ok (a.isL,cy [lD (.rf 0),-(nd k),-(mD a)]):=by fail "ev"
 have t:Vc (cC (mn (bT (aK (aJ cY (aJ bq (aa 2) (~~~0)) (pC (.str "letter"))))) (yg (bU (bc "Hand" "has_act" bS 2 (az 0) (am (ag (aa 2)) aV))))) (b3 (tL (bv "Hand" "sent" (az 0)) (ag (bQ {aJ bq (aa 2) (~~~1),pC (.str "up")})))) cK [lD (.rf 0),-(nd k),-(mD a)] (dQ b {p.1 with ac:=lP p.1.ac k QS} p.2 f J)) (fun _ Z'=>SV.fz .none= .fz .none/\HS b ({p.1 with ac:=lP p.1.ac k QS},p.2++LX (lP p.1.ac k QS) a) Z') (fun _ _=>False) (fun r Z'=>r= .fz .none/\HS b ({p.1 with ac:=lP p.1.ac k QS},p.2++LX (lP p.1.ac k QS) a) Z'):=by
  cases q:a.isL with
  |false=>
   rw[q] at g;refine d9 (fS (bw g)) (kX ⟨rfl,f,J,u,?_⟩);have:LX (lP p.1.ac k QS) a=[]:=by cases a<;>first|rfl|cases q
   rw[this,RB]
  |true=>
   rw[q] at g;obtain⟨B,o,L⟩:=EH (p:=({p.1 with ac:=lP p.1.ac k QS},p.2)) ⟨f,J,u,rfl⟩ m lb;have v:∀h,mM (lP p.1.ac k QS) a=h->(mn (bT (aK (aJ cY (aJ bq (aa 2) (~~~0)) (pC (.str "letter"))))) (yg (bU (bc "Hand" "has_act" bS 2 (az 0) (am (ag (aa 2)) aV))))) [lD (.rf 0),-(nd k),-(mD a)] (dQ b {p.1 with ac:=lP p.1.ac k QS} p.2 f J)= .ok (!h) B:=fun h e=>by
    have o:bS [.rf 0,.fz (mD a)] (dQ b {p.1 with ac:=lP p.1.ac k QS} p.2 f J)= .ok (.fz (.bool h)) B:=by rw[<-e];exact o
    exact gf (bw g) (vG (bu (b6 (p:=({p.1 with ac:=lP p.1.ac k QS},p.2)) ⟨f,J,u,rfl⟩ (by left) rfl (au (ai (af rfl)) aW) rfl o)))
   obtain⟨w,C,y,I⟩:=L;rw[I] at v;cases q2:mM (lP p.1.ac k QS) a with
   |true=>
    refine d9 (v QW q2) (kX ⟨rfl,w,C,y,?_⟩);have:LX (lP p.1.ac k QS) a=[]:=by
     cases a<;>first|cases q|skip
     show(if mM (lP p.1.ac k QS) _=QW then _ else _)=_;rw[if_pos q2]
    rw[this,RB]
   |false=>
    cases a<;>first|cases q|skip
    rename_i c;have M:bq (mD (.RH c)) (.int 1)=-(.str (jq c)):=fU;refine rT (v Q2 q2) (iz (AM (d:=Q2) F rfl (ai (show _=Res.ok (PV.fz (.tuple [.str (jq c),.str "up"]),_) by fail "ev"))) ⟨rfl,w,C,y,?_⟩);have:LX (lP p.1.ac k QS) (.RH c)=[(c,Q2)]:=by show(if mM (lP p.1.ac k QS) _=QW then _ else _)=_;rw[if_neg (by rw[q2];simp)]
    rw[this]
 exact iX rfl (jK l rfl t)
end
section
variable {b:Bd} (Y:VB b) {s:Uo} {sn:Sn} {ps:List (Nat×Mn)} {J:a9} {ρ:bx} {i:Nat} {Z:a9} {p:Uo×Sn} {k:Nat} {a:Mn} {ks:List Nat} {g:Int} {w:Option (Nat×Int)}
theorem EW:∀(ks:List Nat) (d:List Mn),mr (bX ks) (d.map mD)=(ks.zip d).map pD
 |[],_=>by cases ‹List Mn›<;>rfl
 |_::_,[]=>rfl
 |k::r,a::t=>by show QZ.tuple [nd k,mD a]::mr (bX r) (t.map mD)=_;rw[EW r t];rfl
theorem Am (h:∀c n,w=lD (c,n)->c<26):cY (tK w) (.tuple [.str "chord"])=-(.bool w.isNone)/\nW (tK w) (.tuple [.str "chord"])=-(.bool w.isSome):=by
 cases w with
 |none=>
  have j:lQ (.tuple [.str "chord"])=QW:=by left
  have f:QZ.canLay0 (.tuple [.str "chord"])=QW:=by left
  have d:QZ.eqv (.tuple [.str "chord"]) (.tuple [.str "chord"])=QW:=by left
  constructor
  .show(if(lQ (.tuple [.str "chord"])&&QZ.canLay0 (.tuple [.str "chord"]))=QW then lD (RV.fz (.bool (QZ.eqv (.tuple [.str "chord"]) (.tuple [.str "chord"])))) else QS)=_;rw[j,f,d];rfl
  .show(if(lQ (.tuple [.str "chord"])&&QZ.canLay0 (.tuple [.str "chord"]))=QW then lD (RV.fz (.bool (!QZ.eqv (.tuple [.str "chord"]) (.tuple [.str "chord"])))) else QS)=_;rw[j,f,d];rfl
 |some l=>
  obtain⟨c,n⟩:=l;have lb:LB (.WZ c n):=h c n rfl;have e:QZ.eqv (mD (.WZ c n)) (.tuple [.str "chord"])=Q2:=by show(decide (("tap":Str)= "chord")&&QZ.eqvAll [.str (jq c),.int n] [])=Q2;rw[show decide (("tap":Str)= "chord")=Q2 by left];rfl
  constructor
  .show(if(lQ (mD (.WZ c n))&&QZ.canLay0 (.tuple [.str "chord"]))=QW then lD (RV.fz (.bool (QZ.eqv (mD (.WZ c n)) (.tuple [.str "chord"])))) else QS)=_;rw[D1 lb,show QZ.canLay0 (.tuple [.str "chord"])=QW by left,e];rfl
  .show(if(lQ (mD (.WZ c n))&&QZ.canLay0 (.tuple [.str "chord"]))=QW then lD (RV.fz (.bool (!QZ.eqv (mD (.WZ c n)) (.tuple [.str "chord"])))) else QS)=_;rw[D1 lb,show QZ.canLay0 (.tuple [.str "chord"])=QW by left,e];rfl
theorem yr (ks:List Nat) (w:Option (Nat×Int)) (d:List Mn):∀(f:List (Nat×Mn)) (p:Uo×Sn) (Z:a9) (m l:Option SV),HS b p Z->AK p.1.ac->(∀q∈f,q.1<5/\LB q.2)->p.2.length+f.length<1000->
  ∃ρ' Z',kz (OI 2 (uP (gA 4) (uP (gA 5) Gv))) (b3 (bc "Hand" "come" bB 3 (az 0) (am (ag (aa 4)) (am (ag (aa 5)) aV)))) (f.map pD) [lD (.rf 0),-(.tuple (bX ks)),-(tK w),-(.list (d.map mD)),m,l] Z= .ok (.nx ρ') Z'/\HS b (j4 p f) Z'
 |[],p,Z,m,l,hs,_,_,_=>⟨_,Z,rfl,hs⟩
 |q::r,p,Z,m,l,hs,hA,hq,hl=>by
  rw[Rg] at hl;have h:=hq q Rh;obtain⟨o,y,C⟩:=qM hs hA h.2 h.1 (by omega);have n:AK (gx p q.1 q.2).1.ac:=fun j x e=>by
   by_cases z:j=q.1
   .have A:lD q.2=lD x:=by rw[z] at e;exact(eR).symm.trans e
    cases A;exact⟨by rw[z];exact h.1,h.2⟩
   .exact hA j x ((gI z).symm.trans e)
  have:=qS (p:=p) (k:=q.1) (a:=q.2);obtain⟨ρ',Z',v,B⟩:=yr ks w d r (gx p q.1 q.2) o (-(nd q.1)) (-(mD q.2)) C n (fun x u=>hq x (Rf _ u)) (by omega);refine⟨ρ',Z',?_,B⟩
  have t:b3 (bc "Hand" "come" bB 3 (az 0) (am (ag (aa 4)) (am (ag (aa 5)) aV))) [lD (.rf 0),-(.tuple (bX ks)),-(tK w),-(.list (d.map mD)),-(nd q.1),-(mD q.2)] Z= .ok (.nx [lD (.rf 0),-(.tuple (bX ks)),-(tK w),-(.list (d.map mD)),-(nd q.1),-(mD q.2)]) o:=
   iH (b6 hs (by left) rfl (au (ai (af rfl)) (au (ai (af rfl)) aW)) rfl y)
  show((b3 (bc "Hand" "come" bB 3 (az 0) (am (ag (aa 4)) (am (ag (aa 5)) aV))) [lD (.rf 0),-(.tuple (bX ks)),-(tK w),-(.list (d.map mD)),-(nd q.1),-(mD q.2)] Z).bind _)=_;rw[t,RS.bind_ok];exact v
include Y
theorem k6 (t:HS b p Z) (m:SA b p.1) (e:p.1.wt=lD (ks,g,w)) (v:WV b p.1.ac ks g w) (I:p.2.length<900):∃Z',bZ [.rf 0] Z= .ok (.fz .none) Z'/\HS b (dA b p) Z':=by
 obtain⟨ps,J,y,rfl⟩:=t;have e0:bq (jQ p.1.wt) (.int 0)=-(.tuple (bX ks)):=by rw[e];exact eJ
 have E:bq (jQ p.1.wt) (.int 2)=-(tK w):=by rw[e];exact rq
 have o:=v.len Y;have r:=v.agF;have C:=Am fun c n h=>(v.tp c n h).1;have B:dA b p=j4 ({p.1 with wt:=QS},p.2) (ks.zip (gL b ks w)):=by unfold dA;rw[e]
 rw[B];have l:aK (aJ cY (aa 2) (pC (.tuple [.str "chord"]))) (cy [lD (.rf 0),-(.tuple (bX ks)),-(tK w),QS,QS,QS])= .ok (w.isNone,cy [lD (.rf 0),-(.tuple (bX ks)),-(tK w),QS,QS,QS]):=aZ (ay (af rfl) aA rfl rfl C.1) rfl;have j:lA (LG (bT (aK (aJ cY (aa 2) (pC (.tuple [(.str "chord")]))))) (jf fF 2 (am (bv "Hand" "bed" (az 0)) (am (ag (aa 1)) aV))) (ag (df {bQ {pC (.str "layer"),aJ bq (aa 2) (~~~2)}}))) [lD (.rf 0),-(.tuple (bX ks)),-(tK w),QS,QS,QS] (dQ b {p.1 with wt:=QS} p.2 ps J)= .ok (.fz (.list ((gL b ks w).map mD))) (dQ b {p.1 with wt:=QS} p.2 ps (J++[.dead])):=by
  cases w with
  |none=>have G:=M7 Y r o v.kn;exact(jI (HN (bw l) (u9 (au (nY rfl) (au (ai (af rfl)) aW)) rfl G)) (mV aY)).trans (by rw[gw];rfl)
  |some F=>obtain⟨c,n⟩:=F;have H:bq (tK (lD (c,n))) (.int 2)=-(.int n):=rq;exact(jI (Jn (bw l) (fy (show _=Res.ok (PV.ow [.tuple [.str "layer",.int n]],_) by fail "ev"))) (mV aY)).trans (by rw[gw];rfl)
 have lp:∃d Z',xb (nt (D8 {aa 1,aa 3})) (OI 2 (uP (gA 4) (uP (gA 5) Gv))) (b3 (bc "Hand" "come" bB 3 (az 0) (am (ag (aa 4)) (am (ag (aa 5)) aV)))) [lD (.rf 0),-(.tuple (bX ks)),-(tK w),-(.list ((gL b ks w).map mD)),QS,QS] (dQ b {p.1 with wt:=QS} p.2 ps (J++[.dead]))= .ok (.nx d) Z'/\HS b (j4 ({p.1 with wt:=QS},p.2) (ks.zip (gL b ks w))) Z':=by
  have K:=Y.n5;obtain⟨d,Z',A,z⟩:=yr ks w (gL b ks w) (ks.zip (gL b ks w)) ({p.1 with wt:=QS},p.2) (dQ b {p.1 with wt:=QS} p.2 ps (J++[.dead])) QS QS ⟨ps,_,y,rfl⟩ (SA.ak Y ⟨m.ac,m.oc⟩) (fun q u=>by
   have:=v8 Y v q u;exact⟨by omega,this.2.lb⟩) (by
   rw[abt];show p.2.length+_<1000;omega)
  refine⟨d,Z',?_,z⟩;unfold xb;rw[rd (Cq (ah (af rfl) (ah (af rfl) aD)) rfl rfl rfl),RS.bind_ok,EW];exact A
 obtain⟨d,Z',lp,f⟩:=lp;refine⟨Z',mP (ρ1:=d) rfl ?_,f⟩;exact cN (qU (cI (bW rfl) (ai aA) e0) rfl) (cN (qU (cI (bW rfl) (ai aA) E) rfl) (cN (kT QS rfl (ai aA)) (cN (qU j rfl) lp)))
omit Y in
theorem Hu {c:List Nat×Nat} (h:c.2<26):QZ.canLay0 (d7 c)=QW:=by show(QZ.canLayAll0 (bX c.1)&&(QZ.strOk (jq c.2)&&QW))=QW;rw[nK,lW h];rfl
omit Y in
theorem LZ:∀{cs:List (List Nat×Nat)},(∀c∈cs,c.2<26)->nW (.list (cs.map d7)) (.list [])=-(.bool (!cs.isEmpty)):=by
 intro cs h;have f:∀cs:List (List Nat×Nat),(∀c∈cs,c.2<26)->QZ.canLayAll0 (cs.map d7)=QW:=by
  intro cs
  induction cs with
  |nil=>exact fun _=>rfl
  |cons c r d=>intro h;show(QZ.canLay0 (d7 c)&&QZ.canLayAll0 (r.map d7))=QW;rw[Hu (h c Rh),d fun x j=>h x (Rf _ j)];rfl
 have e:∀cs:List (List Nat×Nat),QZ.depthAll (cs.map d7)<=2:=by
  intro cs
  induction cs with
  |nil=>exact RZ _
  |cons c r d=>show max (QZ.depth (d7 c)) (QZ.depthAll (r.map d7))<=2;refine afO.mpr ⟨?_,d⟩;show max (QZ.depthAll (bX c.1)+1) (max 0 0)+1<=2;rw[qQ];decide
 show(if((QZ.canLayAll0 (cs.map d7)&&decide (QZ.depthAll (cs.map d7)+1<=64))&&QW)=QW then lD (RV.fz (.bool (!QZ.eqvAll (cs.map d7) []))) else QS)=_;rw[f cs h,decide_eq_true (show QZ.depthAll (cs.map d7)+1<=64 by have:=e cs;omega)];cases cs<;>rfl
theorem Iv (h:c∈e9 b ks):c.2<26:=(Y.vc c (Tj.mp h).1).2.2.2
omit Y in
theorem Ch (h:ks≠[]) (d:ks.length<=5):db (.tuple (bX ks)) (.tuple [nd k])=-(.tuple (bX (ks++[k]))):=by
 show(if bX ks≠[]/\(bX ks).length+1<=1000000 then lD (RV.fz (.tuple (bX ks++[nd k]))) else QS)=_;rw[if_pos ⟨by cases ks with
  |nil=>exact absurd rfl h
  |cons x r=>simp[bX],by rw[gp];omega⟩,Ib]
 rfl
theorem B8 {fa:dC} {Z1:a9} (d:∃ps J,Z1=dQ b s sn ps J) (j:ρ[0]? =lD (lD (.rf 0))) (e:ks.length<=5) (f:fa ρ Z1= .ok (.fz (.tuple (bX ks))) Z1):kI nW (jf bL 2 (am (bv "Hand" "bed" (az 0)) (am fa aV))) (ag (df aw)) ρ Z1= .ok (.fz (.bool (!(e9 b ks).isEmpty))) (Z1++[.lst (((e9 b ks).map d7).map .fz)]++[.lst []]):=by obtain⟨ps,J,rfl⟩:=d;refine cL (u9 (ds:=[bD b,.tuple (bX ks)]) (au (nY j) (au f aW)) rfl (AR Y e)) (fy (ds:=[]) (ρ':=cy ρ) (oJ aD rfl (RZ _))) ?_;exact z6 (fT (eN aY)) (fT (ds:=[]) aY) (LZ fun c h=>Iv Y h)
theorem Lr (f:HS b p Z) (sw:SW b p.1) (K:(k:Int)<b.n) (hn:CS p.1.wt k=Q2):∃Z',dJ [.rf 0,.fz (nd k)] Z= .ok (.fz (.bool (FM b p.1 k))) Z'/\HS b p Z':=by
 cases q:p.1.wt with
 |none=>
  have j:FM b p.1 k=Q2:=by unfold FM;rw[q]
  rw[j];obtain⟨ps,J,d,rfl⟩:=f;have l:oU (jQ p.1.wt) .none=-(.bool QW):=by rw[q];rfl
  exact⟨_,jT rfl (oi (fx (su (bu (cL (bW rfl) (ai aA) (cg l)))) (iR (ai aA)))),ps,J,d,rfl⟩
 |some x=>
  obtain⟨ks,g,w⟩:=x;have v:=(sw.wt ks g w q).1;have E:=v.len Y;have l:oU (jQ p.1.wt) .none=-(.bool Q2):=by rw[q];rfl
  have B:bq (jQ p.1.wt) (.int 2)=-(tK w):=by rw[q];exact rq
  have e0:bq (jQ p.1.wt) (.int 0)=-(.tuple (bX ks)):=by rw[q];exact eJ
  have A:=(Am fun c n h=>(v.tp c n h).1).2;cases w with
  |some M=>
   have j:FM b p.1 k=Q2:=by unfold FM;rw[q]
   rw[j];obtain⟨ps,J,d,rfl⟩:=f;exact⟨_,jT rfl (oi (fx (mL (bu (cL (bW rfl) (ai aA) (cg l))) (su (bu (cL (cI (bW rfl) (ai aA) B) (ai aA) (cg A))))) (iR (ai aA)))),ps,J,d,rfl⟩
  |none=>
   have j:FM b p.1 k=(decide (pS p.1.ac p.1.oc=0)&& !(e9 b (ks++[k])).isEmpty):=by unfold FM;rw[q]
   rw[j];obtain⟨u,H,C⟩:=oA f;have m:(Gn (bU (kI oU (bv "Hand" "waiting" (az 0)) (ag (pC .none)))) (Gn (bU (kI nW (fY (bv "Hand" "waiting" (az 0)) (ag (~~~2))) (ag (pC (.tuple [(.str "chord")]))))) (bU (kI nW (jf dH 1 (am (bc "Hand" "stands" bK 1 (az 0) aV) aV)) (ag (~~~0)))))) [lD (.rf 0),-(nd k)] Z= .ok (!decide (pS p.1.ac p.1.oc=0)) u:=by
    have I:bU (kI nW (jf dH 1 (am (bc "Hand" "stands" bK 1 (az 0) aV) aV)) (ag (~~~0))) [lD (.rf 0),-(nd k)] Z= .ok (!decide (pS p.1.ac p.1.oc=0)) u:=
     bu (cL (zd (au (b6 f (by left) rfl aW rfl H) aW) rfl (wK p.1)) (ai aA) (cg (uQ _ _)))
    obtain⟨ps,J,d,rfl⟩:=f;exact mL (bu (cL (bW rfl) (ai aA) (cg l))) (mL (bu (cL (cI (bW rfl) (ai aA) B) (ai aA) (cg A))) I)
   by_cases z:pS p.1.ac p.1.oc=0
   .rw[decide_eq_true z] at m⊢
    obtain⟨ps,J,d,rfl⟩:=C;have t:k∉ks:=by rw[q] at hn;exact of_decide_eq_false hn
    have o:(ks++[k]).Nodup:=by rw[TY];exact⟨v.nd,Sz.mpr ⟨SJ,Wv⟩,fun x r y F e=>t (by rw[<-Rb.mp F,<-e];exact r)⟩
    have G:(ks++[k]).length<=5:=yT o fun x r=>by
     have L:=Y.n5;rcases RL.mp r with h|h
     .have:=v.kn x h;omega
     .rw[Rb.mp h];omega
    refine⟨_,jT rfl (cN (hG m gS) (iR (B8 Y ⟨ps,J,rfl⟩ rfl G (cL (cI (bW rfl) (ai aA) e0) (ai (cF (ah (af rfl) aD) rfl (QY rfl))) (cg (Ch v.ne E)))))),ps,_,d,rfl⟩
   .rw[decide_eq_false z] at m⊢;exact⟨u,jT rfl (oi (fx m (iR (ai aA)))),C⟩
end
section
variable {b:Bd} (Y:VB b) {s:Uo} {sn:Sn} {ps:List (Nat×Mn)} {J:a9} {ρ:bx} {i:Nat} {Z:a9} {p:Uo×Sn} {k:Nat} {a:Mn} {ks:List Nat} {g:Int} {w:Option (Nat×Int)}
include Y
theorem Nx (v:WV b p.1.ac ks g w) (hn:k∉ks) (l:(k:Int)<b.n):(ks++[k]).Nodup/\(ks++[k]).length<=5:=by
 have d:(ks++[k]).Nodup:=by rw[TY];exact⟨v.nd,Sz.mpr ⟨SJ,Wv⟩,fun x f y j e=>hn (by rw[<-Rb.mp j,<-e];exact f)⟩
 refine⟨d,yT d fun x f=> ?_⟩;have m:=Y.n5;rcases RL.mp f with h|h
 .have:=v.kn x h;omega
 .rw[Rb.mp h];omega
theorem An (sw:SW b p.1) (l:(k:Int)<b.n) (ha:p.1.ac k=QS) (hn:CS p.1.wt k=Q2) (hm:FM b p.1 k=QW):∃ks g,p.1.wt=lD (ks,g,QS)/\k∉ks/\WV b p.1.ac (ks++[k]) g QS/\g<b.wt:=by
 unfold FM at hm;split at hm
 .rename_i ks g q
  rw[Rx] at hm;obtain⟨v,m⟩:=sw.wt ks g QS q;have e:k∉ks:=by rw[q] at hn;exact of_decide_eq_false hn
  obtain⟨j,y⟩:=Nx Y v e l;refine⟨ks,g,q,e,⟨by simp,j,fun x d=> ?_,fun x d=> ?_,v.g0,fun c n h=>(by cases h),fun _ x d=> ?_⟩,m⟩
  .rcases RL.mp d with h|h
   .exact v.kn x h
   .rw[Rb.mp h];exact l
  .rcases RL.mp d with h|h
   .exact v.kf x h
   .rw[Rb.mp h];exact ha
  .have f:=hm.2
   cases qo:e9 b (ks++[k]) with
   |nil=>rw[qo] at f;cases f
   |cons c r=>
    have o:c∈e9 b (ks++[k]):=by rw[qo];exact Rh
    obtain⟨u,t⟩:=Tj.mp o;have:=T8.mp t x d;exact(Y.vc c u).2.2.1 x (of_decide_eq_true this)
 .cases hm
theorem Jk (n:HS b p Z) (sw:SW b p.1) (e:p.1.wt=lD (ks,g,QS)) (v:WV b p.1.ac (ks++[k]) g QS) (f:WV b p.1.ac ks g QS) (r:p.2.length<900):∃Z',dg [.rf 0,.fz (nd k)] Z= .ok (.fz .none) Z'/\HS b (v4 b p k) Z':=by
 obtain⟨ps,J,h,rfl⟩:=n;have l:=v.len Y;have e0:bq (jQ p.1.wt) (.int 0)=-(.tuple (bX ks)):=by rw[e];exact eJ
 have A:bq (jQ p.1.wt) (.int 1)=-(.int g):=by rw[e];exact fU
 have z:v4 b p k=if(e9 b (ks++[k])).map (·.1.length)=[(ks++[k]).length] then dA b ({p.1 with wt:=lD (ks++[k],g,QS)},p.2) else({p.1 with wt:=lD (ks++[k],g,QS)},p.2):=by unfold v4;rw[e]
 have E:HS b ({p.1 with wt:=lD (ks++[k],g,QS)},p.2) (dQ b {p.1 with wt:=lD (ks++[k],g,QS)} p.2 ps J):=⟨ps,J,h,rfl⟩;have B:dY (gA 0) lL (ag (g8 dk {aJ bq (aa 0) (~~~0)})) ((e9 b (ks++[k])).map d7) [QS] (dQ b {p.1 with wt:=lD (ks++[k],g,QS)} p.2 ps (J++[.dead])) []= .ok ((bX ((e9 b (ks++[k])).map (·.1.length))).map .fz) (dQ b {p.1 with wt:=lD (ks++[k],g,QS)} p.2 ps (J++[.dead])):=by
  refine(kR d7 (fun c=> .fz (nd c.1.length)) _ (fun ρ=>∃o,ρ=[o]) (e9 b (ks++[k])) _ [] ⟨QS,rfl⟩ ?_ ?_).trans (by unfold bX;rw[RT,RT];rfl)
  .have:=UL (fun c:List Nat×Nat=>(ks++[k]).all fun k=>decide (k∈c.1)) b.cs;have:=Y.c4;show 0+(e9 b (ks++[k])).length<=_;unfold e9;omega
  .rintro c _ ρ ⟨o,rfl⟩;have m:bq (d7 c) (.int 0)=-(.tuple (bX c.1)):=eJ;refine⟨[-(d7 c)],rfl,rfl,ai (d6 (ah (ay (af rfl) aA rfl rfl m) aD) rfl ((jb _).trans (by rw[gp]))),_,rfl⟩
 have y:jX (jf bL 2 (am (bv "Hand" "bed" (az 0)) (am (ag (aa 2)) aV))) [lD (.rf 0),-(nd k),-(.tuple (bX (ks++[k])))] (dQ b {p.1 with wt:=lD (ks++[k],g,QS)} p.2 ps J)= .ok ((e9 b (ks++[k])).map d7) (dQ b {p.1 with wt:=lD (ks++[k],g,QS)} p.2 ps (J++[.dead])):=
  (uX (u9 (au (nY rfl) (au (ai (af rfl)) aW)) rfl (AR Y l)) aY).trans (by rw[gw];rfl)
 have rt:df {g8 dk {aa 2}} (cy [lD (.rf 0),-(nd k),-(.tuple (bX (ks++[k])))])= .ok (.ow (bX [(ks++[k]).length]),cy [lD (.rf 0),-(nd k),-(.tuple (bX (ks++[k])))]):=by refine oJ (ah (d6 (ah (af rfl) aD) rfl ((jb _).trans (by rw[gp]))) aD) rfl (QY rfl)
 have j:bU (kI cY (lS 1 [] (jX (jf bL 2 (am (bv "Hand" "bed" (az 0)) (am (ag (aa 2)) aV)))) (gA 0) lL (ag (g8 dk {aJ bq (aa 0) (~~~0)}))) (ag (df {g8 dk {aa 2}}))) [lD (.rf 0),-(nd k),-(.tuple (bX (ks++[k])))] (dQ b {p.1 with wt:=lD (ks++[k],g,QS)} p.2 ps J)= .ok (decide ((e9 b (ks++[k])).map (·.1.length)=[(ks++[k]).length])) (dQ b {p.1 with wt:=lD (ks++[k],g,QS)} p.2 ps (J++[.dead])++[.lst ((bX ((e9 b (ks++[k])).map (·.1.length))).map .fz)]++[.lst ((bX [(ks++[k]).length]).map .fz)]):=
  bu (cL (p7 y B) (fy rt) (z6 (fT (eN aY)) (fT aY) (vC _ _)))
 have d:HS b ({p.1 with wt:=lD (ks++[k],g,QS)},p.2) (dQ b {p.1 with wt:=lD (ks++[k],g,QS)} p.2 ps (J++[.dead])++[.lst ((bX ((e9 b (ks++[k])).map (·.1.length))).map .fz)]++[.lst ((bX [(ks++[k]).length]).map .fz)]):=⟨ps,_,h,rfl⟩;generalize (dQ b {p.1 with wt:=lD (ks++[k],g,QS)} p.2 ps (J++[.dead])++[.lst ((bX ((e9 b (ks++[k])).map (·.1.length))).map .fz)]++[.lst ((bX [(ks++[k]).length]).map .fz)]:a9)=Z3 at j d;rw[z];refine iX rfl (jK (cL (cI (bW rfl) (ai aA) e0) (ai (cF (ah (af rfl) aD) rfl (QY rfl))) (cg (Ch f.ne (f.len Y)))) rfl (BM (kT (lD (ks++[k],g,QS)) rfl (rD (au (ai (af rfl)) (au (cI (bW rfl) (ai aA) A) (au (ai aA) aW))) (QY rfl))) (xA j (fun q=> ?_) fun q=> ?_)))
 .rw[if_pos (of_decide_eq_true q)];obtain⟨C,u,t⟩:=k6 Y d ⟨sw.sa.ac,sw.sa.oc⟩ rfl v r;exact iz (b6 d (by left) rfl aW rfl u) ⟨rfl,t⟩
 .rw[if_neg (of_decide_eq_false q)];exact kX ⟨rfl,d⟩
theorem Jv (sw:SW b p.1) (d:p.1.wt=lD (ks,g,QS)) (v:WV b p.1.ac (ks++[k]) g QS) (f:g<b.wt):SW b (v4 b p k).1:=by
 have h:v4 b p k=if(e9 b (ks++[k])).map (·.1.length)=[(ks++[k]).length] then dA b ({p.1 with wt:=lD (ks++[k],g,QS)},p.2) else({p.1 with wt:=lD (ks++[k],g,QS)},p.2):=by unfold v4;rw[d]
 rw[h];split
 .exact(jt Y (p:=({p.1 with wt:=lD (ks++[k],g,QS)},p.2)) ⟨sw.sa.ac,sw.sa.oc⟩ fun _ _ _ e=>by cases e;exact v).1
 .exact⟨⟨sw.sa.ac,sw.sa.oc⟩,fun _ _ _ e=>by cases e;exact⟨v,f⟩⟩
omit Y in
theorem Co (s:Uo) (m:Mn):(gJ s m).ac=s.ac/\(gJ s m).wt=s.wt:=by unfold gJ;split<;>exact⟨rfl,rfl⟩
omit Y in
theorem Be {m:Mn} (h:SA b s):SA b (gJ s m):=by
 unfold gJ;split
 .exact h
 .exact⟨h.ac,fun o e=>by cases e⟩
theorem LK (E:HS b p Z) (R:SA b p.1) (hw:p.1.wt=QS) (T:(k:Int)<b.n) (hl:p.2.length<900):∃Z',fE [.rf 0,.fz (nd k)] Z= .ok (.fz .none) Z'/\HS b (Hs b p k) Z':=by
 obtain⟨P,O⟩:=zy Y R;have K:=Ic Y P O T;obtain⟨u,I⟩:=ve Y P O T;obtain⟨Z1,h1,Wc⟩:=oA E;have h5:=Y.n5;have eb:Hs b p k=xE b (pS p.1.ac p.1.oc) (gJ p.1 (look b (pS p.1.ac p.1.oc) k),p.2) k (look b (pS p.1.ac p.1.oc) k):=rfl;rw[eb];have S:jf dH 1 (am (bc "Hand" "stands" bK 1 (az 0) aV) aV) [lD (.rf 0),-(nd k),QS,QS,QS] Z= .ok (.fz (.int (pS p.1.ac p.1.oc))) Z1:=zd (au (b6 E (by left) rfl aW rfl h1) aW) rfl (wK p.1);generalize pS p.1.ac p.1.oc=L at K u I S P O;generalize look b L k=m at K u I;obtain⟨ps,J,hp,rfl⟩:=Wc;have lb:=u.lb;have c0:=nQ m;have c1:=Om m;have c2:=MV m;have c3:=jm m;have c4:=Ig m;have eL:cY (.int L) (.int 0)=-(.bool (decide (L=0))):=gZ _ _;have A:(aX (cC (bT (aK (aJ Aq (aa 4) (bQ {pC (.str "layer"),pC (.str "once")})))) (fP "Hand" "once" (az 0) (ag (pC .none))) cK) cK) [lD (.rf 0),-(nd k),-(.int L),-(mD m),-(.str (wd m))] (dQ b p.1 p.2 ps J)= .ok (.nx [lD (.rf 0),-(nd k),-(.int L),-(mD m),-(.str (wd m))]) (dQ b (gJ p.1 m) p.2 ps J):=by
  have t:bT (aK (aJ Aq (aa 4) (bQ {pC (.str "layer"),pC (.str "once")}))) [lD (.rf 0),-(nd k),-(.int L),-(mD m),-(.str (wd m))] (dQ b p.1 p.2 ps J)= .ok (!(m.aaj||m.isO)) (dQ b p.1 p.2 ps J):=bw (by fail "ev");unfold gJ;cases q:(m.aaj||m.isO) with
  |true=>rw[q] at t;rw[if_pos rfl];exact cN (hG t gS) gS
  |false=>rw[q] at t;rw[if_neg Rc];exact cN (fx t (BO QS rfl (ai aA))) gS
 have Q:=Co p.1 m;have H:SA b (gJ p.1 m):=Be R;have e:ps.Perm (gP (gJ p.1 m).ac):=by rw[Q.1];exact hp
 have z:HS b (gJ p.1 m,p.2) (dQ b (gJ p.1 m) p.2 ps J):=⟨ps,J,e,rfl⟩;generalize gJ p.1 m=s2 at A Q H e z;have N:Vc ((cC (bT (aK (aJ cY (aa 4) (pC (.str "tap"))))) (fP "Hand" "waiting" (az 0) (ag (bQ {bQ {aa 1},~~~0,aa 3}))) (cC (mn (bT (aK (aJ cY (aa 4) (pC (.str "letter"))))) (mn (bT (aK (aJ cY (aa 2) (~~~0)))) (bU (kI nW (jf bL 2 (am (bv "Hand" "bed" (az 0)) (am (ag (bQ {aa 1})) aV))) (ag (df aw)))))) (fP "Hand" "waiting" (az 0) (ag (bQ {bQ {aa 1},~~~0,pC (.tuple [(.str "chord")])}))) (cC (bT (aK (aJ cY (aa 4) (pC (.str "once"))))) (aX (b3 (bc "Hand" "come" bB 3 (az 0) (am (ag (aa 1)) (am (ag (pC (.tuple [(.str "none")]))) aV))))
 (fP "Hand" "once" (az 0) (ag (aJ bq (aa 3) (~~~1))))) (b3 (bc "Hand" "come" bB 3 (az 0) (am (ag (aa 1)) (am (ag (aa 3)) aV))))))) [lD (.rf 0),-(nd k),-(.int L),-(mD m),-(.str (wd m))] (dQ b s2 p.2 ps J)) (fun _ Z'=>SV.fz .none= .fz .none/\HS b (xE b L (s2,p.2) k m) Z') (fun _ _=>False) (fun r Z'=>r= .fz .none/\HS b (xE b L (s2,p.2) k m) Z'):=by
  have y:∀{Z:a9},bT (aK (aJ cY (aa 4) (pC (.str "tap")))) [lD (.rf 0),-(nd k),-(.int L),-(mD m),-(.str (wd m))] Z= .ok m.isT Z:=bw (by fail "ev");have C:∀{Z:a9},bT (aK (aJ cY (aa 4) (pC (.str "letter")))) [lD (.rf 0),-(nd k),-(.int L),-(mD m),-(.str (wd m))] Z= .ok m.isL Z:=bw (by fail "ev");have B:∀{Z:a9},bT (aK (aJ cY (aa 4) (pC (.str "once")))) [lD (.rf 0),-(nd k),-(.int L),-(mD m),-(.str (wd m))] Z= .ok m.isO Z:=bw (by fail "ev");have F:∀{Z:a9},bT (aK (aJ cY (aa 2) (~~~0))) [lD (.rf 0),-(nd k),-(.int L),-(mD m),-(.str (wd m))] Z= .ok (decide (L=0)) Z:=bw (by fail "ev");have kt:∀{Z:a9},ag (bQ {aa 1}) [lD (.rf 0),-(nd k),-(.int L),-(mD m),-(.str (wd m))] Z= .ok (.fz (.tuple (bX [k]))) Z:=ai (cF (ah (af rfl) aD) rfl (QY rfl));have cm:∀{Z:a9},HS b (s2,p.2) Z->VA b.ls.length m->∃Z',b3 (bc "Hand" "come" bB 3 (az 0) (am (ag (aa 1)) (am (ag (aa 3)) aV))) [lD (.rf 0),-(nd k),-(.int L),-(mD m),-(.str (wd m))] Z= .ok (.nx [lD (.rf 0),-(nd k),-(.int L),-(mD m),-(.str (wd m))]) Z'/\HS b (gx (s2,p.2) k m) Z':=fun{Z} E va=>by obtain⟨Z',l,j⟩:=qM (k:=k) E (H.ak Y) va.lb (by omega) (show p.2.length<1000 by omega);exact⟨Z',iH (b6 E (by left) rfl (au (ai (af rfl)) (au (ai (af rfl)) aW)) rfl l),j⟩
  cases m with
  |below=>exact absurd rfl I
  |WZ c n=>refine rT y (mK (kT (lD ([k],0,lD (c,n))) rfl (ai (ρ':=cy [lD (.rf 0),-(nd k),-(.int L),-(mD (.WZ c n)),-(.str (wd (.WZ c n)))]) ?_)) ⟨rfl,ps,J,e,rfl⟩);show _=Res.ok (PV.fz (.tuple [.tuple [nd k],.int 0,mD (.WZ c n)]),_);fail "ev"
  |RH c=>
   obtain⟨d1,d2⟩:VA b.ls.length (.RH c)/\True:=⟨u,trivial⟩;by_cases G:L=0
   .rw[decide_eq_true G] at F
    have ov:=B8 Y (Z1:=dQ b s2 p.2 ps J) ⟨ps,J,rfl⟩ rfl (QY rfl) kt;have M:HS b (s2,p.2) (dQ b s2 p.2 ps J++[.lst (((e9 b [k]).map d7).map .fz)]++[.lst []]):=⟨ps,_,e,rfl⟩;have v:xE b L (s2,p.2) k (.RH c)=if(!(e9 b [k]).isEmpty)=QW then({s2 with wt:=lD ([k],0,QS)},p.2) else gx (s2,p.2) k (.RH c):=by show(if(decide (L=0)&& !(e9 b [k]).isEmpty)=QW then _ else _)=_;rw[decide_eq_true G,W6]
    rw[v];refine d9 y (xA (gf C (gf F (bu ov))) (fun q=> ?_) fun q=> ?_)
    .rw[if_pos q];refine mK (kT (lD ([k],0,QS)) rfl (ai (ρ':=cy [lD (.rf 0),-(nd k),-(.int L),-(mD (.RH c)),-(.str (wd (.RH c)))]) ?_)) ⟨rfl,ps,_,e,rfl⟩;show _=Res.ok (PV.fz (.tuple [.tuple [nd k],.int 0,.tuple [.str "chord"]]),_);fail "ev"
    .rw[if_neg (by rw[q];simp)];obtain⟨Z',l,j⟩:=cm M u;exact d9 B (mK l ⟨rfl,j⟩)
   .rw[decide_eq_false G] at F
    have v:xE b L (s2,p.2) k (.RH c)=gx (s2,p.2) k (.RH c):=by show(if(decide (L=0)&& !(e9 b [k]).isEmpty)=QW then _ else _)=_;rw[decide_eq_false G,Ux,if_neg Rc]
    rw[v];obtain⟨Z',l,j⟩:=cm z u;exact d9 y (d9 (gf C (fS F)) (d9 B (mK l ⟨rfl,j⟩)))
  |TZ n=>obtain⟨Z',l,j⟩:=cm z u;exact d9 y (d9 (fS C) (d9 B (mK l ⟨rfl,j⟩)))
  |none=>obtain⟨Z',l,j⟩:=cm z trivial;exact d9 y (d9 (fS C) (d9 B (mK l ⟨rfl,j⟩)))
  |once n=>obtain⟨Z',l,j⟩:=qM (k:=k) (a:= .none) z (H.ak Y) trivial (by omega) (show p.2.length<1000 by omega);have i1:bq (mD (.once n)) (.int 1)=-(.int n):=fU;obtain⟨X,J2,hq,rfl⟩:=j;refine d9 y (d9 (fS C) (rT B (BM (iH (b6 z (by left) rfl (au (ai (af rfl)) (au (ai aA) aW)) rfl l)) (mK (BO (lD n) rfl (ai (ρ':=cy [lD (.rf 0),-(nd k),-(.int L),-(mD (.once n)),-(.str (wd (.once n)))]) ?_)) ⟨rfl,X,J2,hq,rfl⟩))));show _=Res.ok (PV.fz (.int n),_);exact ay (rv:= .fz (.int n)) (af rfl) aA rfl rfl i1
 refine iX (ρ:=[lD (.rf 0),-(nd k),QS,QS,QS]) rfl (jK S rfl (jK (zd (ds:=[bD b,.int L,nd k]) (au (nY rfl) (au (ai (af rfl)) (au (ai (af rfl)) aW))) rfl K) rfl (jK (ai (d:= .str (wd m)) (ρ':=cy [lD (.rf 0),-(nd k),-(.int L),-(mD m),QS]) (ay (rv:= .fz (.str (wd m))) (af rfl) aA rfl rfl c0)) rfl ?_)));refine .eq ?_ N;have U:∀{f g:eT} {ρ:bx} {Z Z':a9},aX f cK ρ Z= .ok (.nx ρ) Z'->aX f g ρ Z=g ρ Z':=fun{f g ρ Z Z'} h=>by
  unfold aX at h⊢;cases q:f ρ Z with
  |bad=>rw[q] at h;cases h
  |er x o=>rw[q] at h;cases h
  |ok fl o=>
   rw[q] at h;cases fl with
   |nx r=>cases h;rfl
   |_=>cases h
 exact U A
end
section
variable {b:Bd} (Y:VB b) {s:Uo} {sn:Sn} {ps:List (Nat×Mn)} {J:a9} {ρ:bx} {i:Nat} {Z:a9} {p:Uo×Sn} {k:Nat} {a:Mn} {ks:List Nat} {g:Int} {w:Option (Nat×Int)}
include Y
omit Y in
theorem BS (h:SA b s) (d:s.wt=QS):SW b s:=⟨h,fun _ _ _ e=>by rw[d] at e;cases e⟩
theorem MY (z:SA b p.1) (K:p.1.wt=QS) (v:(k:Int)<b.n) (ha:p.1.ac k=QS):SW b (Hs b p k).1:=by
 obtain⟨G,F⟩:=zy Y z;obtain⟨d,u⟩:=ve Y G F v;have N:Hs b p k=xE b (pS p.1.ac p.1.oc) (gJ p.1 (look b (pS p.1.ac p.1.oc) k),p.2) k (look b (pS p.1.ac p.1.oc) k):=rfl;rw[N];generalize pS p.1.ac p.1.oc=L at d u G F;generalize look b L k=m at d u;have y:=Co p.1 m;have j:SA b (gJ p.1 m):=Be z;have f:=y.2.trans K;have t:(gJ p.1 m).ac k=QS:=by rw[y.1];exact ha
 generalize gJ p.1 m=s2 at j f t;have R:=Y.w1;have B:[k].Nodup:=Sz.mpr ⟨SJ,Wv⟩;have C:∀x∈[k],(x:Int)<b.n:=fun x l=>by rw[Rb.mp l];exact v
 have E:∀x∈[k],s2.ac x=QS:=fun x l=>by rw[Rb.mp l];exact t
 have cm:∀m,VA b.ls.length m->SW b (gx (s2,p.2) k m).1:=fun m H=>BS (j.cm v H) f;cases m with
 |below=>exact absurd rfl u
 |WZ c n=>refine⟨⟨j.ac,j.oc⟩,fun _ _ _ e=> ?_⟩;cases e;exact⟨⟨by simp,B,C,E,WI _,fun Q I e=>by cases e;exact⟨d.1,d.2,rfl⟩,fun e=>by cases e⟩,by omega⟩
 |RH c=>
  show SW b (if(decide (L=0)&& !(e9 b [k]).isEmpty)=QW then({s2 with wt:=lD ([k],0,QS)},p.2) else gx (s2,p.2) k (.RH c)).1;split
  .rename_i q
   refine⟨⟨j.ac,j.oc⟩,fun _ _ _ e=> ?_⟩;cases e;refine⟨⟨by simp,B,C,E,WI _,fun Q I e=>(by cases e),fun _ x l=> ?_⟩,by omega⟩;have A:=(Rx _ _▸q:_/\_).2;cases qo:e9 b [k] with
   |nil=>rw[qo] at A;cases A
   |cons c r=>
    have M:c∈e9 b [k]:=by rw[qo];exact Rh
    obtain⟨P,O⟩:=Tj.mp M;exact(Y.vc c P).2.2.1 x (of_decide_eq_true (T8.mp O x l))
  .exact cm _ d
 |TZ n=>exact cm _ d
 |none=>exact cm _ trivial
 |once n=>have h:=cm .none trivial;exact⟨⟨h.sa.ac,fun o e=>by cases e;exact d⟩,fun ks g w e=>by have e:s2.wt=lD (ks,g,w):=e;rw[f] at e;cases e⟩
theorem SW.wd (h:SW b s):WD b s:=fun ks g w e=>(h.wt ks g w e).1
omit Y in
theorem yL (d:List (Nat×Mn)):∀{p:Uo×Sn},p.1.ac k=QS->k∉d.map (·.1)->(j4 p d).1.ac k=QS:=by
 induction d with
 |nil=>exact fun h _=>h
 |cons q r e=>intro p h hn;rw[Ri,Rv,not_or] at hn;exact e (p:=gx p q.1 q.2) ((gI hn.1).trans h) hn.2
omit Y in
theorem zH (ha:p.1.ac k=QS) (hn:CS p.1.wt k=Q2):(dA b p).1.ac k=QS:=by
 unfold dA;split
 .exact ha
 .rename_i ks g w q;refine yL _ (p:=({p.1 with wt:=QS},p.2)) ha fun z=> ?_;rw[q] at hn;obtain⟨x,d,rfl⟩:=RA.mp z;exact of_decide_eq_false hn (U1 d).1
theorem Ey (sw:SW b p.1) (e:(k:Int)<b.n):SW b (mY b p k).1:=by
 unfold mY;split
 .exact sw
 .rename_i q
  rw[U3,not_or] at q;have ha:p.1.ac k=QS:=by
   cases z:p.1.ac k with
   |none=>rfl
   |some x=>rw[z] at q;exact absurd rfl q.1
  have hn:CS p.1.wt k=Q2:=by
   cases z:CS p.1.wt k with
   |false=>rfl
   |true=>exact absurd z q.2
  split
  .rename_i f;obtain⟨ks,g,l,m,j,h⟩:=An Y sw e ha hn f;exact Jv Y sw l j h
  .have d:=jt Y sw.sa (SW.wd Y sw);exact MY Y d.1.sa d.2.1 e (zH ha hn)
theorem EX (f:HS b p Z) (sw:SW b p.1) (A:(k:Int)<b.n) (P:p.2.length<800):∃Z',g7 [.rf 0,.fz (nd k)] Z= .ok (.fz .none) Z'/\HS b (mY b p k) Z':=by
 have Q:=Y.n5;have y:k<5:=by omega
 have N:Gn (bU (wZ Q2 (ag (aa 1)) (bv "Hand" "acts" (az 0)))) (bU (bc "Hand" "is_waiting" cb 2 (az 0) (am (ag (aa 1)) aV))) [lD (.rf 0),-(nd k)] Z= .ok ((p.1.ac k).isSome||CS p.1.wt k) Z:=by
  have H:=b6 (ρ:=[lD (.rf 0),-(nd k)]) (i:=0) (m:= "is_waiting") (fa:=am (ag (aa 1)) aV) f (by left) rfl (au (ai (af rfl)) aW) rfl (Gc f);obtain⟨ps,J,v,rfl⟩:=f
  have t:wZ Q2 (ag (aa 1)) (bv "Hand" "acts" (az 0)) [lD (.rf 0),-(nd k)] (dQ b p.1 p.2 ps J)= .ok (.fz (.bool (p.1.ac k).isSome)) (dQ b p.1 p.2 ps J):=
   (zV (ai (af rfl)) (gR rfl) rfl rfl).trans (by rw[show jJ (ps.map ke) (.inl (k:Int))=_ from nj v y];cases p.1.ac k<;>rfl)
  cases q:(p.1.ac k).isSome with
  |true=>rw[q] at t;rw[Uz];exact su (bu t)
  |false=>rw[q] at t;rw[VJ];exact mL (bu t) (bu H)
 refine iX rfl (xP N (fun q=> ?_) fun q=>nw ?_)
 .unfold mY;rw[if_pos q];exact wl ⟨rfl,f⟩
 rw[ZR] at q;have ha:p.1.ac k=QS:=by
  cases z:p.1.ac k with
  |none=>rfl
  |some x=>rw[z] at q;exact absurd q.1 (by simp)
 have K:mY b p k=if FM b p.1 k=QW then v4 b p k else Hs b (dA b p) k:=by unfold mY;rw[if_neg (by rw[q.1,q.2];simp)]
 rw[K];obtain⟨O,G,e⟩:=Lr Y f sw A q.2;refine xP (bu (b6 f (by left) rfl (au (ai (af rfl)) aW) rfl G)) (fun o=> ?_) fun o=>nw ?_
 .rw[if_pos o];obtain⟨ks,g,h,S,M,R⟩:=An Y sw A ha q.2 o;obtain⟨j,B,l⟩:=Jk Y e sw h M (sw.wt _ _ _ h).1 (by omega);exact Ny (lg (b6 e (by left) rfl (au (ai (af rfl)) aW) rfl B) (wl ⟨rfl,l⟩))
 .rw[if_neg (by rw[o];simp)]
  have d:=jt Y sw.sa (SW.wd Y sw);have E:∀j,HS b (dA b p) j->Vc (b3 (bc "Hand" "begin" fE 2 (az 0) (am (ag (aa 1)) aV)) [lD (.rf 0),-(nd k)] j) (fun _ Z'=>SV.fz .none= .fz .none/\HS b (Hs b (dA b p) k) Z') (fun _ _=>False) (fun r Z'=>r= .fz .none/\HS b (Hs b (dA b p) k) Z'):=fun j l=>by obtain⟨T,I,u⟩:=LK Y l d.1.sa d.2.1 A (by have:=d.2.2.1;omega);exact iz (b6 l (by left) rfl (au (ai (af rfl)) aW) rfl I) ⟨rfl,u⟩
  cases qw:p.1.wt with
  |none=>
   have L:dA b p=p:=by unfold dA;rw[qw]
   have h:mI (jQ p.1.wt) .none=-(.bool Q2):=by rw[qw];rfl
   have C:=E O (by rw[L];exact e);obtain⟨ps,J,v,rfl⟩:=e;exact qY (bu (cL (bW rfl) (ai aA) (cg h))) (nw C)
  |some x=>
   obtain⟨ks,g,w⟩:=x;have h:mI (jQ p.1.wt) .none=-(.bool QW):=by rw[qw];rfl
   obtain⟨j,B,l⟩:=k6 Y e sw.sa qw (sw.wt _ _ _ qw).1 (by omega);have F:=b6 (ρ:=[lD (.rf 0),-(nd k)]) (i:=0) (m:= "decide") e (by left) rfl aW rfl B;obtain⟨ps,J,v,rfl⟩:=e;exact u0 (bu (cL (bW rfl) (ai aA) (cg h))) (lg F (E j l))
theorem oo (sw:SW b p.1) (e:CS p.1.wt k=QW):SW b (dB b p k).1/\(dB b p k).2.length<=p.2.length+5:=by
 unfold dB;split
 .have d:=jt Y sw.sa (SW.wd Y sw);exact⟨d.1,d.2.2.1⟩
 .rename_i ks g c n q;have v:=(sw.wt _ _ _ q).1;rw[q] at e;have f:=v.kn k (of_decide_eq_true e);have h:=(v.tp c n rfl).1;refine⟨BS (SA.cm ⟨sw.sa.ac,sw.sa.oc⟩ f h) rfl,?_⟩;have:=qS (p:=({p.1 with wt:=QS},p.2)) (k:=k) (a:= .RH c);have:(gx ({p.1 with wt:=QS},p.2) k (.RH c)).2.length<=p.2.length+1:=this;omega
 .exact⟨sw,abr _ _⟩
theorem jv (e:HS b p Z) (sw:SW b p.1) (d:CS p.1.wt k=QW) (G:p.2.length<800):∃Z',gh [.rf 0,.fz (nd k)] Z= .ok (.fz .none) Z'/\HS b (dB b p k) Z':=by
 have I:=Y.n5;cases q:p.1.wt with
 |none=>rw[q] at d;cases d
 |some x=>
  obtain⟨ks,g,w⟩:=x;have v:=(sw.wt _ _ _ q).1;have f:k∈ks:=by rw[q] at d;exact of_decide_eq_true d
  have u:bq (jQ p.1.wt) (.int 2)=-(tK w):=by rw[q];exact rq
  have C:=(Am fun c n h=>(v.tp c n h).1).1;have r:∀{Z:a9},bT (aK (aJ cY (aa 2) (pC (.tuple [.str "chord"])))) [lD (.rf 0),-(nd k),-(tK w)] Z= .ok w.isNone Z:=bw (aZ (ay (af rfl) aA rfl rfl C) rfl);cases w with
  |none=>
   have l:dB b p k=dA b p:=by unfold dB;rw[q]
   rw[l];obtain⟨F,j,o⟩:=k6 Y e sw.sa q v (by omega);have z:=b6 (ρ:=[lD (.rf 0),-(nd k),-(tK QS)]) (i:=0) (m:= "decide") e (by left) rfl aW rfl j;obtain⟨ps,J,t,rfl⟩:=e;exact iX rfl (jK (cI (bW rfl) (ai aA) u) rfl (rT r (iz z ⟨rfl,o⟩)))
  |some E=>
   obtain⟨c,n⟩:=E;have l:dB b p k=gx ({p.1 with wt:=QS},p.2) k (.RH c):=by unfold dB;rw[q]
   rw[l];have B:=(v.tp c n rfl).1;have H:=v.kn k f;obtain⟨ps,J,t,rfl⟩:=e;have y:HS b ({p.1 with wt:=QS},p.2) (dQ b {p.1 with wt:=QS} p.2 ps J):=⟨ps,J,t,rfl⟩;obtain⟨F,j,o⟩:=qM (k:=k) (a:= .RH c) y (SA.ak Y ⟨sw.sa.ac,sw.sa.oc⟩) B (by omega) (show p.2.length<1000 by omega);have A:bq (tK (lD (c,n))) (.int 1)=-(.str (jq c)):=fU;exact iX rfl (jK (cI (bW rfl) (ai aA) u) rfl (d9 r (BM (kT QS rfl (ai aA)) (iz (b6 y (by left) rfl (au (ai (af rfl)) (au (ai (cF (ah aA (ah (ay (af rfl) aA rfl rfl A) aD)) rfl (QY rfl))) aW)) rfl j) ⟨rfl,o⟩))))
omit Y in
theorem Kw (sw:SW b p.1):SW b (go p k).1:=by
 refine⟨sw.sa.gg,?_⟩;unfold go;split
 .intro ks g w e;obtain⟨v,f⟩:=sw.wt ks g w e;exact⟨⟨v.ne,v.nd,v.kn,fun x d=>by
   by_cases z:x=k
   .rw[z];exact eR
   .exact(gI z).trans (v.kf x d),v.g0,v.tp,v.ch⟩,f⟩
 .exact sw.wt
theorem IM (sw:SW b p.1):SW b (xX b p k).1:=by
 unfold xX;split
 .rename_i q;exact Kw (oo Y sw q).1
 .exact Kw sw
theorem JC (d:HS b p Z) (sw:SW b p.1) (A:(k:Int)<b.n) (l:p.2.length<700):∃Z',iG [.rf 0,.fz (nd k)] Z= .ok (.fz .none) Z'/\HS b (xX b p k) Z':=by
 have B:=Y.n5;have f:k<5:=by omega
 have e:∀{p:Uo×Sn} {Z:a9},HS b p Z->SW b p.1->p.2.length<800->Vc (cC (bU (wZ Q2 (ag (aa 1)) (bv "Hand" "acts" (az 0)))) (b3 (bc "Hand" "go" jj 2 (az 0) (am (ag (aa 1)) aV))) cK [lD (.rf 0),-(nd k)] Z) (fun _ Z'=>SV.fz .none= .fz .none/\HS b (go p k) Z') (fun _ _=>False) (fun r Z'=>r= .fz .none/\HS b (go p k) Z'):=fun{p Z} d sw l=>by
  cases qa:p.1.ac k with
  |none=>
   have u:go p k=p:=by unfold go;rw[qa]
   rw[u];obtain⟨ps,J,h,rfl⟩:=d;refine d9 (bu ((zV (ai (af rfl)) (gR rfl) rfl rfl).trans (by rw[show jJ (ps.map ke) (.inl (k:Int))=_ from nj h f,qa];rfl))) (kX ⟨rfl,ps,J,h,rfl⟩)
  |some a=>obtain⟨C,o,v⟩:=OC d (sw.sa.ak Y) qa (by omega);have j:=b6 (ρ:=[lD (.rf 0),-(nd k)]) (i:=0) (m:= "go") (fa:=am (ag (aa 1)) aV) d (by left) rfl (au (ai (af rfl)) aW) rfl o;obtain⟨ps,J,h,rfl⟩:=d;exact rT (bu ((zV (ai (af rfl)) (gR rfl) rfl rfl).trans (by rw[show jJ (ps.map ke) (.inl (k:Int))=_ from nj h f,qa];rfl))) (iz j ⟨rfl,v⟩)
 refine iX rfl (xP (bu (b6 d (by left) rfl (au (ai (af rfl)) aW) rfl (Gc d))) (fun q=> ?_) fun q=> ?_)
 .unfold xX;rw[if_pos q];obtain⟨E,t,y⟩:=jv Y d sw q (by omega);have z:=oo Y sw q;exact lg (b6 d (by left) rfl (au (ai (af rfl)) aW) rfl t) (e y z.1 (by omega))
 .unfold xX;rw[if_neg (by rw[q];simp)];exact nw (e d sw (by omega))
theorem HI (sw:SW b p.1):SW b (lJ b p).1:=by
 unfold lJ;split
 .exact sw
 .rename_i ks g w q
  obtain⟨v,f⟩:=sw.wt ks g w q;have d:WV b p.1.ac ks (g+1) w:=⟨v.ne,v.nd,v.kn,v.kf,by have:=v.g0;omega,v.tp,v.ch⟩;split
  .exact(jt Y (p:=({p.1 with wt:=lD (ks,g+1,w)},p.2)) ⟨sw.sa.ac,sw.sa.oc⟩ fun _ _ _ e=>by cases e;exact d).1
  .rename_i h;exact⟨⟨sw.sa.ac,sw.sa.oc⟩,fun _ _ _ e=>by cases e;exact⟨d,by omega⟩⟩
theorem JY (l:HS b p Z) (sw:SW b p.1) (u:p.2.length<800):∃Z',fK [.rf 0] Z= .ok (.fz .none) Z'/\HS b (lJ b p) Z':=by
 obtain⟨ps,J,h,rfl⟩:=l;cases q:p.1.wt with
 |none=>
  have d:lJ b p=p:=by unfold lJ;rw[q]
  rw[d];have e:oU (jQ p.1.wt) .none=-(.bool QW):=by rw[q];rfl
  exact iX rfl (u0 (bu (cL (bW rfl) (ai aA) (cg e))) (wl ⟨rfl,ps,J,h,rfl⟩))
 |some x=>
  obtain⟨ks,g,w⟩:=x;have v:=(sw.wt _ _ _ q).1;have j:WV b p.1.ac ks (g+1) w:=⟨v.ne,v.nd,v.kn,v.kf,by have:=v.g0;omega,v.tp,v.ch⟩;have d:lJ b p=if g+1=b.wt then dA b ({p.1 with wt:=lD (ks,g+1,w)},p.2) else({p.1 with wt:=lD (ks,g+1,w)},p.2):=by unfold lJ;rw[q]
  rw[d];have e:oU (jQ p.1.wt) .none=-(.bool Q2):=by rw[q];rfl
  have e0:bq (jQ p.1.wt) (.int 0)=-(.tuple (bX ks)):=by rw[q];exact eJ
  have r:bq (jQ p.1.wt) (.int 2)=-(tK w):=by rw[q];exact rq
  have o:bq (jQ p.1.wt) (.int 1)=-(.int g):=by rw[q];exact fU
  have n:bq (bD b) (.int 3)=-(.int b.wt):=Fi rfl;have f:HS b ({p.1 with wt:=lD (ks,g+1,w)},p.2) (dQ b {p.1 with wt:=lD (ks,g+1,w)} p.2 ps J):=⟨ps,J,h,rfl⟩;refine iX rfl (qY (bu (cL (bW rfl) (ai aA) (cg e))) (nw (jK (cL (cI (bW rfl) (ai aA) o) (ai aA) (cg (fA _ _))) rfl (BM (kT (lD (ks,g+1,w)) rfl (rD (au (cI (bW rfl) (ai aA) e0) (au (ai (af rfl)) (au (cI (bW rfl) (ai aA) r) aW))) (QY rfl))) (xA (bu (cL (ai (af rfl)) (cI (nY rfl) (ai aA) n) (cg (gZ _ _)))) (fun z=> ?_) fun z=> ?_)))))
  .rw[if_pos (of_decide_eq_true z)];obtain⟨y,m,t⟩:=k6 Y f ⟨sw.sa.ac,sw.sa.oc⟩ rfl j (show p.2.length<900 by omega);exact iz (b6 f (by left) rfl aW rfl m) ⟨rfl,t⟩
  .rw[if_neg (of_decide_eq_false z)];exact kX ⟨rfl,f⟩
def W0.aaZ:W0->Bool
 | .turn=>QW
 |_=>Q2
def W0.isDown:W0->Bool
 | .down _=>QW
 |_=>Q2
def EV (b:Bd):W0->Prop
 | .down k=>(k:Int)<b.n
 | .up k=>(k:Int)<b.n
 | .turn=>True
theorem A1 (sw:SW b s) (d:EV b e):SW b (bA b s e).1:=by
 cases e with
 |down k=>exact Ey Y sw d
 |up k=>exact IM Y sw
 |turn=>exact HI Y sw
omit Y in
theorem uJ:∀l:List (Nat×Mn),aQ sG (l.map pD)=lD (l.map ke)
 |[]=>rfl
 |q::r=>by rw[Ri];unfold aQ;rw[uJ r];rfl
omit Y in
theorem yq:∀(l d:List (Nat×Mn)),((d++l).map (·.1)).Nodup->mB (d.map ke) (l.map ke)=(d++l).map ke
 |[],d,_=>by rw[RB];rfl
 |q::r,d,h=>by
  have hn:∀x∈d,x.1≠q.1:=fun x f e=>by rw[RD,TY] at h;exact h.2.2 _ (RA.mpr ⟨x,f,rfl⟩) q.1 Rh e
  have o:jZ (d.map ke) (ke q).1 (ke q).2=(d++[q]).map ke:=by
   unfold jZ;rw[if_neg ?_,RD]
   .rfl
   .intro z;obtain⟨t,n,m⟩:=UO.mp z;obtain⟨x,j,rfl⟩:=RA.mp n;have:=Sum.inl.inj (of_decide_eq_true m);exact hn x j (by omega)
  show mB (jZ (d.map ke) (ke q).1 (ke q).2) (r.map ke)=_;rw[o,yq r (d++[q]) (by rw[RJ];exact h),RJ];rfl
omit Y in
theorem IT:dM [.rf 0,.fz (bD b),.fz (dS s)] [.obj "Hand" []]= .ok (.fz .none) (dQ b s [] (gP s.ac) []):=by
 have e0:bq (dS s) (.int 0)=-(.tuple ((gP s.ac).map pD)):=eJ;have y:bq (dS s) (.int 1)=-(jQ s.wt):=fU;have v:bq (dS s) (.int 2)=-(tF s.oc):=rq;have z:eP "bed" (.fz (bD b)) []=([("bed",.fz (bD b))]:List (Str×SV)):=rfl;have q:eP "acts" (.rf 1) ([("bed",.fz (bD b))]:List (Str×SV))=([("bed",.fz (bD b)),("acts",.rf 1)]:List (Str×SV)):=by unfold eP;rw[if_neg (by left)];rfl
 have o:eP "waiting" (.fz (jQ s.wt)) ([("bed",.fz (bD b)),("acts",.rf 1)]:List (Str×SV))=([("bed",.fz (bD b)),("acts",.rf 1),("waiting",.fz (jQ s.wt))]:List (Str×SV)):=by unfold eP;rw[if_neg (by left)];unfold eP;rw[if_neg (by left)];rfl
 have n:eP "once" (.fz (tF s.oc)) ([("bed",.fz (bD b)),("acts",.rf 1),("waiting",.fz (jQ s.wt))]:List (Str×SV))=([("bed",.fz (bD b)),("acts",.rf 1),("waiting",.fz (jQ s.wt)),("once",.fz (tF s.oc))]:List (Str×SV)):=by unfold eP;rw[if_neg (by left)];unfold eP;rw[if_neg (by left)];unfold eP;rw[if_neg (by left)];rfl
 have m:eP "sent" (.rf 2) ([("bed",.fz (bD b)),("acts",.rf 1),("waiting",.fz (jQ s.wt)),("once",.fz (tF s.oc))]:List (Str×SV))=uq b s:=by unfold eP;rw[if_neg (by left)];unfold eP;rw[if_neg (by left)];unfold eP;rw[if_neg (by left)];unfold eP;rw[if_neg (by left)];rfl
 have r:mB [] ((gP s.ac).map ke)=(gP s.ac).map ke:=yq (gP s.ac) [] (rm s.ac);have e:∀{x:SV} {ρ:bx} {fs:List (Str×SV)} {Z:a9} {j:dC} {f:Str} {c:Cell} {l:a9},ρ[0]? =lD (lD (.rf 0))->j ρ Z= .ok x (.obj "Hand" fs::l)->fs.length<100->fP "Hand" f (az 0) j ρ Z= .ok (.nx ρ) (.obj "Hand" (eP f x fs)::l):=fun h u t=>(oK u (bJ h) rfl t).trans rfl
 have ha:wP (ag (aJ bq (aa 2) (~~~0))) [lD (.rf 0),-(bD b),-(dS s)] [.obj "Hand" ([("bed",.fz (bD b))]:List (Str×SV))]= .ok (.rf 1) [.obj "Hand" ([("bed",.fz (bD b))]:List (Str×SV)),.Xd ((gP s.ac).map ke)]:=
  (Ij (ai (d:= .tuple ((gP s.ac).map pD)) (ay (rv:= .fz (.tuple ((gP s.ac).map pD))) (af rfl) aA rfl rfl e0)) (uJ _)).trans (by rw[r];rfl)
 refine mP (ρ:=[lD (.rf 0),-(bD b),-(dS s)]) (ρ1:=[lD (.rf 0),-(bD b),-(dS s)]) rfl (cN (e rfl (c:= .dead) (ai (d:=bD b) (af rfl)) (QY rfl)) (cN (e rfl (c:= .dead) ha (QY rfl)) (cN (e rfl (c:= .dead) (ai (d:=jQ s.wt) (ay (rv:= .fz (jQ s.wt)) (af rfl) aA rfl rfl y)) (QY rfl)) (cN (e rfl (c:= .dead) (ai (d:=tF s.oc) (ay (rv:= .fz (tF s.oc)) (af rfl) aA rfl rfl v)) (QY rfl)) ?_))));rw[q,o,n];refine(e (fs:=([("bed",.fz (bD b)),("acts",.rf 1),("waiting",.fz (jQ s.wt)),("once",.fz (tF s.oc))]:List (Str×SV))) rfl (c:= .dead) (fy (ds:=[]) (oJ aD rfl (RZ _))) (QY rfl)).trans ?_;show RS.ok _ (Cell.obj "Hand" (eP "sent" (.rf 2) ([("bed",.fz (bD b)),("acts",.rf 1),("waiting",.fz (jQ s.wt)),("once",.fz (tF s.oc))]:List (Str×SV)))::_)=_;rw[m];rfl
omit Y in
theorem HG (e:W0):∃x:Str,bq (eG e) (.int 0)=-(.str x)/\cY (.str x) (.str "turn")=-(.bool (e.aaZ))/\cY (.str x) (.str "down")=-(.bool (e.isDown)):=by
 have f:QZ.strOk "down"=QW:=by left
 have h:QZ.strOk "up"=QW:=by left
 have d:QZ.strOk "turn"=QW:=by left
 cases e with
 |down k=>exact⟨"down",eJ,B1 f d (by left),K3 f⟩
 |up k=>exact⟨"up",eJ,B1 h d (by left),B1 h f (by left)⟩
 |turn=>exact⟨"turn",eJ,K3 d,B1 d f (by left)⟩
theorem A8 (sw:SW b s) (u:EV b e):∃Z',dD [.fz (bD b),.fz (dS s),.fz (eG e)] []= .ok (.tp [.rf 2,.fz (dS (bA b s e).1)]) Z'/\sh Z' (.rf 2)=lD (.list ((bA b s e).2.map iu)):=by
 have d:HS b (s,[]) (dQ b s [] (gP s.ac) []):=⟨gP s.ac,[],.refl _,rfl⟩;obtain⟨x,q,y,v⟩:=HG e;have l:∀{Z:a9},bT (aK (aJ cY (aJ bq (aa 2) (~~~0)) (pC (.str "turn")))) [-(bD b),-(dS s),-(eG e),lD (.rf 0)] Z= .ok (e.aaZ) Z:=bw (aZ (ay (ay (af rfl) aA rfl rfl q) aA rfl rfl y) rfl);have t:∀{Z:a9},bT (aK (aJ cY (aJ bq (aa 2) (~~~0)) (pC (.str "down")))) [-(bD b),-(dS s),-(eG e),lD (.rf 0)] Z= .ok (e.isDown) Z:=bw (aZ (ay (ay (af rfl) aA rfl rfl q) aA rfl rfl v) rfl);have h:∀{Z:a9},HS b (bA b s e) Z->Vc (gU (jR (am (bv "Hand" "sent" (az 3)) (am (bc "Hand" "stands" bK 1 (az 3) aV) aV))) [-(bD b),-(dS s),-(eG e),lD (.rf 0)] Z) (fun _ Z'=>SV.fz .none= .tp [.rf 2,.fz (dS (bA b s e).1)]/\sh Z' (.rf 2)=lD (.list ((bA b s e).2.map iu))) (fun _ _=>False) (fun r Z'=>r= .tp [.rf 2,.fz (dS (bA b s e).1)]/\sh Z' (.rf 2)=lD (.list ((bA b s e).2.map iu))):=fun{Z} hs=>by obtain⟨o,f,j⟩:=oA hs;have m:=b6 (ρ:=[-(bD b),-(dS s),-(eG e),lD (.rf 0)]) (i:=3) (m:= "stands") hs (by left) rfl aW rfl f;obtain⟨ps,J,C,rfl⟩:=hs;obtain⟨A,E,B,rfl⟩:=j;exact Lz (Cc (au (vt rfl) (au m aW)) (QY rfl) rfl rfl) ⟨rfl,fT rfl⟩
 have z:uE "Hand" dM 3 (am (ag (aa 0)) (am (ag (aa 1)) aV)) [-(bD b),-(dS s),-(eG e),QS] []= .ok (.rf 0) (dQ b s [] (gP s.ac) []):=Lj (au (ai (af rfl)) (au (ai (af rfl)) aW)) rfl IT;refine iX rfl (jK z rfl ?_);cases e with
 |turn=>obtain⟨o,f,j⟩:=JY Y d sw (show 0<800 by decide);exact u0 l (lg (b6 d (by left) rfl aW rfl f) (h j))
 |down k=>obtain⟨o,f,j⟩:=EX Y d sw u (show 0<800 by decide);have n:bq (eG (.down k)) (.int 1)=-(nd k):=fU;exact qY l (u0 t (lg (b6 d (by left) rfl (au (ai (ay (af rfl) aA rfl rfl n)) aW) rfl f) (h j)))
 |up k=>obtain⟨o,f,j⟩:=JC Y d sw u (show 0<700 by decide);have n:bq (eG (.up k)) (.int 1)=-(nd k):=fU;exact qY l (qY t (lg (b6 d (by left) rfl (au (ai (ay (af rfl) aA rfl rfl n)) aW) rfl f) (h j)))
theorem KM {e:W0} (sw:SW b s) (d:EV b e):Od dD [bD b,dS s,eG e]= .ok (.fz (.tuple [.list ((bA b s e).2.map iu),dS (bA b s e).1])):=by obtain⟨j,h,f⟩:=A8 Y sw d;unfold Od;rw[show[bD b,dS s,eG e].map SV.fz=[.fz (bD b),.fz (dS s),.fz (eG e)] from rfl,h];dsimp only;unfold aQ;rw[show Pv j (.rf 2)=lD (.list ((bA b s e).2.map iu)) from f];rfl
theorem GJ {e:W0} (sw:SW b s) (h:EV b e):t7 dD 3 [.fz (bD b),.fz (dS s),.fz (eG e)] Z= .ok (.tp [.rf Z.length,.fz (dS (bA b s e).1)]) (Z++[.lst (((bA b s e).2.map iu).map .fz)]):=by
 obtain⟨d,l,j⟩:=A8 Y sw h;unfold t7;rw[if_pos (show([.fz (bD b),.fz (dS s),.fz (eG e)]:List SV).length=3 from rfl),show aQ wF [.fz (bD b),.fz (dS s),.fz (eG e)]=lD [bD b,dS s,eG e] from rfl];dsimp only;rw[show[bD b,dS s,eG e].map SV.fz=[.fz (bD b),.fz (dS s),.fz (eG e)] from rfl,l];show(match Dx d Z.length [.rf 2,.fz (dS (bA b s e).1)] with
  |some (l',cs,js)=>if js.Nodup then RS.ok (SV.tp l') (Z++cs.map Py) else .bad
  |none=> .bad)=_
 have f:Dx d Z.length [.rf 2,.fz (dS (bA b s e).1)]=lD ([.rf Z.length,.fz (dS (bA b s e).1)],[(bA b s e).2.map iu],[2]):=by unfold Dx;rw[j];rfl
 rw[f];dsimp only;rw[if_pos (by decide)];rfl
end
def LS:Uo:=⟨fun _=>QS,QS,QS⟩
theorem k9 (b:Bd):SW b LS:=⟨⟨fun k a e=>(by cases e),fun o e=>(by cases e)⟩,fun d g w e=>(by cases e)⟩
theorem Cu {α:Type} {f:α->D}:∀{l:List α},(∀a∈l,QZ.canLay0 (f a)=QW)->QZ.canLayAll0 (l.map f)=QW
 |[],_=>rfl
 |a::r,h=>by show(QZ.canLay0 (f a)&&QZ.canLayAll0 (r.map f))=QW;rw[h a Rh,Cu fun x b=>h x (Rf _ b)];rfl
theorem vP {α:Type} {f:α->D} {n:Nat}:∀{l:List α},(∀a∈l,QZ.depth (f a)<=n)->QZ.depthAll (l.map f)<=n
 |[],_=>RZ _
 |a::r,h=>afO.mpr ⟨h a Rh,vP fun x b=>h x (Rf _ b)⟩
theorem La {d:D} (b:QZ.canLay0 d=QW) (a:QZ.depth d<=64):lQ d=QW:=by unfold lQ;rw[b,decide_eq_true a];rfl
theorem nX {d:D} (h:lQ d=QW):QZ.canLay0 d=QW:=by unfold lQ at h;exact(Rx _ _▸h:_/\_).1
theorem qK {d:D} (h:lQ d=QW):nW d d=-(.bool Q2):=by unfold nW;rw[h,nX h,Tb,if_pos rfl,Uv d (nX h)];rfl
theorem HA {d:D} (h:lQ d=QW):cY d d=-(.bool QW):=by unfold cY;rw[h,nX h,Tb,if_pos rfl,Uv d (nX h)]
def UZ (sn:Sn):Prop:=∀q∈sn,q.1<26
theorem Kc {q:Nat×Bool} (h:q.1<26):QZ.canLay0 (iu q)=QW:=by show(QZ.strOk (jq q.1)&&(QZ.strOk (if q.2=QW then "down" else "up")&&QW))=QW;rw[lW h];cases q.2<;>left
theorem IG (q:Nat×Bool):QZ.depth (iu q)<=1:=QY rfl
theorem zc {sn:Sn} (h:UZ sn):lQ (.list (sn.map iu))=QW:=by refine La (Cu fun q a=>Kc (h q a)) ?_;show QZ.depthAll (sn.map iu)+1<=64;have:=vP (f:=iu) (l:=sn) fun q _=>IG q;omega
section
variable {b:Bd} (Z:VB b) {s:Uo} {p:Uo×Sn} {k:Nat} {a:Mn}
theorem UZ.app {x y:Sn} (e:UZ x) (d:UZ y):UZ (x++y):=fun q f=>(RL.mp f).elim (e q) (d q)
theorem kS (h:UZ p.2) (ha:LB a):UZ (gx p k a).2:=by
 refine h.app fun q d=> ?_;cases a with
 |RH c=>
  have d:q∈(if mM p.1.ac (.RH c)=QW then[] else[(c,QW)]:Sn):=d;split at d
  .cases d
  .rw[Rb.mp d];exact ha
 |_=>cases d
theorem FJ (d:List (Nat×Mn)):∀{p:Uo×Sn},UZ p.2->(∀q∈d,LB q.2)->UZ (j4 p d).2:=by
 induction d with
 |nil=>exact fun h _=>h
 |cons q r f=>exact fun h e=>f (kS h (e q Rh)) fun x g=>e x (Rf _ g)
theorem K9 (h:UZ p.2) (ha:SA b p.1):UZ (go p k).2:=by
 unfold go;split
 .rename_i a q
  have lb:=(ha.ac k a q).2.lb;refine h.app fun x d=> ?_;cases a with
  |RH c=>
   have d:x∈(if mM (lP p.1.ac k QS) (.RH c)=QW then[] else[(c,Q2)]:Sn):=d;split at d
   .cases d
   .rw[Rb.mp d];exact lb
  |_=>cases d
 .exact h
include Z
theorem nM (h:UZ p.2) (f:WD b p.1):UZ (dA b p).2:=by
 unfold dA;split
 .exact h
 .rename_i d g w q;exact FJ _ (p:=({p.1 with wt:=QS},p.2)) h fun x e=>(v8 Z (f d g w q) x e).2.lb
theorem Lm (h:UZ p.2) (f:SA b p.1) (g:(k:Int)<b.n):UZ (Hs b p k).2:=by
 obtain⟨l,j⟩:=zy Z f;obtain⟨d,e⟩:=ve Z (k:=k) l j g;have i:Hs b p k=xE b (pS p.1.ac p.1.oc) (gJ p.1 (look b (pS p.1.ac p.1.oc) k),p.2) k (look b (pS p.1.ac p.1.oc) k):=rfl;rw[i];generalize look b (pS p.1.ac p.1.oc) k=m at d e;generalize pS p.1.ac p.1.oc=L at d;have lb:=d.lb;cases m with
 |WZ c n=>exact h
 |RH c=>
  show UZ (if(decide (L=0)&& !(e9 b [k]).isEmpty)=QW then({gJ p.1 (.RH c) with wt:=lD ([k],0,QS)},p.2) else gx (gJ p.1 (.RH c),p.2) k (.RH c)).2;split
  .exact h
  .exact kS (p:=(gJ p.1 (.RH c),p.2)) h lb
 |TZ n=>exact kS (p:=(gJ p.1 (.TZ n),p.2)) h lb
 |once n=>exact kS (p:=(gJ p.1 (.once n),p.2)) (k:=k) (a:= .none) h trivial
 |none=>exact kS (p:=(gJ p.1 .none,p.2)) h lb
 |below=>exact absurd rfl e
theorem qG {e:W0} (sw:SW b s) (j:EV b e):UZ (bA b s e).2:=by
 have f:UZ []:=fun q m=>by cases m
 cases e with
 |turn=>
  show UZ (lJ b (s,[])).2;unfold lJ;split
  .exact f
  .rename_i h g w q
   have v:=(sw.wt h g w q).1;split
   .exact nM Z (p:=({s with wt:=lD (h,g+1,w)},[])) f fun _ _ _ e=>by cases e;exact⟨v.ne,v.nd,v.kn,v.kf,by have:=v.g0;omega,v.tp,v.ch⟩
   .exact f
 |up k=>
  show UZ (xX b (s,[]) k).2;unfold xX;split
  .rename_i q
   have z:=oo Z (p:=(s,[])) sw q;refine K9 ?_ z.1.sa;unfold dB;split
   .exact nM Z (p:=(s,[])) f (SW.wd Z sw)
   .rename_i c n e;have o:c<26:=((sw.wt _ _ _ e).1.tp c n rfl).1;exact kS (p:=({s with wt:=QS},[])) f o
   .exact f
  .exact K9 (p:=(s,[])) f sw.sa
 |down k=>
  show UZ (mY b (s,[]) k).2;unfold mY;split
  .exact f
  .rename_i q
   rw[U3,not_or] at q;have ha:s.ac k=QS:=by
    cases z:s.ac k with
    |none=>rfl
    |some x=>exact absurd (show(s.ac k).isSome=QW by rw[z];rfl) q.1
   have hn:CS s.wt k=Q2:=by
    cases z:CS s.wt k with
    |false=>rfl
    |true=>exact absurd z q.2
   split
   .rename_i l
    obtain⟨h,g,i,u,r,t⟩:=An Z (p:=(s,[])) sw j ha hn l;have i:s.wt=lD (h,g,QS):=i;unfold v4;dsimp only;rw[i];dsimp only;split
    .exact nM Z (p:=({s with wt:=lD (h++[k],g,QS)},[])) f fun _ _ _ e=>by cases e;exact r
    .exact f
   .have d:=jt Z (p:=(s,[])) sw.sa (SW.wd Z sw);exact Lm Z (nM Z (p:=(s,[])) f (SW.wd Z sw)) d.1.sa j
end
end STP
namespace K52
open PySem L2 L3 STP
def oY:FS:=(bG (ka (aK (aJ IA (aa 1) (g8 dk {aa 0}))) (cW (aJ bq (aa 0) (aa 1))) dr)
 (cW (~~~0)))
def bH:FN:=fQ 2 oY
def gz:FS:=(bG (ka (IH (aK (aJ IA (aa 0) (~~~0))) (aK (aJ PD (aa 0) (aJ JB (~~~10) (~~~18))))) (bG (oE (pR j6 {aa 1}) (gN 3) (eZ (aJ CB (aa 0) (~~~1000)) (gN 0)))
 (cW (aJ oj (aa 0) (aa 2)))) dr)
 (bG (eZ (aJ ii (aJ db (aJ db (aJ oj (aa 0) (~~~1000033)) (aJ ii (~~~77) (aa 1))) (~~~5)) (aJ db (aJ ii (aa 1) (aa 1)) (~~~40009))) (gN 4))
 (cW (aJ oj (aJ CB (aJ oj (aJ db (aJ ii (aJ oj (aa 4) (~~~998857)) (~~~30011)) (aa 1)) (~~~999983)) (~~~3)) (aa 2)))))
def aI:FN:=fQ 5 gz
def lR:FS:=(cW (aJ fY (pC (.str "abz")) (cP aI 3 {aa 0,aa 1,~~~3})))
def c8:FN:=fQ 2 lR
def ez:FS:=(bG (eZ (cP aI 3 {aa 0,~~~11,~~~12}) (gN 3))
 (bG (ka (aK (aJ cY (aa 2) (~~~1))) (eZ (aJ bq (df {~~~1,~~~1,~~~1,~~~8}) (cP aI 3 {aa 0,~~~12,~~~4})) (gN 3)) dr)
 (bG (eZ (aJ db (~~~1) (cP aI 3 {aa 0,~~~13,g8 B2 {~~~1,aJ pN (aa 2) (~~~1)}})) (gN 4))
 (bG (ka (IH (aK (aJ cY (aa 3) (~~~4))) (aK (aJ cY (aa 3) (~~~5)))) (cW (bQ {pC (.str "layer"),aa 4})) dr)
 (bG (ka (IH (aK (aJ cY (aa 3) (~~~6))) (aK (aJ cY (aa 3) (~~~7)))) (cW (bQ {pC (.str "tap"),cP c8 2 {aa 0,~~~14},aa 4})) dr)
 (bG (ka (aK (aJ cY (aa 3) (~~~8))) (cW (bQ {pC (.str "none")})) dr)
 (bG (ka (aK (aJ cY (aa 3) (~~~9))) (cW (bQ {pC (.str "once"),aa 4})) dr)
 (bG (ka (tO (aK (aJ IQ (aa 3) (~~~9))) (aK (aJ IQ (aa 1) (~~~0)))) (cW (bQ {pC (.str "below")})) dr)
 (cW (bQ {pC (.str "letter"),cP c8 2 {aa 0,~~~15}}))))))))))
def eA:FN:=fQ 5 ez
def gm:FS:=(bG (eZ (df aw) (gN 3))
 (bG (oE (pR j6 {aJ LY (~~~1) (aa 1)}) (gN 4) (bG (eZ (g8 sr {gu 1 [4] (pR j6 {aa 1}) (gN 0) (aK (aJ cY (aJ A4 (aJ Hg (aa 1) (aa 0)) (~~~1)) (~~~1))) (aa 0)}) (gN 5))
 (bG (eZ (Dk (aJ IQ (g8 dk {aa 5}) (~~~1)) (g8 Ak {gu 1 [2] (jN (aa 5)) (gN 0) fH (aJ cY (aJ bq (aJ bq (aa 1) (aa 0)) (~~~0)) (pC (.str "letter")))})) (gN 6))
 (ka (tO (aK (aa 6)) (tO (aK (aJ IA (g8 dk {aa 3}) (~~~4))) (aK (aJ cY (cP aI 3 {aa 0,aJ db (~~~20) (aa 4),~~~3}) (~~~0))))) (pz (zU 3 (bQ {aa 5,aJ fY (pC (.str "abcz")) (cP aI 3 {aa 0,aJ db (~~~40) (aa 4),~~~4})}))) dr))))
 (cW (g8 sr {aa 3}))))
def gr:FN:=fQ 7 gm
def jA:FS:=(bG (eZ (cP bH 2 {aa 0,aa 1}) (gN 3))
 (bG (eZ (aJ bq (df (ae (~~~1) {~~~2,~~~2,~~~2,~~~3})) (cP aI 3 {aa 3,~~~5,~~~5})) (gN 4))
 (bG (eZ (df aw) (gN 5))
 (bG (oE (pR j6 {aa 4}) (gN 6) (bG (eZ (gu 1 [0,1,2,6] (pR j6 {aa 2}) (gN 0) fH (cP bH 2 {aa 1,aJ db (aJ db (aJ db (aa 2) (~~~1)) (aJ ii (aa 3) (aa 4))) (aa 0)})) (gN 7))
 (pz (zU 5 (g8 sr {gu 1 [6,4] (jN (aa 7)) (gN 0) fH (cP eA 3 {aa 0,aa 1,aa 2})})))))
 (bG (eZ (cP gr 3 {cP bH 2 {aa 0,aJ db (aa 1) (~~~10)},aa 2,aJ bq (aa 5) (~~~0)}) (gN 8))
 (cW (bQ {aa 2,g8 sr {aa 5},aa 8,aJ db (~~~1) (cP aI 3 {aa 3,~~~6,aJ bq (df {~~~4,~~~4,~~~2}) (aJ pN (aa 2) (~~~1))})})))))))
def eX:FN:=fQ 9 jA
def pp:FS:=(cW (aJ bq (df {~~~1,~~~2,~~~2,~~~3}) (cP aI 3 {cP bH 2 {aa 0,~~~0},~~~1,~~~4})))
def iw:FN:=fQ 1 pp
def sZ:FS:=(cW (aJ xV (aJ xV (NC NM (aa 0) tW (rc (aa 1))) (bQ {aa 2})) (NC NM (aa 0) (rc (aJ xV (aa 1) (~~~1))) tW)))
def dG:FN:=fQ 3 sZ
def eD:FS:=(bG (eZ (aa 1) (gT 4 (Ht (gN 2) (Ht (gN 3) (Ht (gN 4) (Ht (gN 5) OB))))))
 (bG (eZ (cP bH 2 {aa 0,~~~12}) (gN 6))
 (bG (eZ (cP aI 3 {aa 6,~~~70,~~~8}) (gN 7))
 (bG (eZ (cP aI 3 {aa 6,~~~71,g8 dk {aa 3}}) (gN 8))
 (bG (eZ (cP aI 3 {aa 6,~~~72,aa 2}) (gN 9))
 (bG (eZ (aJ bq (aJ bq (aa 3) (aa 8)) (aa 9)) (gN 10))
 (bG (ka (aK (aJ cY (aa 7) (~~~1))) (cW (bQ {aa 2,aa 3,OH L9.LH (aa 4),aa 5})) dr)
 (bG (ka (tO (aK (aJ cY (aa 7) (~~~2))) (aK (aJ cY (aa 10) (bQ {pC (.str "below")})))) (cW (bQ {aa 2,cP dG 3 {aa 3,aa 8,cP dG 3 {aJ bq (aa 3) (aa 8),aa 9,aJ bq (aJ bq (aa 3) (~~~0)) (aa 9)}},aa 4,aa 5})) dr)
 (bG (ka (tO (aK (aJ cY (aa 7) (~~~3))) (aK (aJ cY (aJ bq (aa 10) (~~~0)) (pC (.str "letter"))))) (bG (eZ (bQ {pC (.str "letter"),aJ fY (pC (.str "abz")) (cP aI 3 {aa 6,~~~73,~~~3})}) (gN 11))
 (cW (bQ {aa 2,cP dG 3 {aa 3,aa 8,cP dG 3 {aJ bq (aa 3) (aa 8),aa 9,aa 11}},aa 4,aa 5}))) dr)
 (bG (ka (aK (aJ cY (aa 7) (~~~4))) (cW (bQ {aa 2,aa 3,aa 4,aJ db (~~~1) (aJ oj (aa 5) (~~~2))})) dr)
 (bG (ka (aK (aJ cY (aa 7) (~~~5))) (cW (bQ {aa 2,aa 3,NC P8 (aa 4) (rc (~~~1)) tW,aa 5})) dr)
 (bG (ka (aK (aJ IQ (aa 7) (~~~5))) (cW (cP eX 3 {aa 0,~~~13,aa 2})) dr)
 (cW (aa 1))))))))))))))
def eF:FN:=fQ 12 eD
def gj:FS:=(bG (eZ (df aw) (gN 1))
 (bG (oE (jN (df {pC (.str "down"),pC (.str "up")})) (gN 2) (oE (pR j6 {aJ bq (aa 0) (~~~0)}) (gN 3) (pz (zU 1 (bQ {aa 2,aa 3})))))
 (cW (aJ db (aa 1) (df {bQ {pC (.str "turn"),~~~0}})))))
def de:FN:=fQ 4 gj
def ky:FS:=(bG (eZ (gu 1 [] (pR j6 {aJ bq (aa 0) (~~~0)}) (gN 0) fH (bQ {pC (.str "down"),aa 0})) (gN 1))
 (bG (eZ (gu 1 [] (pR j6 {aJ bq (aa 0) (~~~0)}) (gN 0) fH (bQ {pC (.str "up"),aa 0})) (gN 2))
 (cW (aJ db (aJ db (aa 1) (aa 2)) (df {bQ {pC (.str "turn"),~~~0}})))))
def gy:FN:=fQ 3 ky
def dD:FN:=L10.Od STP.dD
def iO:FS:=(bG (oE (jN (cP de 1 {aa 0})) (gN 3) (ka (aK (aJ nW (aJ bq (cP dD 3 {aa 0,aJ bq (aa 2) (~~~0),aa 3}) (~~~0)) (aJ bq (cP dD 3 {aa 1,aJ bq (aa 2) (~~~1),aa 3}) (~~~0)))) (cW (pC (.bool QW))) dr))
 (cW (pC (.bool Q2))))
def dR:FN:=fQ 4 iO
end K52
namespace K52
open PySem L2 L3 L10 STP
def dw:eT:=(aX (cC (bU (x5 QW (ag (aa 1)) (bv "Places" "numbers" (az 0)))) (aX (cC (bU (kI PD (BV dk (am (bv "Places" "found" (az 0)) aV)) (bv "Places" "most" (az 0)))) (qE "TooMany" "most" (bv "Places" "most" (az 0))) cK)
 (aX (rN (bv "Places" "numbers" (az 0)) (ag (aa 1)) (BV dk (am (bv "Places" "found" (az 0)) aV)))
 (b3 (tL (bv "Places" "found" (az 0)) (ag (bQ {aa 1,aa 2,aa 3})))))) cK)
 (gU (kN (bv "Places" "numbers" (az 0)) (ag (aa 1)))))
def b5:i7:=dj 4 dw
def cT:eT:=(aX (fP "Places" "most" (az 0) (ag (aa 2)))
 (aX (fP "Places" "found" (az 0) (ag (df aw)))
 (aX (fP "Places" "numbers" (az 0) Ag)
 (b3 (rp "Places" "enter" b5 4 (az 0) (am (ag (aa 1)) (am (ag (pC .none)) (am (ag (pC .none)) aV))))))))
def cU:i7:=dj 3 cT
def gG:eT:=(aX (dL (ag (df aw)) (gA 2))
 (aX (dL (fY (bv "Places" "found" (az 0)) (ag (aa 1))) (gA 3))
 (aX (rV (bT (aK (aJ mI (aJ bq (aa 3) (~~~1)) (pC .none)))) (aX (b3 (tL (az 2) (ag (aJ bq (aa 3) (~~~2)))))
 (dL (fY (bv "Places" "found" (az 0)) (ag (aJ bq (aa 3) (~~~1)))) (gA 3))))
 (gU (B4 (az 2))))))
def cQ:i7:=dj 4 gG
def z5:eT:=(aX (cC (bT (aK (aJ nW (aJ bq (aa 0) (~~~0)) (aJ bq (aa 1) (~~~0))))) OL cK)
 (aX (dL (lA (ag (cP gy 1 {aa 0}))) (gA 3))
 (aX (dL (DA "Places" cU 3 (am (ag (bQ {pC (.tuple [(.tuple []),.none,.none]),pC (.tuple [(.tuple []),.none,.none])})) (am (ag (aa 2)) aV))) (gA 4))
 (aX (dL (ag (~~~0)) (gA 5))
 (aX (rV (bU (kI IA (ag (aa 5)) (BV dk (am (bv "Places" "found" (az 4)) aV)))) (aX (dL (fY (fY (bv "Places" "found" (az 4)) (ag (aa 5))) (ag (~~~0))) (gA 6))
 (aX (xb (nt (jN (aa 3))) (gA 7) (aX (dL (lA (lV STP.dD 3 (am (ag (aa 0)) (am (ag (aJ bq (aa 6) (~~~0))) (am (ag (aa 7)) aV))))) (gA 8))
 (aX (dL (lA (lV STP.dD 3 (am (ag (aa 1)) (am (ag (aJ bq (aa 6) (~~~1))) (am (ag (aa 7)) aV))))) (gA 9))
 (aX (cC (bT (aK (aJ nW (aJ bq (aa 8) (~~~0)) (aJ bq (aa 9) (~~~0))))) (gU (jR (am (ag (pC (.str "apart"))) (am (kI db (bc "Places" "way_to" cQ 2 (az 4) (am (ag (aa 5)) aV)) (ag (df {aa 7}))) aV)))) cK)
 (b3 (rp "Places" "enter" b5 4 (az 4) (am (ag (bQ {aJ bq (aa 8) (~~~1),aJ bq (aa 9) (~~~1)})) (am (ag (aa 5)) (am (ag (aa 7)) aV)))))))))
 (DZ 5 Og (ag (~~~1))))))
 (gU (jR (am (ag (pC (.str "same"))) (am (lS 1 [] (jX (bv "Places" "found" (az 4))) (gA 0) lL (ag (aJ bq (aa 0) (~~~0)))) aV)))))))))
def ip:i7:=dj 10 z5
def jw:eT:=(aX (dL (ag (df {bQ {bQ {bQ aw,pC .none,pC .none},bQ {bQ aw,pC .none,pC .none}}})) (gA 3))
 (aX (dL (GV (fY (az 3) (ag (~~~0))) (ag (~~~0))) (gA 4))
 (aX (dL (ag (~~~0)) (gA 5))
 (aX (rV (mn (bU (kI IA (ag (aa 5)) (BV dk (am (az 3) aV)))) (bU (kI PU (BV dk (am (az 3) aV)) (ag (aa 2))))) (aX (xb (nt (jN (cP de 1 {aa 0}))) (gA 6) (aX (dL (lA (jR (am (fY (lV STP.dD 3 (am (ag (aa 0)) (am (fY (fY (az 3) (ag (aa 5))) (ag (~~~0))) (am (ag (aa 6)) aV)))) (ag (~~~1))) (am (fY (lV STP.dD 3 (am (ag (aa 1)) (am (fY (fY (az 3) (ag (aa 5))) (ag (~~~1))) (am (ag (aa 6)) aV)))) (ag (~~~1))) aV)))) (gA 7))
 (cC (bU (x5 QW (ag (aa 7)) (az 4))) (aX (rN (az 4) (ag (aa 7)) (kI db (kN (az 4) (fY (az 3) (ag (aa 5)))) (ag (~~~1))))
 (b3 (tL (az 3) (ag (aa 7))))) cK)))
 (dL (ag (aJ db (aa 5) (~~~1))) (gA 5))))
 (gU (jR (am (az 3) (am (az 4) aV))))))))
def dI:i7:=dj 8 jw
def cx:i7
 |[.fz b,.fz c],Z=>(match ip [.fz b,.fz c,.fz (.int 80)] Z with
  | .ok x Z'=> .ok x Z'
  | .er x Z'=>if x.cls=("TooMany":Str) then .ok (.fz .none) Z' else .bad
  |_=> .bad)
 |_,_=> .bad
def DH:eT:=(aX (dL (ag (cP eX 3 {aa 0,~~~1,cP iw 1 {aa 0}})) (gA 1))
 (aX (dL (ag (cP eF 2 {aa 0,aa 1})) (gA 2))
 (aX (dL (lA (lU cx 2 (am (ag (aa 1)) (am (ag (aa 2)) aV)))) (gA 3))
 (aX (dL (lA (lU cx 2 (am (ag (aa 2)) (am (ag (aa 1)) aV)))) (gA 4))
 (aX (cC (bT (IH (aK (aJ oU (aa 3) (pC .none))) (aK (aJ oU (aa 4) (pC .none))))) (gU (kI IQ (BV dk (am (fY (lU dI 3 (am (ag (aa 1)) (am (ag (aa 2)) (am (ag (~~~80)) aV)))) (ag (~~~0))) aV)) (ag (~~~80)))) cK)
 (aX (cC (bT (IH (aK (aJ nW (aJ bq (aa 3) (~~~0)) (aJ bq (aa 4) (~~~0)))) (tO (aK (aJ cY (aJ bq (aa 3) (~~~0)) (pC (.str "same")))) (aK (aJ nW (g8 dk {aJ bq (aa 3) (~~~1)}) (g8 dk {aJ bq (aa 4) (~~~1)})))))) (gU (ag (pC (.bool Q2)))) cK)
 (aX (cC (bT (aK (aJ cY (aJ bq (aa 3) (~~~0)) (pC (.str "same"))))) (gU (ag (pC (.bool QW)))) cK)
 (aX (dL (lU dI 3 (am (ag (aa 1)) (am (ag (aa 2)) (am (ag (~~~80)) aV)))) (OI 2 (uP (gA 5) (uP (gA 6) Gv))))
 (aX (dL (lA (lS 1 [6,3] (jX (az 5)) (gA 0) (bU (kI IA (kN (az 1) (ag (aa 0))) (ag (aJ pN (g8 dk {aJ bq (aa 2) (~~~1)}) (~~~1))))) (ag (aa 0)))) (gA 7))
 (gU (ag (Dk (aJ cY (g8 dk {aJ bq (aa 3) (~~~1)}) (g8 dk {aJ bq (aa 4) (~~~1)})) (GC (g8 J3 {gu 1 [1,2] (jN (aa 7)) (gN 0) fH (cP dR 3 {aa 1,aa 2,aa 0})}))))))))))))))
def F_law:i7:=dj 8 DH
abbrev zf (d:D):Option PV:=-(d)
abbrev zo (l:List D):Option PV:=lD (.ow l)
abbrev QM (a:List Int) (b:Bd) (r:bt):bt:=-(.list (a.map .int))::-(bD b)::r
theorem nU (a:List Int) (k:Nat):∃c:Int,bH [.list (a.map .int),nd k]= .ok (.fz (.int c)):=by
 have d:dk [.list (a.map .int)]=-(nd a.length):=(eO _).trans (by rw[QV]);have lt:=ku (k:Int) (a.length:Int);by_cases h:k<a.length
 .rw[decide_eq_true (by omega)] at lt;have e:bq (.list (a.map .int)) (nd k)=-(.int a[k]):=Bt (by rw[Q7,Q5 h];rfl);exact⟨a[k],gF (ρ:=[zf (.list (a.map .int)),zf (nd k)]) rfl (hJ (b:=QW) (aZ (ay (rv:= .fz (.bool QW)) (af rfl) (d6 (rv:= .fz (nd a.length)) (ah (af rfl) aD) rfl d) rfl rfl lt) rfl) (fun _=>eK (pv:= .fz (.int a[k])) (rv:= .fz (.int a[k])) (ay (rv:= .fz (.int a[k])) (af rfl) (af rfl) rfl rfl e) rfl rfl) fun q=>nomatch q)⟩
 .rw[decide_eq_false (by omega)] at lt;exact⟨0,gF (ρ:=[zf (.list (a.map .int)),zf (nd k)]) rfl (hJ (b:=Q2) (aZ (ay (rv:= .fz (.bool Q2)) (af rfl) (d6 (rv:= .fz (nd a.length)) (ah (af rfl) aD) rfl d) rfl rfl lt) rfl) (fun q=>nomatch q) fun _=>dh (ei (pv:= .fz (.int 0)) (rv:= .fz (.int 0)) aA rfl rfl))⟩
abbrev ET (c:Int) (k m:Nat) (a b:Option PV):bt:=[zf (.int c),zf (nd k),zf (nd m),a,b]
theorem eE (c:Int) (k m:Nat) (o:k<=1000) (hm:0<m):∃r:Nat,aI [.int c,nd k,nd m]= .ok (.fz (nd r))/\r<m:=by
 have a:∀x:Int,∃r:Nat,oj (.int x) (nd m)=-(nd r)/\r<m:=fun x=>by have A:0<=x % (m:Int):=abU _ (by omega);have J:x % (m:Int)<m:=aaH _ (by omega);refine⟨(x % (m:Int)).toNat,?_,by omega⟩;rw[re (by omega),nd,W4 A]
 have g:∃rv,fQ 5 gz [.int c,nd k,nd m]= .ok rv/\∃r:Nat,rv= .fz (nd r)/\r<m:=by
  refine ox (T:=fun rv=>∃r:Nat,rv= .fz (nd r)/\r<m) (ρ:=ET c k m QS QS) rfl ?_;unfold gz;have f:=KW;refine hJ (b:=decide (c<0)||decide ((10:Int)^18<=c)) (ρ1:=ET c k m QS QS) (mx (aZ (ay (rv:= .fz (.bool (decide (c<0)))) (af rfl) aA rfl rfl (ku _ _)) rfl) fun _=>aZ (ay (rv:= .fz (.bool (decide ((10:Int)^18<=c)))) (af rfl) (ay (rv:= .fz (.int ((10:Int)^18))) aA aA rfl rfl f) rfl rfl (yd _ _)) rfl) (fun _=>yJ ?_) (fun _=>dh ?_)
  .have B:=jM (n:=k) (by omega)
   refine sM (fun _ ρ=>∃(x:Int) (t:Option PV),ρ=ET x k m t QS) (ds:=bX (Rj k)) (ρ1:=ET c k m QS QS) (by fail "ev") ⟨c,QS,rfl⟩ ?_ ?_
   .rintro i d ρ hi ⟨x,t,rfl⟩;have e:CB (.int x) (.int 1000)=-(.int (x/1000)):=ER ⟨by decide,by decide⟩;exact⟨_,rfl,DF (ρ2:=ET (x/1000) k m (zf d) QS) (ay (rv:= .fz (.int (x/1000))) (af rfl) aA rfl rfl e) rfl ⟨_,_,rfl⟩⟩
   .rintro ρ ⟨x,t,rfl⟩;obtain⟨r,l,j⟩:=a x;exact eK (pv:= .fz (nd r)) (rv:= .fz (nd r)) (ρ1:=ET x k m t QS) (ay (rv:= .fz (nd r)) (af rfl) (af rfl) rfl rfl l) rfl ⟨r,rfl,j⟩
  .have K:0<=c % 1000033/\c % 1000033<1000033:=⟨abU _ (by decide),aaH _ (by decide)⟩
   have I:(k:Int)*k<=1000000:=by
    have:k*k<=1000*1000:=WH o o;have e:(k:Int)*k=((k*k:Nat):Int):=by rw[Int.natCast_mul]
    omega
   have v:0<=(k:Int)*k:=Int.mul_nonneg (by omega) (by omega);have H:oj (.int c) (.int 1000033)=-(.int (c % 1000033)):=re (by decide);have G:ii (.int 77) (nd k)=-(.int (77*k)):=mO ⟨by omega,by omega⟩;have F:ii (nd k) (nd k)=-(.int (k*k)):=mO ⟨by omega,by omega⟩;have u:ii (.int (c % 1000033+77*k+5)) (.int (k*k+40009))=-(.int ((c % 1000033+77*k+5)*(k*k+40009))):=mO ⟨by omega,by omega⟩;generalize hx:(c % 1000033+77*(k:Int)+5)*(k*k+40009)=x at u;have E:oj (.int x) (.int 998857)=-(.int (x % 998857)):=re (by decide);have q:ii (.int (x % 998857)) (.int 30011)=-(.int (x % 998857*30011)):=E6 ⟨by omega,by omega⟩;generalize x % 998857*30011=y at q;have p:oj (.int (y+k)) (.int 999983)=-(.int ((y+k) % 999983)):=re (by decide);generalize (y+(k:Int)) % 999983=z at p;have C:CB (.int z) (.int 3)=-(.int (z/3)):=ER ⟨by omega,by omega⟩;obtain⟨r,l,j⟩:=a (z/3);refine cM (ρ3:=ET c k m QS (zf (.int x))) (by fail "ev") rfl rfl ?_;exact ei (pv:= .fz (nd r)) (rv:= .fz (nd r)) (ρ1:=ET c k m QS (zf (.int x))) (ay (rv:= .fz (nd r)) (by fail "ev") (af rfl) rfl rfl l) rfl ⟨r,rfl,j⟩
 obtain⟨rv,h,r,rfl,w⟩:=g;exact⟨r,h,w⟩
theorem Na {z:Str} {cs:List Nat} (hz:z.cps.toList=cs.map (97+·)) (a:z.length<=1000000) {r:Int} {c:Nat} (b:0<=r) (h:cs[r.toNat]? =lD c):L3.fY (.str z) (.int r)=-(.str (jq c)):=by show(if z.length<=1000000 then(lx z.cps.toList r).map (fun c=>RV.fz (.str ⟨#[c]⟩)) else QS)=_;rw[if_pos a,hz,vh (v:=97+c) b (by rw[Q7,h];rfl)];rfl
theorem zL {z:Str} (cs:List Nat) (hz:z.cps.toList=cs.map (97+·)) (b:z.length<=1000000) (d:∀c∈cs,c<26) {r:Int} (e:0<=r) (f:r<cs.length):∃c,c<26/\L3.fY (.str z) (.int r)=-(.str (jq c)):=by
 have a:r.toNat<cs.length:=by omega
 exact⟨cs[r.toNat],d _ (XH a),Na hz b e (Q5 a)⟩
theorem xM {n i k:Nat} (h:(Rj n)[i]? =lD k):k=i/\i<n:=by obtain⟨b,a⟩:=QU.mp h;rw[aaw] at a;rw[R9] at b;exact⟨a.symm,b⟩
theorem J6 {n a:Int} {d:List (List Mn)} {b:List Mn} (h:VL n a d) (f:(b.length:Int)=n) (e:∀m∈b,VM d.length a m):VL n a (d++[b]):=by
 intro i l hi;rcases L10.bE hi with h'|⟨rfl,rfl⟩
 .exact h i l h'
 .exact⟨f,e⟩
theorem tV (c:Int) (k:Nat) (d:k<=1000):∃l,l<26/\c8 [.int c,nd k]= .ok (.fz (.str (jq l))):=by obtain⟨r,er,f⟩:=eE c k 3 d (by decide);have a:aI [.int c,nd k,.int 3]= .ok (.fz (nd r)):=er;obtain⟨l,b,e⟩:=zL (z:= "abz") [0,1,25] (by left) (by left) (by decide) (show(0:Int)<=(r:Int) by omega) (show(r:Int)<3 by omega);exact⟨l,b,gF (ρ:=[zf (.int c),zf (nd k)]) rfl (ei (pv:= .fz (.str (jq l))) (rv:= .fz (.str (jq l))) (ρ1:=[zf (.int c),zf (nd k)]) (ay (rv:= .fz (.str (jq l))) aA (bO (rv:= .fz (nd r)) (ds:=[.int c,nd k,.int 3]) (ah (af rfl) (ah (af rfl) (ah aA aD))) rfl rfl a) rfl rfl e) rfl rfl)⟩
theorem Lq {a:Nat} (b:1<=a):∃M:Nat,B2 [.int 1,.int ((a:Int) - 1)]=-(nd M)/\1<=M/\(1<a->M=a - 1):=by
 by_cases h:1<a
 .refine⟨a - 1,?_,by omega,fun _=>rfl⟩;show lD (RV.fz (.int (if(1:Int)<(a:Int) - 1 then(a:Int) - 1 else 1)))=lD (RV.fz (.int ((a - 1:Nat):Int)));congr 3;split<;>omega
 .obtain rfl:a=1:=by omega
  exact⟨1,rfl,by omega,fun h=>by omega⟩
abbrev E5 (c:Int) (L d:Nat) (a b:Option PV):bt:=[zf (.int c),zf (nd L),zf (nd d),a,b]
theorem Kj (c:Int) (L a:Nat) (n:1<=a) (P:a<=1000):∃m:Mn,VM L a m/\eA [.int c,nd L,nd a]= .ok (.fz (mD m)):=by
 obtain⟨i,e0,E⟩:=eE c 11 12 (by decide) (by decide);obtain⟨f,u,C⟩:=eE c 12 4 (by decide) (by decide);obtain⟨M,K,M1,M2⟩:=Lq n;obtain⟨d,t,F⟩:=eE c 13 M (by decide) (by omega);obtain⟨l,H,y⟩:=tV c 14 (by decide);obtain⟨j,G,v⟩:=tV c 15 (by decide);have e0:aI [.int c,.int 11,.int 12]= .ok (.fz (nd i)):=e0;have u:aI [.int c,.int 12,.int 4]= .ok (.fz (nd f)):=u;have t:aI [.int c,.int 13,nd M]= .ok (.fz (nd d)):=t;have y:c8 [.int c,.int 14]= .ok (.fz (.str (jq l))):=y;have v:c8 [.int c,.int 15]= .ok (.fz (.str (jq j))):=v;have o:∃rv,fQ 5 ez [.int c,nd L,nd a]= .ok rv/\∃m:Mn,VM L a m/\rv= .fz (mD m):=by
  refine ox (T:=fun rv=>∃m:Mn,VM L a m/\rv= .fz (mD m)) (ρ:=E5 c L a QS QS) rfl ?_;unfold ez;refine cM (ρ3:=E5 c L a (zf (nd i)) QS) (bO (rv:= .fz (nd i)) (ds:=[.int c,.int 11,.int 12]) (ah (af rfl) (ah aA (ah aA aD))) rfl rfl e0) rfl rfl ?_;refine G7 (Go.imp (N:=fun r=>∃w:Int,(a=1->w=1\/w=8)/\r=E5 c L a (zf (.int w)) QS) (Bj (b:=decide ((a:Int)=1)) (ρ1:=E5 c L a (zf (nd i)) QS) (aZ (ay (rv:= .fz (.bool (decide ((a:Int)=1)))) (af rfl) aA rfl rfl (gZ _ _)) rfl) (fun q=> ?_) (fun q=> ?_)) (fun r ⟨w,p,e⟩=> ?_) (fun _ h=>h) (fun _ h=>h))
  .obtain⟨x,B,J⟩:∃x:Int,(x=1\/x=8)/\bq (.list [.int 1,.int 1,.int 1,.int 8]) (nd f)=-(.int x):=by
    have:f=0\/f=1\/f=2\/f=3:=by omega
    rcases this with rfl|rfl|rfl|rfl
    .exact⟨1,.inl rfl,Bt rfl⟩
    .exact⟨1,.inl rfl,Bt rfl⟩
    .exact⟨1,.inl rfl,Bt rfl⟩
    .exact⟨8,.inr rfl,Bt rfl⟩
   exact DF (pv:= .fz (.int x)) (ρ2:=E5 c L a (zf (.int x)) QS) (ay (rv:= .fz (.int x)) (by fail "ev") (bO (rv:= .fz (nd f)) (ds:=[.int c,.int 12,.int 4]) (ah (af rfl) (ah aA (ah aA aD))) rfl rfl u) rfl rfl J) rfl ⟨x,fun _=>B,rfl⟩
  .have q:=of_decide_eq_false q;exact qD ⟨i,fun z=>by omega,rfl⟩
  subst e;refine cM (ρ3:=E5 c L a (zf (.int w)) (zf (.int (1+(d:Int))))) (ay (rv:= .fz (.int (1+(d:Int)))) aA (bO (rv:= .fz (nd d)) (ds:=[.int c,.int 13,nd M]) (ah (af rfl) (ah aA (ah (d6 (rv:= .fz (nd M)) (ds:=[.int 1,.int ((a:Int) - 1)]) (ah aA (ah (ay (rv:= .fz (.int ((a:Int) - 1))) (af rfl) aA rfl rfl (on _ _)) aD)) rfl K) aD))) rfl rfl t) rfl rfl (fA _ _)) rfl rfl ?_;have g:1<a->(1:Int)<=1+(d:Int)/\1+(d:Int)<a:=fun z=>by have:=M2 z;omega
  refine hJ (b:=decide (w=4)||decide (w=5)) (ρ1:=E5 c L a (zf (.int w)) (zf (.int (1+(d:Int))))) (by fail "ev") (fun q=> ?_) (fun _=>dh ?_)
  .refine eK (pv:= .fz (mD (.TZ (1+(d:Int))))) (rv:= .fz (mD (.TZ (1+(d:Int))))) (ρ1:=E5 c L a (zf (.int w)) (zf (.int (1+(d:Int))))) (show _=Res.ok (PV.fz (.tuple [.str "layer",.int (1+(d:Int))]),_) by fail "ev") rfl ⟨_,?_,rfl⟩;rw[U3,decide_eq_true_eq,decide_eq_true_eq] at q;exact g (Xm n fun z=>by have:=p z.symm;omega)
  refine hJ (b:=decide (w=6)||decide (w=7)) (ρ1:=E5 c L a (zf (.int w)) (zf (.int (1+(d:Int))))) (by fail "ev") (fun q=> ?_) (fun _=>dh ?_)
  .refine eK (pv:= .fz (mD (.WZ l (1+(d:Int))))) (rv:= .fz (mD (.WZ l (1+(d:Int))))) (ρ1:=E5 c L a (zf (.int w)) (zf (.int (1+(d:Int))))) (show _=Res.ok (PV.fz (.tuple [.str "tap",.str (jq l),.int (1+(d:Int))]),_) by fail "ev") rfl ⟨_,?_,rfl⟩;rw[U3,decide_eq_true_eq,decide_eq_true_eq] at q;exact⟨H,g (Xm n fun z=>by have:=p z.symm;omega)⟩
  refine hJ (b:=decide (w=8)) (ρ1:=E5 c L a (zf (.int w)) (zf (.int (1+(d:Int))))) (by fail "ev") (fun q=> ?_) (fun _=>dh ?_)
  .exact eK (pv:= .fz (mD .none)) (rv:= .fz (mD .none)) (ρ1:=E5 c L a (zf (.int w)) (zf (.int (1+(d:Int))))) (show _=Res.ok (PV.fz (.tuple [.str "none"]),_) by fail "ev") rfl ⟨.none,trivial,rfl⟩
  refine hJ (b:=decide (w=9)) (ρ1:=E5 c L a (zf (.int w)) (zf (.int (1+(d:Int))))) (by fail "ev") (fun q=> ?_) (fun _=>dh ?_)
  .refine eK (pv:= .fz (mD (.once (1+(d:Int))))) (rv:= .fz (mD (.once (1+(d:Int))))) (ρ1:=E5 c L a (zf (.int w)) (zf (.int (1+(d:Int))))) (show _=Res.ok (PV.fz (.tuple [.str "once",.int (1+(d:Int))]),_) by fail "ev") rfl ⟨_,?_,rfl⟩;rw[decide_eq_true_eq] at q;exact g (Xm n fun z=>by have:=p z.symm;omega)
  have I:IQ (nd L) (.int 0)=-(.bool (decide ((0:Int)<L))):=rfl;refine hJ (b:=(decide (9<w)&&decide ((0:Int)<L))) (ρ1:=E5 c L a (zf (.int w)) (zf (.int (1+(d:Int))))) (by fail "ev") (fun q=> ?_) (fun _=>dh ?_)
  .rw[Rx] at q;have O:=of_decide_eq_true q.2;exact eK (pv:= .fz (mD .below)) (rv:= .fz (mD .below)) (ρ1:=E5 c L a (zf (.int w)) (zf (.int (1+(d:Int))))) (show _=Res.ok (PV.fz (.tuple [.str "below"]),_) by fail "ev") rfl ⟨.below,by show(L:Int)≠0;omega,rfl⟩
  exact ei (pv:= .fz (mD (.RH j))) (rv:= .fz (mD (.RH j))) (ρ1:=E5 c L a (zf (.int w)) (zf (.int (1+(d:Int))))) (show _=Res.ok (PV.fz (.tuple [.str "letter",.str (jq j)]),_) by fail "ev") rfl ⟨.RH j,G,rfl⟩
 obtain⟨rv,h,m,A,rfl⟩:=o;exact⟨m,A,h⟩
structure CsV (l0:List Mn) (cs:List (List Nat×Nat)):Prop where
 vc:∀c∈cs,VC l0 c
 un:cs.Pairwise fun a c=>a.1≠c.1
theorem CsV.nil (l0:List Mn):CsV l0 []:=⟨fun c a=>(by cases a),VZ⟩
theorem CsV.add (h:CsV l0 cs) (i:2<=s.length) (e:s.Pairwise (·<·)) (g:∀k∈s,yE l0 k=QW) (f:l<26) (d:s∉cs.map (·.1)):CsV l0 (cs++[(s,l)]):=by
 refine⟨fun c b=>(RL.mp b).elim (h.vc c) fun z=> ?_,ZS.mpr ⟨h.un,SK _ _,fun a ha c b=> ?_⟩⟩
 .rw[Rb.mp z];exact⟨i,e,g,f⟩
 .rw[Rb.mp b];exact fun z=>d (RA.mpr ⟨a,ha,z⟩)
theorem M0 (a:k<l0.length):∃d,bq (dW l0) (nd k)=-(d)/\∃w,bq d (.int 0)=-(.str w)/\cY (.str w) (.str "letter")=-(.bool (yE l0 k)):=by
 have b:yE l0 k=l0[k].isL:=by unfold yE;rw[Q5 a];rfl
 rw[b];exact⟨mD l0[k],Fi (by rw[Q7,Q5 a];rfl),_,nQ _,jm _⟩
theorem N3 (i:Int) (k:Nat):Hg (.int i) (nd k)=-(.int (i/2^k)):=by show(if NW i (k:Int)=QW then lD (RV.fz (.int (i/2^((k:Nat):Int).toNat))) else QS)=_;rw[if_pos (by unfold NW;exact decide_eq_true (by omega)),Sl]
def Lp (x:Int) (k:Nat):Bool:=decide (Builtin.bitAnd (x/2^k) 1=1)
def pT (n m:Nat):List Nat:=(Rj n).filter (Lp m)
theorem Iy:∀n,n<4->∀a,a<2^n->∀b,b<2^n->pT n a=pT n b->a=b:=by left
theorem ja (p:α->Bool):∀l:List α,mj (l.map fun c=>QZ.bool (p c))=lD (l.map p)
 |[]=>rfl
 |c::r=>by show(mj (r.map fun c=>QZ.bool (p c))).map (p c::·)=_;rw[ja p r];rfl
theorem rY (p:α->Bool) (l:List α):Ak [.list (l.map fun c=>QZ.bool (p c))]=-(.bool (l.all p)):=by show(mj _).map (fun bs=>RV.fz (.bool (bs.all id)))=_;rw[ja];show lD (RV.fz (.bool _))=_;rw[acZ];rfl
abbrev E7 (c:Int) (n:Nat) (l0:List Mn) (cs:List (List Nat×Nat)) (a b d:Option PV):bt:=[zf (.int c),zf (nd n),zf (dW l0),zo (cs.map d7),a,b,d]
theorem Dm (c:Int) (n:Nat) (hn:n<4) (l0:List Mn) (hl:l0.length=n):∃cs,CsV l0 cs/\cs.length<=4/\gr [.int c,nd n,dW l0]= .ok (.fz (.tuple (cs.map d7))):=by
 have p8:2^n<=8:=RO (Nat.pow_le_pow_right (by decide) (show n<=3 by omega)) (by decide);have rgm:j6 [nd (2^n)]=lD (bX (Rj (2^n))):=jM (by omega);have rgn:j6 [nd n]=lD (bX (Rj n)):=jM (by omega);have X:=J8 n (by omega);have E:∃rv,fQ 7 gm [.int c,nd n,dW l0]= .ok rv/\∃cs,CsV l0 cs/\cs.length<=4/\rv= .fz (.tuple (cs.map d7)):=by
  refine ox rfl ?_;unfold gm;refine cM (ρ3:=E7 c n l0 [] QS QS QS) (by fail "ev") rfl rfl ?_;refine sM (fun i ρ=>∃(cs:List (List Nat×Nat)) (A p o:Option PV),CsV l0 cs/\cs.length<=4/\(∀s∈cs.map (·.1),∃m,m<i/\m<2^n/\s=pT n m)/\ρ=E7 c n l0 cs A p o) (by fail "ev") ⟨[],QS,QS,QS,CsV.nil _,RZ _,(fun s F=>by cases F),rfl⟩ ?_ ?_
  .rintro i d ρ hi ⟨cs,A,p,o,g,y,v,rfl⟩
   obtain⟨k,hk,rfl⟩:=qh hi;obtain⟨rfl,e⟩:=xM hk;refine⟨E7 c n l0 cs (zf (nd k)) p o,rfl,?_⟩;have f:lF (d5 (gN 0) (aK (aJ cY (aJ A4 (aJ Hg (aa 1) (aa 0)) (~~~1)) (~~~1))) (aa 0) (bX (Rj n)) [QS,-(nd k)] [])= .ok ((pT n k).map nd):=u8 nd nd (Lp k) (Rj n) (by rw[R9];omega) rfl (fun j r=>by have Z:=N3 (k:Int) j;have Y:A4 (.int ((k:Int)/2^j)) (.int 1)=-(.int (Builtin.bitAnd ((k:Int)/2^j) 1)):=rfl;exact aZ (ay (ay (ay (af rfl) (af rfl) rfl rfl Z) aA rfl rfl Y) aA rfl rfl (gZ _ _)) rfl) fun j _ _=>af rfl;have N:(pT n k).Pairwise (·<·):=adH _ Y6;have P:∀j∈pT n k,j<n:=fun j r=>SS.mp (Tj.mp r).1;have U:(pT n k).length<=n:=by have:=UL (Lp k) (Rj n);rw[R9] at this;exact this
   have O:pT n k∉cs.map (·.1):=fun z=>by obtain⟨m,m1,C,B⟩:=v _ z;have:=Iy n hn k e m C B;omega
   have b:∀s∈cs.map (·.1),∃m,m<k+1/\m<2^n/\s=pT n m:=fun s F=>by obtain⟨m,m1,C,B⟩:=v s F;exact⟨m,by omega,C,B⟩
   have Q:∃m,m<k+1/\m<2^n/\pT n k=pT n m:=⟨k,by omega,e,rfl⟩;generalize pT n k=s at f N P U O Q;refine cM (d6 (ah (fG (by fail "ev") rfl f) aD) rfl rfl) rfl rfl ?_;have G:dk [.tuple (bX s)]=-(nd s.length):=(jb _).trans (by rw[gp]);have L:lF (d5 (gN 0) fH (aJ cY (aJ bq (aJ bq (aa 1) (aa 0)) (~~~0)) (pC (.str "letter"))) (bX s) [QS,-(dW l0)] [])= .ok (s.map fun j=> .bool (yE l0 j)):=kY nd (fun j=> .bool (yE l0 j)) s (by omega) rfl (fun j r=>by obtain⟨d,e1,w,e2,e3⟩:=M0 (l0:=l0) (k:=j) (by have:=P j r;omega);exact ay (ay (ay (af rfl) (af rfl) rfl rfl e1) aA rfl rfl e2) aA rfl rfl e3);refine cM (qp (aZ (ay (d6 (ah (af rfl) aD) rfl G) aA rfl rfl (xq _ _)) rfl) fun _=>d6 (ah (fG (by fail "ev") rfl L) aD) rfl (rY _ _)) rfl rfl ?_;obtain⟨t,K,ht⟩:=eE c (20+k) 3 (by omega) (by decide);have K:=K;obtain⟨u,J,hu⟩:=eE c (40+k) 4 (by omega) (by decide);have J:=J;obtain⟨l,M,el⟩:=zL (z:= "abcz") [0,1,2,25] (by left) (by left) (by decide) (show(0:Int)<=(u:Int) by omega) (show(u:Int)<4 by omega);have H:dk [.list (cs.map d7)]=-(nd cs.length):=(eO _).trans (by rw[QV]);generalize hg:(decide ((1:Int)<(s.length:Int))&&s.all (yE l0))=gd;refine Bj
    (jO (aZ (af rfl) rfl) fun _=>jO (aZ (ay (d6 (ah (jB rfl) aD) rfl H) aA rfl rfl (ku _ _)) rfl) fun _=>aZ (ay (bO (ah (af rfl) (ah (ay aA (af rfl) rfl rfl (fA _ _)) (ah aA aD))) rfl rfl K) aA rfl rfl (gZ _ _)) rfl) (fun q=> ?_) fun _=>qD ⟨cs,_,_,_,g,y,b,rfl⟩
   rw[Rx,Rx] at q;obtain⟨I,R,_⟩:=q;have R:=of_decide_eq_true R;rw[<-hg,Rx,T8] at I;have g3:=of_decide_eq_true I.1;exact qB (wa rfl (cF (ah (af rfl) (ah (ay aA (bO (ah (af rfl) (ah (ay aA (af rfl) rfl rfl (fA _ _)) (ah aA aD))) rfl rfl J) rfl rfl el) aD)) rfl (QY rfl)) rfl rfl (by rw[QV];omega) (by show _=[zf (.int c),zf (nd n),zf (dW l0),zo ((cs++[(s,l)]).map d7),_,_,_];rw[RD];rfl)) ⟨cs++[(s,l)],_,_,_,g.add (by omega) N I.2 M O,by rw[Q3];show cs.length+1<=4;omega,fun x a=>by
    rw[RD,RL] at a;rcases a with a|a
    .exact b x a
    .rw[Rb.mp a];exact Q,rfl⟩
  .rintro ρ ⟨cs,A,p,o,g,y,v,rfl⟩;exact ei (d6 (ah (jB rfl) aD) rfl rfl) rfl ⟨cs,g,y,rfl⟩
 obtain⟨rv,h,cs,T,S,rfl⟩:=E;exact⟨cs,T,S,h⟩
theorem Oa (g:1<=n) (f:n<=5) (i:rs.length<=3) (b:rs[0]? =lD l0) (h:VL n rs.length rs) (a:CsV l0 cs) (j:cs.length<=4) (e:1<=w) (d:w<=4):VB ⟨n,rs,cs,w⟩:=by
 cases rs with
 |nil=>cases b
 |cons x r=>cases Rm b;exact⟨g,f,by show 1<=r.length+1;omega,i,h,j,a.vc,a.un,e,d⟩
abbrev E9 (b:List Int) (a n:Nat) (c:Int) (d:Nat) (e o6 o7 o8:Option PV):bt:=[zf (.list (b.map .int)),zf (nd a),zf (nd n),zf (.int c),zf (nd d),e,o6,o7,o8]
theorem QB {n:Nat} (hn:n=1\/n=2\/n=3):∃w:Nat,0<w/\w<=4/\bq (.list [.int 4,.int 4,.int 2]) (.int ((n:Int) - 1))=-(nd w):=by
 rcases hn with rfl|rfl|rfl
 .exact⟨4,by decide,by decide,II (by decide) rfl⟩
 .exact⟨4,by decide,by decide,II (by decide) rfl⟩
 .exact⟨2,by decide,by decide,II (by decide) rfl⟩
theorem QG {r:Nat} (a:r<5):∃w:Nat,1<=w/\w<=3/\bq (.list [.int 1,.int 2,.int 2,.int 2,.int 3]) (nd r)=-(nd w):=by
 have:r=0\/r=1\/r=2\/r=3\/r=4:=by omega
 rcases this with rfl|rfl|rfl|rfl|rfl
 .exact⟨1,by decide,by decide,Bt rfl⟩
 .exact⟨2,by decide,by decide,Bt rfl⟩
 .exact⟨2,by decide,by decide,Bt rfl⟩
 .exact⟨2,by decide,by decide,Bt rfl⟩
 .exact⟨3,by decide,by decide,Bt rfl⟩
theorem JD (a:List Int):∃n:Nat,(n=1\/n=2\/n=3)/\iw [.list (a.map .int)]= .ok (.fz (nd n)):=by
 obtain⟨c,b⟩:=nU a 0;have b:bH [.list (a.map .int),.int 0]= .ok (.fz (.int c)):=b;obtain⟨r,er,e⟩:=eE c 1 4 (by decide) (by decide);have er:aI [.int c,.int 1,.int 4]= .ok (.fz (nd r)):=er;obtain⟨n,hn,d⟩:∃n:Nat,(n=1\/n=2\/n=3)/\bq (.list [.int 1,.int 2,.int 2,.int 3]) (nd r)=-(nd n):=by
  have:r=0\/r=1\/r=2\/r=3:=by omega
  rcases this with rfl|rfl|rfl|rfl
  .exact⟨1,by decide,Bt rfl⟩
  .exact⟨2,by decide,Bt rfl⟩
  .exact⟨2,by decide,Bt rfl⟩
  .exact⟨3,by decide,Bt rfl⟩
 exact⟨n,hn,gF (ρ:=[zf (.list (a.map .int))]) rfl (ei (pv:= .fz (nd n)) (rv:= .fz (nd n)) (ρ1:=[zf (.list (a.map .int))]) (ay (rv:= .fz (nd n)) (by fail "ev") (bO (rv:= .fz (nd r)) (ds:=[.int c,.int 1,.int 4]) (ah (bO (rv:= .fz (.int c)) (ds:=[.list (a.map .int),.int 0]) (ah (af rfl) (ah aA aD)) rfl rfl b) (ah aA (ah aA aD))) rfl rfl er) rfl rfl d) rfl rfl)⟩
theorem DL (g:List Int) (a n:Nat) (hn:n=1\/n=2\/n=3):∃b:Bd,VB b/\b.n=n/\eX [.list (g.map .int),nd a,nd n]= .ok (.fz (bD b)):=by
 obtain⟨p,e0⟩:=nU g a;obtain⟨U,S,h5⟩:=eE p 5 5 (by decide) (by decide);have S:aI [.int p,.int 5,.int 5]= .ok (.fz (nd U)):=S;obtain⟨l,l1,l3,el⟩:=QG h5;obtain⟨w,Y,w4,ew⟩:=QB hn;obtain⟨C,R,h6⟩:=eE p 6 w (by decide) Y;have R:aI [.int p,.int 6,nd w]= .ok (.fz (nd C)):=R;obtain⟨J,A⟩:=nU g (a+10);have A:bH [.list (g.map .int),.int ((a:Int)+10)]= .ok (.fz (.int J)):=A;have n1:(1:Int)<=(n:Int):=by rcases hn with rfl|rfl|rfl<;>decide
 have n3:(n:Int)<=3:=by rcases hn with rfl|rfl|rfl<;>decide
 have rgn:j6 [nd n]=lD (bX (Rj n)):=jM (by omega);have rgl:j6 [nd l]=lD (bX (Rj l)):=jM (by omega);have N:∃rv,fQ 9 jA [.list (g.map .int),nd a,nd n]= .ok rv/\∃b:Bd,(VB b/\b.n=n)/\rv= .fz (bD b):=by
  refine ox (T:=fun rv=>∃b:Bd,(VB b/\b.n=n)/\rv= .fz (bD b)) (ρ:=[zf (.list (g.map .int)),zf (nd a),zf (nd n),QS,QS,QS,QS,QS,QS]) rfl ?_;unfold jA;refine cM (ρ3:=[zf (.list (g.map .int)),zf (nd a),zf (nd n),zf (.int p),QS,QS,QS,QS,QS]) (by fail "ev") rfl rfl ?_;refine cM (ρ3:=E9 g a n p l QS QS QS QS) (ay (rv:= .fz (nd l)) (by fail "ev") (bO (rv:= .fz (nd U)) (ds:=[.int p,.int 5,.int 5]) (ah (af rfl) (ah aA (ah aA aD))) rfl rfl S) rfl rfl el) rfl rfl ?_;refine cM (ρ3:=E9 g a n p l (zo []) QS QS QS) (by fail "ev") rfl rfl ?_;refine sM (fun i ρ=>∃(e:List (List Mn)) (F E:Option PV),e.length=i/\VL n l e/\ρ=E9 g a n p l (zo (e.map dW)) F E QS) (ds:=bX (Rj l)) (ρ1:=E9 g a n p l (zo []) QS QS QS) (by fail "ev") ⟨[],QS,QS,rfl,(fun j r h=>by cases h),rfl⟩ ?_ ?_
  .rintro i d ρ hi ⟨e,F,E,G,I,rfl⟩
   obtain⟨L,hL,rfl⟩:=qh hi;obtain⟨rfl,hin⟩:=xM hL;refine⟨E9 g a n p l (zo (e.map dW)) (zf (nd L)) E QS,rfl,?_⟩;have mu:ii (nd n) (nd L)=-(.int ((n:Int)*L)):=mO ⟨by omega,by omega⟩;obtain⟨xs,c1,c2,c3⟩:=x0 (gt:=gN 0) (ft:=fH) (fe:=cP bH 2 {aa 1,aJ db (aJ db (aJ db (aa 2) (~~~1)) (aJ ii (aa 3) (aa 4))) (aa 0)}) (ds:=bX (Rj n)) (ρ:=[QS,zf (.list (g.map .int)),zf (nd a),zf (nd n),zf (nd L)]) (fun ρ=>∃o,ρ=[o,zf (.list (g.map .int)),zf (nd a),zf (nd n),zf (nd L)]) (fun _ x=>∃y:Int,x= .int y/\True) ⟨QS,rfl⟩ (by rw[gp,R9];omega) (by rintro j d z ρ ⟨o,rfl⟩;obtain⟨k,hk,rfl⟩:=qh z;obtain⟨c,H⟩:=nU g (a+1+n*L+k);have H:bH [.list (g.map .int),.int ((a:Int)+1+(n:Int)*L+k)]= .ok (.fz (.int c)):=H;refine⟨.int c,_,JF (ρ1:=[zf (nd k),zf (.list (g.map .int)),zf (nd a),zf (nd n),zf (nd L)]) rfl rfl (bO (rv:= .fz (.int c)) (ds:=[.list (g.map .int),.int ((a:Int)+1+(n:Int)*L+k)]) (ah (af rfl) (ah (ay (rv:= .fz (.int ((a:Int)+1+(n:Int)*L+k))) (ay (rv:= .fz (.int ((a:Int)+1+(n:Int)*L))) (ay (rv:= .fz (.int ((a:Int)+1))) (af rfl) aA rfl rfl (fA _ _)) (ay (rv:= .fz (.int ((n:Int)*L))) (af rfl) (af rfl) rfl rfl mu) rfl rfl (fA _ _)) (af rfl) rfl rfl (fA _ _)) aD)) rfl rfl H) rfl rfl,⟨_,rfl⟩,c,rfl,trivial⟩);obtain⟨cs,rfl,_⟩:=vE (f:=QZ.int) (Q:=fun _ (_:Int)=>True) xs 0 c3;rw[gp,R9,QV] at c2;refine cM (pv:= .ow (cs.map .int)) (ρ3:=E9 g a n p l (zo (e.map dW)) (zf (nd L)) (zo (cs.map .int)) QS) (fG (cs:=[.list (g.map .int),nd a,nd n,nd L]) (ds:=bX (Rj n)) (by fail "ev") rfl c1) rfl rfl ?_;obtain⟨X,c4,c5,c6⟩:=x0 (gt:=gN 0) (ft:=fH) (fe:=cP eA 3 {aa 0,aa 1,aa 2}) (ds:=cs.map .int) (ρ:=[QS,zf (nd L),zf (nd l)]) (fun ρ=>∃o,ρ=[o,zf (nd L),zf (nd l)]) (fun _ x=>∃y:Mn,x=mD y/\VM L l y) ⟨QS,rfl⟩ (by rw[QV];omega) (by
    rintro j d z ρ ⟨o,rfl⟩;obtain⟨c,rfl⟩:∃c:Int,d= .int c:=by
     rw[Q7] at z;cases q:cs[j]? with
     |none=>rw[q] at z;cases z
     |some x=>rw[q] at z;exact⟨x,(Rm z).symm⟩
    obtain⟨m,K,em⟩:=Kj c L l l1 (by omega);exact⟨mD m,_,JF (ρ1:=[zf (.int c),zf (nd L),zf (nd l)]) rfl rfl (bO (rv:= .fz (mD m)) (ds:=[.int c,nd L,nd l]) (ah (af rfl) (ah (af rfl) (ah (af rfl) aD))) rfl rfl em) rfl rfl,⟨_,rfl⟩,m,rfl,K⟩)
   obtain⟨u,rfl,q6⟩:=vE (f:=mD) (Q:=fun _ y=>VM L l y) X 0 c6;rw[QV,QV] at c5;have M:sr [.list (u.map mD)]=-(dW u):=rfl;have O:(e.map dW).length<1000000:=by rw[QV];omega
   refine qB (pv:= .fz .none) (ρ1:=E9 g a n p l (zo (e.map dW++[dW u])) (zf (nd L)) (zf (.list (cs.map .int))) QS) (wa (pa:= .fz (dW u)) (d:=dW u) rfl (d6 (rv:= .fz (dW u)) (ds:=[.list (u.map mD)]) (ah (fG (cs:=[nd L,nd l]) (ds:=cs.map .int) (jy (jB rfl) rfl rfl) rfl c4) aD) rfl M) rfl rfl O rfl) ⟨e++[u],_,_,by rw[Q3,G];rfl,J6 I (by omega) (fun m hm=> ?_),by rw[RD];rfl⟩;obtain⟨t,ht⟩:=Sx.mp hm;rw[G];exact q6 t m ht
  .rintro ρ ⟨e,F,E,G,I,rfl⟩;rw[gp,R9] at G;obtain⟨v,P⟩:∃v,e[0]? =lD v:=⟨_,Q5 (show 0<e.length by omega)⟩;have hl0:=(I 0 v P).1;obtain⟨cs,K,Z,H⟩:=Dm J n (by omega) v (by omega);have i0:bq (.list (e.map dW)) (.int 0)=-(dW v):=II (by decide) (by show(e.map dW)[0]? =_;rw[Q7,P];rfl);refine cM (ρ3:=E9 g a n p l (zo (e.map dW)) F E (zf (.tuple (cs.map d7)))) (bO (rv:= .fz (.tuple (cs.map d7))) (ds:=[.int J,nd n,dW v]) (ah (bO (rv:= .fz (.int J)) (ds:=[.list (g.map .int),.int ((a:Int)+10)]) (ah (af rfl) (ah (ay (rv:= .fz (.int ((a:Int)+10))) (af rfl) aA rfl rfl (fA _ _)) aD)) rfl rfl A) (ah (af rfl) (ah (ay (rv:= .fz (dW v)) (dx:= .list (e.map dW)) (jB rfl) aA rfl rfl i0) aD))) rfl rfl H) rfl rfl ?_;have M:sr [.list (e.map dW)]=-(.tuple (e.map dW)):=rfl;refine ei (pv:= .fz (bD ⟨n,e,cs,1+(C:Int)⟩)) (rv:= .fz (bD ⟨n,e,cs,1+(C:Int)⟩)) (ρ1:=E9 g a n p l (zo (e.map dW)) F E (zf (.tuple (cs.map d7)))) (cF (ds:=[nd n,.tuple (e.map dW),.tuple (cs.map d7),.int (1+(C:Int))]) (ah (af rfl) (ah (d6 (rv:= .fz (.tuple (e.map dW))) (ds:=[.list (e.map dW)]) (ah (jB rfl) aD) rfl M) (ah (af rfl) (ah (ay (rv:= .fz (.int (1+(C:Int)))) aA (bO (rv:= .fz (nd C)) (ds:=[.int p,.int 6,nd w]) (ah (af rfl) (ah aA (ah (ay (rv:= .fz (nd w)) (dx:= .list [.int 4,.int 4,.int 2]) (by fail "ev") (ay (rv:= .fz (.int ((n:Int) - 1))) (af rfl) aA rfl rfl (on _ _)) rfl rfl ew) aD))) rfl rfl R) rfl rfl (fA _ _)) aD)))) rfl (QY rfl)) rfl ⟨_,⟨Oa n1 (Int.le_trans n3 (by decide)) (by omega) P (by rw[G];exact I) K Z (by omega) (by omega),rfl⟩,rfl⟩
 obtain⟨rv,h,b,⟨B,hb⟩,rfl⟩:=N;exact⟨b,B,hb,h⟩
section
variable {ρ ρ1:bx} {Z Z1 Y Z3:a9} {x y z:SV} {i:Nat} {d:D} {X:List (D×D)}
theorem G9 (h:Z[i]? =lD (.dd X)):tR Z (.rf i)=lD (i,X):=by unfold tR;dsimp only;rw[h]
theorem Bx (a:fk ρ Z= .ok x Z1) (hd:fd ρ Z1= .ok (.rf i) Y) (e:jU x=lD k) (b:Y[i]? =lD (.dd X)):x5 neg fk fd ρ Z= .ok (.fz (.bool ((gM X k).isSome !=neg))) Y:=by unfold x5;rw[a,RS.bind_ok,hd,RS.bind_ok,e];show((RS.Sh Y (tR Y (.rf i))).bind _)=_;rw[G9 b];rfl
theorem qW (hd:fd ρ Z= .ok (.rf i) Z1) (a:fk ρ Z1= .ok x Y) (f:jU x=lD k) (e:Y[i]? =lD (.dd X)) (b:gM X k=lD d):kN fd fk ρ Z= .ok (.fz d) Y:=by unfold kN;rw[hd,RS.bind_ok,a,RS.bind_ok,f];show((RS.Sh Y (tR Y (.rf i))).bind _)=_;rw[G9 e];show((RS.Sh Y (gM X k)).bind _)=_;rw[b];rfl
theorem ye (a:fv ρ Z= .ok (.fz d) Z1) (hd:fd ρ Z1= .ok (.rf i) Y) (e:fk ρ Y= .ok x Z3) (g:jU x=lD k) (f:Z3[i]? =lD (.dd X)) (b:X.length<1000000):rN fd fk fv ρ Z= .ok (.nx ρ) (Z3.set i (.dd (jc X k d))):=by unfold rN;rw[a,RS.bind_ok,hd,RS.bind_ok,e,RS.bind_ok,g];show((RS.Sh Z3 (tR Z3 (.rf i))).bind _)=_;rw[G9 f];show(if X.length<1000000 then _ else _)=_;rw[if_pos b]
theorem qz (ha:fa ρ Z= .ok xs Z1) (hn:xs.length=n) (a:F xs Z1= .ok x Y):lU F n fa ρ Z= .ok x Y:=by unfold lU;rw[ha,RS.bind_ok,if_pos hn,a,mJ]
end
theorem sd {l r:a9}:(l++r)[l.length+t]? =r[t]? :=by rw[RE (by omega),VT]
theorem C7 {l r:a9}:(l++r).set (l.length+t) c=l++r.set t c:=by rw[List.set_append_right _ _ (by omega),VT]
structure Pl where
 p:D
 b:D
 e:D
def vv (q:Pl):D:= .tuple [q.p,q.b,q.e]
def iQ:List Pl->D->Option Nat
 |[],_=>QS
 |q::r,p=>if QZ.eqv q.p p=QW then lD 0 else(iQ r p).map (·+1)
def jg:Nat->List Pl->List (D×D)
 |_,[]=>[]
 |k,q::r=>(q.p,nd k)::jg (k+1) r
theorem nG:∀(k:Nat) (fs:List Pl) (p:D),gM (jg k fs) p=(iQ fs p).map fun i=>nd (k+i)
 |_,[],_=>rfl
 |k,q::r,p=>by
  have a:=nG (k+1) r p;unfold gM at a⊢;unfold jg iQ;rw[RP];cases QZ.eqv q.p p with
  |true=>rfl
  |false=>dsimp only;rw[a,if_neg Rc,Option.map_map];congr 1;funext i;show nd (k+1+i)=nd (k+(i+1));rw[Xg,Zd 1 i]
theorem yy:∀(k:Nat) (fs:List Pl) (q:Pl),jg k (fs++[q])=jg k fs++[(q.p,nd (k+fs.length))]
 |k,[],q=>rfl
 |k,a::r,q=>by show(a.p,nd k)::jg (k+1) (r++[q])=(a.p,nd k)::(jg (k+1) r++[(q.p,nd (k+(r.length+1)))]);rw[yy (k+1) r q,Xg,Zd 1 r.length]
theorem Cm:∀(k:Nat) (fs:List Pl),(jg k fs).length=fs.length
 |_,[]=>rfl
 |k,q::r=>congrArg (·+1) (Cm (k+1) r)
theorem HB (h:iQ fs p=QS):jc (jg 0 fs) p (nd fs.length)=jg 0 (fs++[⟨p,b,e⟩]):=by
 have g:=nG 0 fs p;rw[h] at g;unfold gM at g;have d:((jg 0 fs).find? fun a=>QZ.eqv a.1 p)=QS:=by
  cases q:(jg 0 fs).find? fun a=>QZ.eqv a.1 p with
  |none=>rfl
  |some x=>rw[q] at g;cases g
 unfold jc;rw[d,yy,Vd];rfl
theorem GF (h:iQ fs q.p=QS) (d:QZ.eqv q.p q.p=QW):iQ (fs++[q]) q.p=lD fs.length:=by
 induction fs with
 |nil=>show(if QZ.eqv q.p q.p=QW then lD 0 else _)=_;rw[if_pos d];rfl
 |cons a r b=>
  unfold iQ at h;show(if QZ.eqv a.p q.p=QW then lD 0 else(iQ (r++[q]) q.p).map (·+1))=_;by_cases e:QZ.eqv a.p q.p=QW
  .rw[if_pos e] at h;cases h
  .rw[if_neg e] at h⊢;rw[b (by cases k:iQ r q.p with|none=>rfl|some _=>rw[k] at h;cases h)];rfl
theorem vH (h:LD.keyD p=QW):QZ.eqv p p=QW:=by
 refine Uv p (LD.kd_lay p ?_);cases p with
 |tuple xs=>unfold LD.keyD at h;rw[Rx] at h;unfold LD.kd;exact h.1
 |_=>simp[LD.keyD] at h
def pF (m:Int) (j k:Nat):List (Str×SV):=[("most",.fz (.int m)),("found",.rf j),("numbers",.rf k)]
structure PSt (i j k:Nat) (m:Int) (fs:List Pl) (Z:a9):Prop where
 o:Z[i]? =lD (.obj "Places" (pF m j k))
 f:Z[j]? =lD (.lst ((fs.map vv).map .fz))
 n:Z[k]? =lD (.dd (jg 0 fs))
 jk:j≠k
 ij:i≠j
 ik:i≠k
 lt:fs.length<100000
def tS (j k:Nat) (fs:List Pl) (Z:a9):a9:=(Z.set k (.dd (jg 0 fs))).set j (.lst ((fs.map vv).map .fz))
section
variable {i j k:Nat} {m:Int} {fs:List Pl} {Z:a9} {p b e:D}
theorem PSt.ent (h:PSt i j k m fs Z) (g:fs.length+1<100000):PSt i j k m (fs++[q]) (tS j k (fs++[q]) Z):=by
 have d:=(QU.mp h.f).1;have a:=(QU.mp h.n).1;refine⟨?_,?_,?_,h.jk,h.ij,h.ik,by rw[Q3];exact g⟩
 .unfold tS;rw[Sd (Ne.symm h.ij),Sd (Ne.symm h.ik)];exact h.o
 .unfold tS;rw[Ss (by rw[Sg];exact d)]
 .unfold tS;rw[Sd h.jk,Ss a]
theorem He:(pF m j k).lookup ("most":Str)=-(.int m):=by rfl
theorem oO:(pF m j k).lookup ("found":Str)=lD (.rf j):=by rfl
theorem xF:(pF m j k).lookup ("numbers":Str)=lD (.rf k):=by rfl
theorem uv:(pF m j k).lookup ("enter":Str)=QS:=by rfl
theorem kA (a:LD.keyD p=QW):jU (.fz p)=lD p:=if_pos a
theorem uu (h:PSt i j k m fs Z) (hm:L9.Os (.int m)=QW) (N:m<=1000) (C:LD.keyD p=QW):b5 [.rf i,.fz p,.fz b,.fz e] Z=(match iQ fs p with
  |some t=> .ok (.fz (nd t)) Z
  |none=>if m<=(fs.length:Int) then .er ⟨"TooMany",[("most",.int m)]⟩ Z else .ok (.fz (nd fs.length)) (tS j k (fs++[⟨p,b,e⟩]) Z)):=by
 have v:=kA C;have y:∀{a:a9},a[i]? =lD (.obj "Places" (pF m j k))->bv "Places" "numbers" (az 0) [lD (.rf i),-(p),-(b),-(e)] a= .ok (.rf k) a:=fun z=>iU (bJ rfl) z xF;have E:∀{a:a9},a[i]? =lD (.obj "Places" (pF m j k))->bv "Places" "found" (az 0) [lD (.rf i),-(p),-(b),-(e)] a= .ok (.rf j) a:=fun z=>iU (bJ rfl) z oO;have A:∀{a:a9},a[i]? =lD (.obj "Places" (pF m j k))->bv "Places" "most" (az 0) [lD (.rf i),-(p),-(b),-(e)] a= .ok (.fz (.int m)) a:=fun z=>iU (bJ rfl) z He;have r:∀{a:a9},ag (aa 1) [lD (.rf i),-(p),-(b),-(e)] a= .ok (.fz p) a:=ai (af rfl);have d:=Bx (neg:=QW) r (y h.o) v h.n;rw[nG] at d;have get:∀{g:List Pl} {a:a9} {t:Nat},a[i]? =lD (.obj "Places" (pF m j k))->a[k]? =lD (.dd (jg 0 g))->iQ g p=lD t->gU (kN (bv "Places" "numbers" (az 0)) (ag (aa 1))) [lD (.rf i),-(p),-(b),-(e)] a= .ok (.rt (.fz (nd t))) a:=fun J I H=>by refine iR (qW (y J) r v I ?_);rw[nG,H];show lD (nd (0+_))=_;rw[Vd]
 have u:=xz (au (E h.o) aW) (by unfold aQ;rw[fT h.f];rfl) ((eO _).trans (by rw[QV]));cases q:iQ fs p with
 |some t=>rw[q] at d;refine jT rfl ?_;exact cN (hG (bu d) gS) (get h.o h.n q)
 |none=>
  rw[q] at d;dsimp only;by_cases l:m<=(fs.length:Int)
  .rw[if_pos l]
   have w:=bu (cL u (A h.o) (cg ((yd _ _).trans (by rw[decide_eq_true l]))));show dj 4 dw _ _=_;unfold dj;show((dw [lD (.rf i),-(p),-(b),-(e)] Z).bind _)=_;have M:dw [lD (.rf i),-(p),-(b),-(e)] Z= .er ⟨"TooMany",[("most",.int m)]⟩ Z:=by unfold dw;unfold aX;rw[fx (bu d) rfl,fx w rfl,CU (A h.o) hm];rfl
   rw[M];rfl
  .rw[if_neg l]
   have w:=bu (cL u (A h.o) (cg ((yd _ _).trans (by rw[decide_eq_false l]))));have B:=ye u (y h.o) r v h.n (by rw[Cm];have:=h.lt;omega);rw[HB q] at B;have K:(Z.set k (.dd (jg 0 (fs++[⟨p,b,e⟩]))))[i]? =lD (.obj "Places" (pF m j k)):=(Sd (Ne.symm h.ik)).trans h.o;have F:(Z.set k (.dd (jg 0 (fs++[⟨p,b,e⟩]))))[j]? =lD (.lst ((fs.map vv).map .fz)):=(Sd (Ne.symm h.jk)).trans h.f;have G:=vd (fe:=ag (bQ {aa 1,aa 2,aa 3})) (x:= .fz (vv ⟨p,b,e⟩)) (E K) F (ai (cF (ah (af rfl) (ah (af rfl) (ah (af rfl) aD))) rfl (QY rfl))) F (by rw[QV,QV];have:=h.lt;omega);have L:(Z.set k (.dd (jg 0 (fs++[⟨p,b,e⟩])))).set j (.lst ((fs.map vv).map SV.fz++[.fz (vv ⟨p,b,e⟩)]))=tS j k (fs++[⟨p,b,e⟩]) Z:=by unfold tS;rw[RD,RD];rfl
   rw[L] at G;have P:=h.ent (q:=⟨p,b,e⟩) (by omega);refine jT rfl ?_;exact cN (fx (bu d) (cN (hG w gS) (cN B (iH G)))) (get P.o P.n (GF q (vH C)))
end
def jP (Z:a9) (m:Int) (fs:List Pl) (J:a9):a9:=Z++(Cell.obj "Places" (pF m (Z.length+1) (Z.length+2)):: .lst ((fs.map vv).map .fz):: .dd (jg 0 fs)::J)
theorem D7 (h:fs.length<100000):PSt Z.length (Z.length+1) (Z.length+2) m fs (jP Z m fs J):=
 ⟨by have:=sd (l:=Z) (r:=Cell.obj "Places" (pF m (Z.length+1) (Z.length+2)):: .lst ((fs.map vv).map .fz):: .dd (jg 0 fs)::J) (t:=0);exact this,sd,sd,by omega,by omega,by omega,h⟩
theorem AY:tS (Z.length+1) (Z.length+2) fs' (jP Z m fs J)=jP Z m fs' J:=by unfold tS jP;rw[C7,C7];rfl
def TM (m:Int):Xc:=⟨"TooMany",[("most",.int m)]⟩
theorem xl (a:0<=m) (h:m<=1000):L9.Os (.int m)=QW:=by refine decide_eq_true (aaF (Nat.log2_le_self m.natAbs) ?_);omega
theorem Ez (j:LD.keyD p=QW) (i:0<=m) (d:m<=1000):cU [.rf Z.length,.fz p,.fz (.int m)] (Z++[.obj "Places" []])=if m<=0 then .er (TM m) (jP Z m [] []) else .ok (.fz .none) (jP Z m [⟨p,.none,.none⟩] []):=by
 have h:fP "Places" "most" (az 0) (ag (aa 2)) [lD (.rf Z.length),-(p),-(.int m)] (Z++[.obj "Places" []])= .ok (.nx [lD (.rf Z.length),-(p),-(.int m)]) (Z++[.obj "Places" [("most",.fz (.int m))]]):=
  (oK (ai (af rfl)) (bJ rfl) aY (by decide)).trans (by rw[gw];rfl)
 have g:fP "Places" "found" (az 0) (ag (df aw)) [lD (.rf Z.length),-(p),-(.int m)] (Z++[.obj "Places" [("most",.fz (.int m))]])= .ok (.nx [lD (.rf Z.length),-(p),-(.int m)]) (Z++[.obj "Places" [("most",.fz (.int m)),("found",.rf (Z.length+1))],.lst []]):=by refine(oK (fy (by fail "ev")) (bJ rfl) (by rw[RJ];exact sd (t:=0)) (QY rfl)).trans ?_;rw[RJ,show Z.length=Z.length+0 from rfl,C7,Q3];rfl
 have f:fP "Places" "numbers" (az 0) Ag [lD (.rf Z.length),-(p),-(.int m)] (Z++[.obj "Places" [("most",.fz (.int m)),("found",.rf (Z.length+1))],.lst []])= .ok (.nx [lD (.rf Z.length),-(p),-(.int m)]) (jP Z m [] []):=by refine(oK rfl (bJ rfl) (by rw[RJ];exact sd (t:=0)) (QY rfl)).trans ?_;rw[RJ,show Z.length=Z.length+0 from rfl,C7,Q3];rfl
 have P:PSt Z.length (Z.length+1) (Z.length+2) m [] (jP Z m [] []):=D7 (by decide);have l:=uu (b:= .none) (e:= .none) P (xl i d) d j;have a:=AD (F:=b5) (fo:=az 0) (fa:=am (ag (aa 1)) (am (ag (pC .none)) (am (ag (pC .none)) aV))) (ρ:=[lD (.rf Z.length),-(p),-(.int m)]) (bJ rfl) P.o uv (au (ai (af rfl)) (au (ai aA) (au (ai aA) aW))) rfl;rw[l] at a;have a:rp "Places" "enter" b5 4 (az 0) (am (ag (aa 1)) (am (ag (pC .none)) (am (ag (pC .none)) aV))) [lD (.rf Z.length),-(p),-(.int m)] (jP Z m [] [])=if m<=0 then .er (TM m) (jP Z m [] []) else .ok (.fz (nd 0)) (tS (Z.length+1) (Z.length+2) [⟨p,.none,.none⟩] (jP Z m [] [])):=a
 rw[AY] at a;show dj 3 cT _ _=_;unfold dj;show((cT [lD (.rf Z.length),-(p),-(.int m)] (Z++[.obj "Places" []])).bind _)=_;unfold cT;rw[cN h rfl,cN g rfl,cN f rfl];unfold b3;rw[a];split<;>rfl
theorem pY:∀{l:List α},(∀a∈l,LD.kd (f a)=QW)->LD.kds (l.map f)=QW
 |[],_=>by rw[T7,LD.kds]
 |a::r,h=>by rw[Ri,LD.kds,h a Rh,pY fun x b=>h x (Rf _ b)];rfl
theorem Ji:∀ks:List Nat,LD.kds (bX ks)=QW:=fun ks=>pY fun a _=>by show LD.kd (.int a)=QW;rw[LD.kd]
theorem GW (h:LB m):LD.kd (mD m)=QW:=by
 cases m with
 |RH c=>show LD.kd (.tuple [.str "letter",.str (jq c)])=QW;simp only[LD.kd,LD.kds];rw[lW h,show QZ.strOk "letter"=QW by left];rfl
 |TZ n=>show LD.kd (.tuple [.str "layer",.int n])=QW;simp only[LD.kd,LD.kds];rw[show QZ.strOk "layer"=QW by left];rfl
 |WZ c n=>show LD.kd (.tuple [.str "tap",.str (jq c),.int n])=QW;simp only[LD.kd,LD.kds];rw[lW h,show QZ.strOk "tap"=QW by left];rfl
 |once n=>show LD.kd (.tuple [.str "once",.int n])=QW;simp only[LD.kd,LD.kds];rw[show QZ.strOk "once"=QW by left];rfl
 |none=>show LD.kd (.tuple [.str "none"])=QW;simp only[LD.kd,LD.kds];rw[show QZ.strOk "none"=QW by left];rfl
 |below=>show LD.kd (.tuple [.str "below"])=QW;simp only[LD.kd,LD.kds];rw[show QZ.strOk "below"=QW by left];rfl
theorem Hm (h:SW b s):LD.kd (dS s)=QW/\QZ.depth (dS s)<=4:=by
 have i:LD.kds ((gP s.ac).map pD)=QW:=pY fun q j=>by show LD.kd (.tuple [nd q.1,mD q.2])=QW;simp only[LD.kd,LD.kds];rw[GW (h.sa.ac _ _ (gn.mp j).2).2.lb];rfl
 have l:∀m:Mn,QZ.depth (mD m)<=1:=fun m=>by cases m<;>exact QY rfl
 have o:QZ.depthAll ((gP s.ac).map pD)<=2:=vP fun q _=>by show max 0 (max (QZ.depth (mD q.2)) 0)+1<=2;have:=l q.2;omega
 have e:LD.kd (jQ s.wt)=QW/\QZ.depth (jQ s.wt)<=2:=by
  cases q:s.wt with
  |none=>exact⟨by show LD.kd .none=QW;rw[LD.kd],RZ _⟩
  |some x=>
   obtain⟨a,g,w⟩:=x;have v:=(h.wt a g w q).1;constructor
   .show LD.kd (.tuple [.tuple (bX a),.int g,tK w])=QW
    simp only[LD.kd,LD.kds];rw[Ji];cases w with
    |none=>show(QW&&(QW&&(LD.kd (.tuple [.str "chord"])&&QW)))=QW;simp only[LD.kd,LD.kds];rw[show QZ.strOk "chord"=QW by left];rfl
    |some f=>obtain⟨c,n⟩:=f;have lb:LB (.WZ c n):=(v.tp c n rfl).1;show(QW&&(QW&&(LD.kd (mD (.WZ c n))&&QW)))=QW;rw[GW lb];rfl
   .show max (QZ.depthAll (bX a)+1) (max 0 (max (QZ.depth (tK w)) 0))+1<=2
    rw[qQ];cases w with
    |none=>exact QY rfl
    |some f=>exact QY rfl
 have d:LD.kd (tF s.oc)=QW/\QZ.depth (tF s.oc)=0:=by cases s.oc<;>exact⟨by show LD.kd _=QW;unfold tF;simp only[LD.kd],rfl⟩
 constructor
 .show LD.kd (.tuple [.tuple ((gP s.ac).map pD),jQ s.wt,tF s.oc])=QW;simp only[LD.kd,LD.kds];rw[i,e.1,d.1];rfl
 .show max (QZ.depthAll ((gP s.ac).map pD)+1) (max (QZ.depth (jQ s.wt)) (max (QZ.depth (tF s.oc)) 0))+1<=4;rw[d.2];have:=e.2;omega
theorem Qc (h:SW b s):LD.keyD (dS s)=QW:=by obtain⟨a,d⟩:=Hm h;unfold dS at a d⊢;rw[LD.kd] at a;rw[LD.keyD];rw[a,decide_eq_true (show _<=8 by omega)];rfl
def pG (n:Nat):List W0:=(Rj n).map .down++(Rj n).map .up++[.turn]
theorem km {b:Bd} {n:Nat} (hn:b.n=n):∀e∈pG n,EV b e:=by
 intro e a;rcases RL.mp a with a|a
 .rcases RL.mp a with a|a
  .obtain⟨k,d,rfl⟩:=RA.mp a;have:=SS.mp d;show(k:Int)<b.n;omega
  .obtain⟨k,d,rfl⟩:=RA.mp a;have:=SS.mp d;show(k:Int)<b.n;omega
 .rw[Rb.mp a];trivial
theorem J7 (h:xs.length+ys.length<=1000000):db (.list xs) (.list ys)=lD (.ow (xs++ys)):=if_pos h
theorem JG (b:Bd):bq (bD b) (.int 0)=-(.int b.n):=eJ
theorem Mh {b:Bd} {n:Nat} (hn:b.n=n) (j:n<=5):gy [bD b]= .ok (.ow ((pG n).map eG)):=by
 have h:j6 [.int b.n]=lD (bX (Rj n)):=by rw[hn];exact jM (by omega)
 have i:=JG b;have a:(Rj n).length<=1000:=by rw[R9];omega
 have e:lF (d5 (gN 0) fH (bQ {pC (.str "down"),aa 0}) (bX (Rj n)) [QS] [])= .ok ((Rj n).map fun k=>eG (.down k)):=kY nd (fun k=>eG (.down k)) (Rj n) a rfl fun k _=>cF (ah aA (ah (af rfl) aD)) rfl (QY rfl);have d:lF (d5 (gN 0) fH (bQ {pC (.str "up"),aa 0}) (bX (Rj n)) [QS] [])= .ok ((Rj n).map fun k=>eG (.up k)):=kY nd (fun k=>eG (.up k)) (Rj n) a rfl fun k _=>cF (ah aA (ah (af rfl) aD)) rfl (QY rfl);have g:db (.list ((Rj n).map fun k=>eG (.down k))) (.list ((Rj n).map fun k=>eG (.up k)))=lD (.ow (((Rj n).map fun k=>eG (.down k))++(Rj n).map fun k=>eG (.up k))):=J7 (by rw[QV,QV];omega);have f:db (.list (((Rj n).map fun k=>eG (.down k))++(Rj n).map fun k=>eG (.up k))) (.list [eG .turn])=lD (.ow ((pG n).map eG)):=(J7 (by rw[Q3,QV,QV];show _+1<=_;omega)).trans (by unfold pG;rw[RD,RD,RT,RT];rfl);refine gF rfl ?_;unfold ky;refine cM (fG (by fail "ev") rfl e) rfl rfl ?_;refine cM (fG (by fail "ev") rfl d) rfl rfl ?_;exact ei (ay (ay (jB rfl) (jB rfl) rfl rfl g) (oJ (ah (cF (ah aA (ah aA aD)) rfl (QY rfl)) aD) rfl (QY rfl)) rfl rfl f) rfl rfl
theorem Iz {ks a:List Nat} (h:bX ks=bX a):ks=a:=(Xh fun x y e=>by injection e with e;exact aax e).mp h
theorem zw {m n:Mn} (h:mD m=mD n):m=n:=by
 have e:=(nQ m).symm.trans ((congrArg (fun z=>bq z (.int 0)) h).trans (nQ n));injection e with e;injection e with e;injection e with e
 have w:=xf _ (o0 m) _ (o0 n);rw[show ws (wn m)=ws (wn n) from e,beq_self_eq_true] at w;have w:=of_decide_eq_true w.symm;cases m<;>cases n<;>first|rfl|(exfalso;revert w;simp[wn];done)|(injection h with h;injection h with _ h;injection h with h g;injection h with h)
 .rw[qO h]
 .rw[h]
 .injection g with g;injection g with g;rw[qO h,g]
 .rw[h]
theorem EC {b c:Bd} (l:VB b) (j:VB c) {s t:Uo} (B:SW b s) (A:SW c t) (h:dS s=dS t):s=t:=by
 injection h with h
 injection h with h1 h
 injection h with h2 h
 injection h with h3 _
 injection h1 with h1
 have f:gP s.ac=gP t.ac:=(Xh fun x y e=>by
  injection e with e;injection e with d e;injection e with e2 _;injection d with d
  exact Prod.ext (aax d) (zw e2)).mp h1
 have F:s.ac=t.ac:=funext fun k=>Option.ext fun a=>⟨fun e=>by
   have:=(gn (p:=(k,a))).mpr ⟨(SA.ak l B.sa k a e).1,e⟩;rw[f] at this;exact(gn.mp this).2,fun e=>by
   have:=(gn (p:=(k,a))).mpr ⟨(SA.ak j A.sa k a e).1,e⟩;rw[<-f] at this;exact(gn.mp this).2⟩
 have C:s.wt=t.wt:=by
  revert h2;cases s.wt with
  |none=>cases t.wt with
   |none=>exact fun _=>rfl
   |some y=>exact fun e=>by cases e
  |some x=>cases t.wt with
   |none=>exact fun e=>by cases e
   |some y=>
    obtain⟨G,g,w⟩:=x;obtain⟨H,i,v⟩:=y;intro e;injection e with e;injection e with d e;injection e with e2 e;injection e with e3 _;injection d with d;injection e2 with e2;have d:=Iz d;have:w=v:=by
     revert e3;cases w with
     |none=>cases v with
      |none=>exact fun _=>rfl
      |some q=>exact fun e=>by injection e with e;injection e with _ e;cases e
     |some p=>cases v with
      |none=>exact fun e=>by injection e with e;injection e with _ e;cases e
      |some q=>obtain⟨z,u⟩:=p;obtain⟨r,o⟩:=q;exact fun e=>by have:=zw (m:= .WZ z u) (n:= .WZ r o) e;injection this with a b;rw[a,b]
    rw[d,e2,this]
 have E:s.oc=t.oc:=by
  revert h3;cases s.oc<;>cases t.oc<;>intro e
  .rfl
  .cases e
  .cases e
  .injection e with e;rw[e]
 cases s;cases t;cases F;cases C;cases E;rfl
abbrev PP:=Uo×Uo
def kP (p:PP):D:= .tuple [dS p.1,dS p.2]
def j7 (b c:Bd) (p:PP) (e:W0):PP:=((bA b p.1 e).1,(bA c p.2 e).1)
def GG (b c:Bd) (p:PP) (e:W0):Prop:=(bA b p.1 e).2=(bA c p.2 e).2
def wG:PP:=(LS,LS)
def RW (b c:Bd) (a:List W0):Nat->PP->Prop
 |0,p=>p=wG
 |k+1,p=>∃q e,RW b c a k q/\e∈a/\p=j7 b c q e
def PW (b c:Bd) (p:PP):Prop:=SW b p.1/\SW c p.2
structure BB (b c:Bd) (es:List W0):Prop where
 vb:VB b
 vc:VB c
 eb:∀e∈es,EV b e
 ec:∀e∈es,EV c e
section
variable {b c:Bd} {Z:List W0}
theorem BB.sw (h:BB b c Z):BB c b Z:=⟨h.vc,h.vb,h.ec,h.eb⟩
theorem BB.nx (h:BB b c Z) (a:PW b c p) (d:e∈Z):PW b c (j7 b c p e):=⟨A1 h.vb a.1 (h.eb e d),A1 h.vc a.2 (h.ec e d)⟩
theorem BB.rw (h:BB b c Z):∀{k p},RW b c Z k p->PW b c p
 |0,p,e=>by rw[show p=wG from e];exact⟨k9 b,k9 c⟩
 |k+1,p,⟨q,e,hq,he,hp⟩=>by rw[hp];exact h.nx (h.rw hq) he
theorem DR (h:BB b c Z) (d:PW b c p) (a:PW b c q) (e:kP p=kP q):p=q:=by
 injection e with e;injection e with e1 e;injection e with e2 _
 exact Prod.ext (EC h.vb h.vb d.1 a.1 e1) (EC h.vc h.vc d.2 a.2 e2)
theorem RW.swp:∀{k p},RW b c Z k p->RW c b Z k p.swap
 |0,p,e=>by rw[show p=wG from e];rfl
 |k+1,p,⟨q,e,hq,he,hp⟩=>⟨q.swap,e,hq.swp,he,by rw[hp];rfl⟩
theorem gK (a:PW b c p):LD.keyD (kP p)=QW:=by obtain⟨e,g⟩:=Hm a.1;obtain⟨d,f⟩:=Hm a.2;unfold kP;rw[LD.keyD];simp only[LD.kds];rw[e,d,decide_eq_true (show QZ.depth (.tuple [dS p.1,dS p.2])<=8 by show max (QZ.depth (dS p.1)) (max (QZ.depth (dS p.2)) 0)+1<=8;omega)];rfl
structure ApD (b c:Bd) (Z:List W0) (d:Nat):Prop where
 x:∃p e,RW b c Z d p/\e∈Z/\¬GG b c p e
 n:∀k p e,k<d->RW b c Z k p->e∈Z->GG b c p e
theorem ApD.one (h:ApD b c Z d) (h':ApD b c Z d'):d=d':=by
 obtain⟨p,e,o,m,l⟩:=h.x;obtain⟨j,r,g,f,a⟩:=h'.x;by_cases q:d<d'
 .exact absurd (h'.n d p e q o m) l
 by_cases i:d'<d
 .exact absurd (h.n d' j r i g f) a
 omega
theorem ApD.swp (h:ApD b c Z d):ApD c b Z d:=by obtain⟨p,e,m,l,j⟩:=h.x;exact⟨⟨p.swap,e,m.swp,l,fun z=>j z.symm⟩,fun k q f g a i=>(h.n k q.swap f g a.swp i).symm⟩
structure AllP (b c:Bd) (Z:List W0) (l:List PP):Prop where
 u:l.Nodup
 r:∀p∈l,∃k,RW b c Z k p
 c:∀k p,RW b c Z k p->p∈l
theorem xa:∀{m l:List PP},m.Nodup->(∀x∈m,x∈l)->m.length<=l.length
 |[],_,_,_=>RZ _
 |a::r,l,h,hs=>by
  obtain⟨f,e,rfl⟩:=List.append_of_mem (hs a Rh);rw[Sz] at h;have:=xa (m:=r) (l:=f++e) h.2 fun x d=>by
   rcases RL.mp (hs x (Rf _ d)) with q|q
   .exact S1 _ q
   .rcases Rv.mp q with rfl|q
    .exact absurd d h.1
    .exact RY _ q
  rw[Q3] at this⊢;rw[Rg,Rg];omega
theorem AllP.len (h:AllP b c Z l) {m:List PP} (a:m.Nodup) (d:∀p∈m,∃k,RW b c Z k p):m.length<=l.length:=by refine xa a fun p e=> ?_;obtain⟨k,f⟩:=d p e;exact h.c k p f
theorem qu {l:List PP} (h:l.Nodup):(l.map Prod.swap).Nodup:=adI _ (fun a b n e=>n (by have:=congrArg Prod.swap e;rwa [Prod.swap_swap,Prod.swap_swap] at this)) h
theorem AllP.swp (h:AllP b c Z l):AllP c b Z (l.map Prod.swap):=by
 refine⟨qu h.u,fun p e=> ?_,fun k p a=> ?_⟩
 .obtain⟨q,d,rfl⟩:=RA.mp e;obtain⟨k,a⟩:=h.r q d;exact⟨k,a.swp⟩
 .exact RA.mpr ⟨p.swap,h.c k p.swap a.swp,Prod.swap_swap p⟩
end
theorem Fq:∀{fs:List Pl} {d:D} {t:Nat},iQ fs d=lD t->∃q,fs[t]? =lD q/\QZ.eqv q.p d=QW
 |[],_,_,h=>by cases h
 |a::r,d,t,h=>by
  unfold iQ at h;split at h
  .rename_i e;cases h;exact⟨a,rfl,e⟩
  .cases q:iQ r d with
   |none=>rw[q] at h;cases h
   |some j=>rw[q] at h;cases h;obtain⟨x,f,b⟩:=Fq q;exact⟨x,by simpa using f,b⟩
structure Pe where
 p:PP
 b:D
 e:D
 d:Nat
def i6 (q:Pe):Pl:=⟨kP q.p,q.b,q.e⟩
def NK:Pe:=⟨wG,.none,.none,0⟩
def Dn (b c:Bd) (fs:List Pe) (q:Pe) (e:W0):Prop:=GG b c q.p e/\∃r∈fs,r.p=j7 b c q.p e/\r.d<=q.d+1
structure BI (b c:Bd) (es:List W0) (fs:List Pe) (n:Nat):Prop where
 z:fs[0]? =lD NK
 bk:∀i q,fs[i]? =lD q->0<i->∃j r,j<i/\fs[j]? =lD r/\q.b=nd j/\q.d=r.d+1
 rw:∀q∈fs,RW b c es q.d q.p
 mo:fs.Pairwise fun q r=>q.d<=r.d
 up:∀q,fs[n]? =lD q->∀r∈fs,r.d<=q.d+1
 un:(fs.map (·.p)).Nodup
 dn:∀j q,j<n->fs[j]? =lD q->∀e∈es,Dn b c fs q e
section
variable {b c:Bd} {Z:List W0} {fs:List Pe} {n:Nat}
theorem QD:BI b c Z [NK] 0:=by
 refine⟨rfl,fun i q h hi=> ?_,fun q a=> ?_,SK _ _,fun q a r d=> ?_,SK _ _,fun j q e=>absurd e (abV _)⟩
 .match i,hi,h with
  |i+1,_,h=>cases h
 .rw[Rb.mp a];rfl
 .rw[Rb.mp d];exact RZ _
theorem Dn.mono (h:Dn b c fs q e) (l:List Pe):Dn b c (fs++l) q e:=by obtain⟨a,r,d,x⟩:=h;exact⟨a,r,S1 _ d,x⟩
theorem BI.old (B:BB b c Z) (h:BI b c Z fs n) (i:fs[n]? =lD q) (j:e∈Z) (ha:GG b c q.p e) (hi:iQ (fs.map i6) (kP (j7 b c q.p e))=lD t):Dn b c fs q e:=by
 obtain⟨r,a,l⟩:=Fq hi;rw[Q7] at a;cases z:fs[t]? with
 |none=>rw[z] at a;cases a
 |some u=>rw[z] at a;cases a;have d:=Ro z;have f:=B.rw (h.rw u d);have g:=B.nx (B.rw (h.rw q (Ro i))) j;exact⟨ha,u,d,DR B f g (LD.kd_eqv _ _ (LD.keyD_kd (gK f)).1 (LD.keyD_kd (gK g)).1 l),h.up q i u d⟩
theorem xU:∀{fs:List Pl} {d:D},iQ fs d=QS->∀q∈fs,QZ.eqv q.p d=Q2
 |[],_,_,_,hq=>by cases hq
 |a::r,d,h,q,hq=>by
  unfold iQ at h;by_cases e:QZ.eqv a.p d=QW
  .rw[if_pos e] at h;cases h
  .rw[if_neg e] at h
   rcases Rv.mp hq with rfl|hq
   .exact aaI.mpr e
   .exact xU (by cases z:iQ r d with|none=>rfl|some _=>rw[z] at h;cases h) q hq
theorem BI.new (B:BB b c Z) (h:BI b c Z fs n) (l:fs[n]? =lD q) (v:e∈Z) (hi:iQ (fs.map i6) (kP (j7 b c q.p e))=QS):BI b c Z (fs++[⟨j7 b c q.p e,nd n,eG e,q.d+1⟩]) n:=by
 have w:=(QU.mp l).1;have t:=Ro l;have old:∀{i:Nat} {r:Pe},fs[i]? =lD r->(fs++[⟨j7 b c q.p e,L3.nd n,eG e,q.d+1⟩])[i]? =lD r:=fun x=>(Ra (QU.mp x).1).trans x;refine⟨old h.z,fun i r a o=> ?_,fun r a=> ?_,?_,fun r a u g=> ?_,?_,fun j r E a f F=> ?_⟩
 .by_cases A:i<fs.length
  .rw[Ra A] at a;obtain⟨j,u,J,I,H⟩:=h.bk i r a o;exact⟨j,u,J,old I,H⟩
  .rw[RE (by omega)] at a
   have z:i - fs.length=0:=by have:=(QU.mp a).1;rw[TQ] at this;omega
   rw[z] at a;cases a;exact⟨n,q,by omega,old l,rfl,rfl⟩
 .rcases RL.mp a with a|a
  .exact h.rw r a
  .rw[Rb.mp a];exact⟨q.p,e,h.rw q t,v,rfl⟩
 .rw[ZS];refine⟨h.mo,SK _ _,fun r a u g=> ?_⟩;rw[Rb.mp g];exact h.up q l r a
 .rw[Ra w,l] at a
  cases a;rcases RL.mp g with g|g
  .exact h.up q l u g
  .rw[Rb.mp g];exact Q4 _
 .rw[RD,TY];refine⟨h.un,SK _ _,fun x C y m G=> ?_⟩;obtain⟨r,a,rfl⟩:=RA.mp C;have m:y=j7 b c q.p e:=Rb.mp m;have:=xU hi (i6 r) (RA.mpr ⟨r,a,rfl⟩);rw[show(i6 r).p=kP (j7 b c q.p e) by show kP r.p=_;rw[G,m],vH (gK (B.nx (B.rw (h.rw q t)) v))] at this;cases this
 .rw[Ra (by omega)] at a;exact(h.dn j r E a f F).mono _
theorem BI.next (h:BI b c Z fs n) (d:fs[n]? =lD q) (hd:∀e∈Z,Dn b c fs q e):BI b c Z fs (n+1):=by
 refine⟨h.z,h.bk,h.rw,h.mo,fun r a u m=> ?_,h.un,fun j r o a e i=> ?_⟩
 .have g:=(QU.mp d);have f:=(QU.mp a);have:=Vt.mp h.mo n (n+1) g.1 f.1 (by omega);rw[g.2,f.2] at this;have:=h.up q d u m;omega
 .by_cases l:j<n
  .exact h.dn j r l a e i
  .have:j=n:=by omega
   subst this;rw[d] at a;cases a;exact hd e i
theorem BI.all (h:BI b c Z fs n) (f:fs[n]? =lD q):∀k p,k<=q.d->RW b c Z k p->∃r∈fs,r.p=p/\r.d<=k
 |0,p,_,hp=>⟨NK,Ro h.z,(show p=wG from hp).symm,Q4 _⟩
 |k+1,p,hk,⟨u,e,hu,he,hp⟩=>by
  obtain⟨r,v,t,A⟩:=h.all f k u (by omega) hu;obtain⟨j,a⟩:=Sx.mp v;have o:j<n:=Decidable.byContradiction fun z=>by
   have i:=(QU.mp f);have g:=(QU.mp a);by_cases e:n=j
   .subst e;rw[f] at a;cases a;omega
   .have:=Vt.mp h.mo n j i.1 g.1 (by omega);rw[i.2,g.2] at this;omega
  obtain⟨_,w,m,l,y⟩:=h.dn j r o a e he;exact⟨w,m,by rw[l,hp,t],by omega⟩
theorem BI.apart (h:BI b c Z fs n) (a:fs[n]? =lD q) (u:e∈Z) (ha:¬GG b c q.p e):ApD b c Z q.d:=by
 refine⟨⟨q.p,e,h.rw q (Ro a),u,ha⟩,fun k p f y o t=> ?_⟩;obtain⟨r,w,v,A⟩:=h.all a k p (by omega) o;obtain⟨j,g⟩:=Sx.mp w;have m:j<n:=Decidable.byContradiction fun z=>by
  have l:=(QU.mp a);have i:=(QU.mp g);by_cases e:n=j
  .subst e;rw[a] at g;cases g;omega
  .have:=Vt.mp h.mo n j l.1 i.1 (by omega);rw[l.2,i.2] at this;omega
 rw[<-v];exact(h.dn j r m g f t).1
theorem BI.same (h:BI b c Z fs n) (hn:fs.length<=n):AllP b c Z (fs.map (·.p))/\∀k p e,RW b c Z k p->e∈Z->GG b c p e:=by
 have m:∀q∈fs,∀e∈Z,Dn b c fs q e:=fun q C e f=>by obtain⟨j,l⟩:=Sx.mp C;exact h.dn j q (Rq (QU.mp l).1 hn) l e f
 have o:∀k p,RW b c Z k p->∃r∈fs,r.p=p:=by
  intro k
  induction k with
  |zero=>exact fun p a=>⟨NK,Ro h.z,(show p=wG from a).symm⟩
  |succ k y=>rintro p ⟨u,e,A,f,a⟩;obtain⟨r,i,g⟩:=y u A;obtain⟨_,w,v,t,_⟩:=m r i e f;exact⟨w,v,by rw[t,a,g]⟩
 refine⟨⟨h.un,fun p a=> ?_,fun k p a=> ?_⟩,fun k p e a f=> ?_⟩
 .obtain⟨r,B,rfl⟩:=RA.mp a;exact⟨r.d,h.rw r B⟩
 .obtain⟨r,i,g⟩:=o k p a;exact RA.mpr ⟨r,i,g⟩
 .obtain⟨r,i,g⟩:=o k p a;rw[<-g];exact(m r i e f).1
end
section
variable {ρ:bx} {Z Z1 Z2:a9} {x:SV}
theorem rA {F:i7} {n:Nat} {fa:yp} {xs:List SV} (ha:fa ρ Z= .ok xs Z1) (a:t7 F n xs Z1= .ok x Z2):lV F n fa ρ Z= .ok x Z2:=by unfold lV;rw[ha,RS.bind_ok,a];rfl
theorem Fy (sn:List D) (a:D):frz 4 (Z++[.lst (sn.map .fz)]) (.tp [.rf Z.length,.fz a])=lD (.tuple [.list sn,a],Z++[.dead]):=by
 have d:frz 3 (Z++[.lst (sn.map .fz)]) (.rf Z.length)=lD (.list sn,Z++[.dead]):=by unfold frz;rw[aY];dsimp only;rw[qH];dsimp only;rw[gw]
 have b:lz (frz 3) (Z++[.lst (sn.map .fz)]) [.rf Z.length,.fz a]=lD ([.list sn,a],Z++[.dead]):=by unfold lz;rw[d];rfl
 unfold frz;rw[show([AV.rf Z.length,AV.fz a].map AV.sv)=[.rf Z.length,.fz a] from rfl,b]
theorem Cj {b:Bd} (a:VB b) {s:Uo} (sw:SW b s) {e:W0} (d:EV b e) {fa fb fc:dC} (h:fa ρ Z= .ok (.fz (bD b)) Z) (g:fb ρ Z= .ok (.fz (dS s)) Z) (f:fc ρ Z= .ok (.fz (eG e)) Z):lA (lV STP.dD 3 (am fa (am fb (am fc aV)))) ρ Z= .ok (.fz (.tuple [.list ((bA b s e).2.map iu),dS (bA b s e).1])) (Z++[.dead]):=
 jI (rA (au h (au g (au f aW))) (GJ a sw d)) (Fy _ _)
end
theorem OW (h:Out r T X) (k:∀a Z,T a Z->T' a Z) (b:∀x,X x->X' x):Out r T' X':=by
 refine⟨?_⟩;have h:=h.out;cases r with
 |bad=>exact h
 |er x o=>exact b x h
 |ok a o=>exact k a o h
theorem A0:jP Z m fs (J++K)=jP Z m fs J++K:=by unfold jP;rw[RJ];rfl
theorem Ph:(jP Z m fs J).length=Z.length+3+J.length:=by unfold jP;rw[Q3];show Z.length+(J.length+1+1+1)=_;omega
theorem Pf {xs:List SV} {n:Nat} {v:SV} (h:xs[n]? =lD v):lx xs (n:Int)=lD v:=vh (by omega) (by rw[Sl];exact h)
theorem L7 {b c:Bd} {K:List W0} {fs:List Pe} {n t i j k:Nat} {q:Pe} {m:Int} {Z:a9} (B:BI b c K fs t) (h:PSt i j k m (fs.map i6) Z) (C:fs[n]? =lD q):∃(J:a9) (row:List D),cQ [.rf i,.fz (nd n)] Z= .ok (.rf (Z.length+1)) (Z++J)/\J[1]? =lD (.lst (row.map .fz))/\row.length=q.d:=by
 have lt:=h.lt;rw[QV] at lt;have A:Out (cQ [.rf i,.fz (nd n)] Z) (fun v g=>∃row:List D,v= .rf (Z.length+1)/\g=Z++[.lst (row.reverse.map .fz),.lst (row.map .fz)]/\row.length=q.d) (fun _=>False):=by
  refine v9 rfl ?_;unfold gG;refine dZ (ρ1:=[lD (.rf i),-(nd n),lD (.rf Z.length),QS]) (fy (by fail "ev")) rfl ?_;have G:∀{X:a9},PSt i j k m (fs.map i6) (Z++X):=fun{X}=>by have N:=(QU.mp h.o).1;have M:=(QU.mp h.f).1;have L:=(QU.mp h.n).1;exact⟨(Ra N).trans h.o,(Ra M).trans h.f,(Ra L).trans h.n,h.jk,h.ij,h.ik,h.lt⟩
  have F:∀{X:a9} {ρ:bx} {f:dC} {a:Nat} {r:Pe},ρ[0]? =lD (lD (.rf i))->f ρ (Z++X)= .ok (.fz (nd a)) (Z++X)->fs[a]? =lD r->fY (bv "Places" "found" (az 0)) f ρ (Z++X)= .ok (.fz (vv (i6 r))) (Z++X):=fun{X ρ f a r} h0 w u=>uT (iU (bJ h0) G.o oO) w rfl G.f (Pf (by rw[Q7,Q7,Q7,u];rfl));refine dZ (x:= .fz (vv (i6 q))) (ρ1:=[lD (.rf i),-(nd n),lD (.rf Z.length),-(vv (i6 q))]) (F rfl (ai (af rfl)) C) rfl ?_;refine kB (sJ (fun s ρ g=>∃(row:List D) (a:Nat) (r:Pe),ρ=[lD (.rf i),-(nd n),lD (.rf Z.length),-(vv (i6 r))]/\g=Z++[.lst (row.map .fz)]/\fs[a]? =lD r/\row.length=s/\a+s<=n/\row.length+r.d=q.d) 100000 (by decide) ⟨[],n,q,rfl,rfl,C,rfl,Q4 _,Vd _⟩ ?_);rintro s ρ g ⟨row,a,r,rfl,rfl,ha,hs,han,hd⟩;have P:=(QU.mp C).1;by_cases O:a=0
  .subst O;rw[B.z] at ha;cases ha;have E:bT (aK (aJ mI (aJ bq (aa 3) (~~~1)) (pC .none))) [lD (.rf i),-(nd n),lD (.rf Z.length),-(vv (i6 NK))] (Z++[.lst (row.map .fz)])= .ok Q2 (Z++[.lst (row.map .fz)]):=bw (aZ (ay (rv:= .fz (.bool Q2)) (ay (rv:= .fz .none) (af rfl) aA rfl rfl fU) aA rfl rfl rfl) rfl);refine .inl ⟨_,E,?_⟩;refine r8 ((Ke (xs:=row.map .fz) (bJ rfl) aY).trans (by rw[Q3,RJ,<-abc];rfl)) ⟨row.reverse,rfl,by rw[List.reverse_reverse];rfl,by rw[Tw];exact hd⟩
  .obtain⟨I,y,w,u,p,Q⟩:=B.bk a r ha (by omega);have E:bT (aK (aJ mI (aJ bq (aa 3) (~~~1)) (pC .none))) [lD (.rf i),-(nd n),lD (.rf Z.length),-(vv (i6 r))] (Z++[.lst (row.map .fz)])= .ok QW (Z++[.lst (row.map .fz)]):=bw (aZ (ay (rv:= .fz (.bool QW)) (ay (rv:= .fz r.b) (af rfl) aA rfl rfl fU) aA rfl rfl (by rw[p];rfl)) rfl);refine .inr ⟨by omega,_,E,?_⟩;have H:=vd (ρ:=[lD (.rf i),-(nd n),lD (.rf Z.length),-(vv (i6 r))]) (fo:=az 2) (fe:=ag (aJ bq (aa 3) (~~~2))) (x:= .fz r.e) (bJ rfl) (aY (l:=Z) (x:=Cell.lst (row.map .fz))) (ai (ay (rv:= .fz r.e) (af rfl) aA rfl rfl rq)) aY (by rw[QV];omega);rw[gw,show row.map SV.fz++[.fz r.e]=(row++[r.e]).map SV.fz by rw[RD];rfl] at H;refine KB (iH H) ?_;refine yO (ρ1:=[lD (.rf i),-(nd n),lD (.rf Z.length),-(vv (i6 y))]) (qU (F rfl (ai (ay (rv:= .fz (nd I)) (af rfl) aA rfl rfl (by rw[<-p];exact fU))) u) rfl) ⟨row++[r.e],I,y,rfl,rfl,u,by rw[Q3,hs];rfl,by omega,by rw[Q3];show row.length+1+y.d=_;omega⟩
 obtain⟨v,g,w,row,rfl,rfl,p⟩:=A.all;exact⟨_,row,w,rfl,p⟩
theorem Mm {x y:Sn} (h:x.map iu=y.map iu):x=y:=(Xh fun p q e=>by
 injection e with e;injection e with e1 e;injection e with e2 _;injection e1 with e1;injection e2 with e2
 refine Prod.ext (qO e1) ?_;revert e2;cases p.2<;>cases q.2
 .exact fun _=>rfl
 .exact fun e=>absurd e (by left)
 .exact fun e=>absurd e (by left)
 .exact fun _=>rfl).mp h
theorem Eh {x:Sn} (h:UZ x):LD.kds (x.map iu)=QW:=pY fun p a=>by show LD.kd (.tuple [.str (jq p.1),.str (if p.2=QW then "down" else "up")])=QW;simp only[LD.kd,LD.kds];rw[lW (h p a)];cases p.2<;>left
theorem K4 {x y:Sn} (a:UZ x) (b:UZ y):nW (.list (x.map iu)) (.list (y.map iu))=-(.bool (decide (x≠y))):=by
 have e:QZ.eqv (.list (x.map iu)) (.list (y.map iu))=decide (x=y):=by
  rw[QZ.eqv];by_cases q:x=y
  .subst q;rw[decide_eq_true rfl];have:=Uv _ (nX (zc a));rw[QZ.eqv] at this;exact this
  .rw[decide_eq_false q]
   cases z:QZ.eqvAll (x.map iu) (y.map iu) with
   |false=>rfl
   |true=>exact absurd (Mm (LD.kds_eqv _ _ (Eh a) (Eh b) z)) q
 unfold nW;rw[zc a,nX (zc b),Tb,if_pos rfl,e];by_cases q:x=y
 .rw[decide_eq_true q,decide_eq_false (not_not_intro q)];rfl
 .rw[decide_eq_false q,decide_eq_true q];rfl
theorem Lu {Z:a9} {x y:SV} {f:D->D->Option RV} {dx a:D} {ds:List D} (d:sh Z x=lD dx) (b:sh Z y=lD a) (h:f dx a=lD (.ow ds)):oz f x y Z= .ok (.rf Z.length) (Z++[.lst (ds.map .fz)]):=by unfold oz;rw[d,b];show((RS.Sh Z (f dx a)).bind fun rv e=>kO e rv)=_;rw[h];rfl
abbrev yD (b c:Bd) (m:Int) (a:List W0) (l n:Nat) (o6 o7 o8 o9:Option SV):bx:=[-(bD b),-(bD c),-(.int m),-(.list (a.map eG)),lD (.rf l),-(nd n),o6,o7,o8,o9]
def QA (b c:Bd) (a:List W0) (v:SV) (f:a9):Prop:=
 (∃(i:Nat) (row:List D) (d:Nat),v= .tp [.fz (.str "apart"),.rf i]/\f[i]? =lD (.lst (row.map .fz))/\row.length=d+1/\ApD b c a d)\/
 ∃(i:Nat) (l:List PP),v= .tp [.fz (.str "same"),.rf i]/\f[i]? =lD (.lst ((l.map kP).map .fz))/\AllP b c a l/\∀k p e,RW b c a k p->e∈a->GG b c p e
def QF (b c:Bd) (a:List W0) (m:Int) (x:Xc):Prop:=x=TM m/\∃l:List PP,l.Nodup/\(∀p∈l,∃k,RW b c a k p)/\m<(l.length:Int)
theorem Fs {b c:Bd} (Y:VB b) (U:VB c) {n:Nat} (hn:b.n=n) (T:c.n=n) (h5:n<=5) {m:Int} (m0:0<m) (m4:m<=1000) (G:a9):Out (ip [.fz (bD b),.fz (bD c),.fz (.int m)] G) (QA b c (pG n)) (QF b c (pG n) m):=by
 have ell:(pG n).length<=1000:=by unfold pG;rw[Q3,Q3,QV,QV,R9];show n+n+1<=_;omega
 have ev:=Mh hn h5;have BB:BB b c (pG n):=⟨Y,U,km hn,km T⟩;generalize pG n=es at ell ev BB;refine v9 rfl ?_;unfold z5;have t1:bT (aK (aJ nW (aJ bq (aa 0) (~~~0)) (aJ bq (aa 1) (~~~0)))) [-(bD b),-(bD c),-(.int m),QS,QS,QS,QS,QS,QS,QS] G= .ok Q2 G:=bw (aZ (ay (rv:= .fz (.bool Q2)) (ay (rv:= .fz (.int b.n)) (af rfl) aA rfl rfl (JG b)) (ay (rv:= .fz (.int c.n)) (af rfl) aA rfl rfl (JG c)) rfl rfl (by rw[hn,T];exact qK rfl)) rfl);refine ot t1 (lf ?_);have e1:lA (ag (cP gy 1 {aa 0})) [-(bD b),-(bD c),-(.int m),QS,QS,QS,QS,QS,QS,QS] G= .ok (.fz (.list (es.map eG))) (G++[.dead]):=by refine jI (fy (bO (ah (af rfl) aD) rfl rfl ev)) ?_;rw[mV aY,gw]
 refine dZ e1 rfl ?_;generalize G++[Cell.dead]=base;have mk:=MP (C:= "Places") (F:=cU) (fa:=am (ag (bQ {pC (.tuple [(.tuple []),.none,.none]),pC (.tuple [(.tuple []),.none,.none])})) (am (ag (aa 2)) aV)) (ρ:=[-(bD b),-(bD c),-(.int m),-(.list (es.map eG)),QS,QS,QS,QS,QS,QS]) (Z:=base) (au (ai (d:=kP wG) (cF (ah aA (ah aA aD)) rfl (QY rfl))) (au (ai (af rfl)) aW)) rfl;rw[Ez (gK (b:=b) (c:=c) ⟨k9 b,k9 c⟩) (by omega) m4,if_neg (by omega)] at mk;refine dZ (ρ1:=[-(bD b),-(bD c),-(.int m),-(.list (es.map eG)),lD (.rf base.length),QS,QS,QS,QS,QS]) mk rfl ?_;refine dZ (ρ1:=yD b c m es base.length 0 QS QS QS QS) (ai aA) rfl ?_;refine kB (sJ (fun n ρ Z=>∃(fs:List Pe) (J:a9) (o6 o7 o8 o9:Option SV),ρ=yD b c m es base.length n o6 o7 o8 o9/\Z=jP base m (fs.map i6) J/\BI b c es fs n/\n<=fs.length/\(fs.length:Int)<=m) 1000 (by decide) ⟨[NK],[],QS,QS,QS,QS,rfl,rfl,QD,RZ _,by show(1:Int)<=m;omega⟩ ?_);rintro n ρ Z ⟨fs,J,o6,o7,o8,o9,rfl,rfl,bi,hle,Ym⟩;have P:∀{fs:List Pe} {J:a9},(fs.length:Int)<=m->PSt base.length (base.length+1) (base.length+2) m (fs.map i6) (jP base m (fs.map i6) J):=fun{fs J} h=>D7 (by rw[QV];omega);have ff:∀{fs:List Pe} {J:a9} {o6 o7 o8 o9:Option SV},(fs.length:Int)<=m->bv "Places" "found" (az 4) (yD b c m es base.length n o6 o7 o8 o9) (jP base m (fs.map i6) J)= .ok (.rf (base.length+1)) (jP base m (fs.map i6) J):=fun h=>iU (bJ rfl) (P h).o oO;have M:BV dk (am (bv "Places" "found" (az 4)) aV) (yD b c m es base.length n o6 o7 o8 o9) (jP base m (fs.map i6) J)= .ok (.fz (nd fs.length)) (jP base m (fs.map i6) J):=xz (au (ff Ym) aW) (by unfold aQ;rw[fT (P Ym).f];rfl) ((eO _).trans (by rw[QV,QV]));have N:=bu (cL (ai (f:=aa 5) (af rfl)) M (cg (ku (n:Int) (fs.length:Int))));by_cases Va:n<fs.length
 case neg=>
  rw[decide_eq_false (by omega)] at N;refine .inl ⟨_,N,?_⟩;have S:=bi.same (by omega);have is:=uX (ff (o6:=o6) (o7:=o7) (o8:=o8) (o9:=o9) (J:=J) Ym) (P Ym).f;have T:=kR (gt:=gA 0) (ft:=lL) (fe:=ag (aJ bq (aa 0) (~~~0))) (fun q:Pe=>vv (i6 q)) (fun q=>SV.fz (kP q.p)) ((jP base m (fs.map i6) J).set (base.length+1) .dead) (fun ρ=>∃o,ρ=[o]) fs [QS] [] ⟨QS,rfl⟩ (by rw[SD];omega) (fun q _ ρ ⟨o,ho⟩=>by subst ho;exact⟨[-(vv (i6 q))],rfl,rfl,ai (ay (rv:= .fz (kP q.p)) (af rfl) aA rfl rfl eJ),_,rfl⟩);have cs:lS 1 [] (jX (bv "Places" "found" (az 4))) (gA 0) lL (ag (aJ bq (aa 0) (~~~0))) (yD b c m es base.length n o6 o7 o8 o9) (jP base m (fs.map i6) J)= .ok (.rf ((jP base m (fs.map i6) J).set (base.length+1) .dead).length) ((jP base m (fs.map i6) J).set (base.length+1) .dead++[.lst (fs.map fun q=>SV.fz (kP q.p))]):=p7 is (by rw[RT];exact T);refine r8 (Cc (au (ai aA) (au cs aW)) (QY rfl) rfl rfl) (.inr ⟨_,fs.map (·.p),rfl,?_,S⟩);rw[aY,RT,RT];rfl
 case pos=>
  rw[decide_eq_true (by omega)] at N;refine .inr ⟨by omega,_,N,?_⟩;obtain⟨q,a⟩:∃q,fs[n]? =lD q:=⟨_,Q5 Va⟩;have st:fY (fY (bv "Places" "found" (az 4)) (ag (aa 5))) (ag (~~~0)) (yD b c m es base.length n o6 o7 o8 o9) (jP base m (fs.map i6) J)= .ok (.fz (kP q.p)) (jP base m (fs.map i6) J):=cI (dx:=vv (i6 q)) (uT (ff Ym) (ai (d:=nd n) (af rfl)) rfl (P Ym).f (Pf (by rw[Q7,Q7,Q7,a];rfl))) (ai aA) eJ;refine dZ (x:= .fz (kP q.p)) (ρ1:=yD b c m es base.length n (-(kP q.p)) o7 o8 o9) st rfl ?_;refine kB (GK (fun i ρ Z=>∃(fs:List Pe) (J:a9) (o7 o8 o9:Option SV),ρ=yD b c m es base.length n (-(kP q.p)) o7 o8 o9/\Z=jP base m (fs.map i6) J/\BI b c es fs n/\fs[n]? =lD q/\(fs.length:Int)<=m/\∀e∈es.take i,Dn b c fs q e) (rd (jy (d:= .list (es.map eG)) (af rfl) rfl rfl)) ⟨fs,J,o7,o8,o9,rfl,rfl,bi,a,Ym,fun e he=>by cases he⟩ ?_ ?_)
  .clear N M st Va a hle bi Ym
   rintro i d ρ Z L ⟨fs,J,o7,o8,o9,rfl,rfl,bi,a,Ym,dn⟩;rw[Q7] at L;cases qe:es[i]? with
   |none=>rw[qe] at L;cases L
   |some e=>
    rw[qe] at L;cases Rm L;have A:=Ro qe;have H:=BB.rw (bi.rw q (Ro a));refine⟨yD b c m es base.length n (-(kP q.p)) (-(eG e)) o8 o9,_,rfl,?_⟩;have s1:=Cj (ρ:=yD b c m es base.length n (-(kP q.p)) (-(eG e)) o8 o9) (Z:=jP base m (fs.map i6) J) Y H.1 (BB.eb e A) (fa:=ag (aa 0)) (fb:=ag (aJ bq (aa 6) (~~~0))) (fc:=ag (aa 7)) (ai (af rfl)) (ai (ay (rv:= .fz (dS q.p.1)) (af rfl) aA rfl rfl eJ)) (ai (af rfl));rw[<-A0] at s1;have k1:=qG Y H.1 (BB.eb e A);have k2:=qG U H.2 (BB.ec e A);have B:kP (j7 b c q.p e)= .tuple [dS (bA b q.p.1 e).1,dS (bA c q.p.2 e).1]:=rfl;have w:GG b c q.p e↔(bA b q.p.1 e).2=(bA c q.p.2 e).2:=Iff.rfl;refine dZ (ρ1:=yD b c m es base.length n (-(kP q.p)) (-(eG e)) (-(.tuple [.list ((bA b q.p.1 e).2.map iu),dS (bA b q.p.1 e).1])) o9) s1 rfl ?_;have Q:=Cj (ρ:=yD b c m es base.length n (-(kP q.p)) (-(eG e)) (-(.tuple [.list ((bA b q.p.1 e).2.map iu),dS (bA b q.p.1 e).1])) o9) (Z:=jP base m (fs.map i6) (J++[.dead])) U H.2 (BB.ec e A) (fa:=ag (aa 1)) (fb:=ag (aJ bq (aa 6) (~~~1))) (fc:=ag (aa 7)) (ai (af rfl)) (ai (ay (rv:= .fz (dS q.p.2)) (af rfl) aA rfl rfl fU)) (ai (af rfl));rw[<-A0] at Q;clear s1;generalize bA b q.p.1 e=u at Q k1 B w;generalize bA c q.p.2 e=v at Q k2 B w;refine dZ (ρ1:=yD b c m es base.length n (-(kP q.p)) (-(eG e)) (-(.tuple [.list (u.2.map iu),dS u.1])) (-(.tuple [.list (v.2.map iu),dS v.1]))) Q rfl ?_;generalize J++[Cell.dead]++[Cell.dead]=J;have O:bT (aK (aJ nW (aJ bq (aa 8) (~~~0)) (aJ bq (aa 9) (~~~0)))) (yD b c m es base.length n (-(kP q.p)) (-(eG e)) (-(.tuple [.list (u.2.map iu),dS u.1])) (-(.tuple [.list (v.2.map iu),dS v.1]))) (jP base m (fs.map i6) J)= .ok (decide (u.2≠v.2)) (jP base m (fs.map i6) J):=bw (aZ (ay (rv:= .fz (.bool (decide (u.2≠v.2)))) (ay (rv:= .fz (.list (u.2.map iu))) (af rfl) aA rfl rfl eJ) (ay (rv:= .fz (.list (v.2.map iu))) (af rfl) aA rfl rfl eJ) rfl rfl (K4 k1 k2)) rfl);by_cases E:u.2=v.2
    .rw[decide_eq_false (not_not_intro E)] at O
     have E:=w.mpr E;refine ot O (lf ?_);have l:=AD (F:=b5) (fo:=az 4) (fa:=am (ag (bQ {aJ bq (aa 8) (~~~1),aJ bq (aa 9) (~~~1)})) (am (ag (aa 5)) (am (ag (aa 7)) aV))) (ρ:=yD b c m es base.length n (-(kP q.p)) (-(eG e)) (-(.tuple [.list (u.2.map iu),dS u.1])) (-(.tuple [.list (v.2.map iu),dS v.1]))) (Z:=jP base m (fs.map i6) J) (m:= "enter") (n:=4) (bJ rfl) (P Ym).o uv (au (ai (d:=kP (j7 b c q.p e)) (by rw[B];exact cF (ah (ay (rv:= .fz (dS u.1)) (af rfl) aA rfl rfl fU) (ah (ay (rv:= .fz (dS v.1)) (af rfl) aA rfl rfl fU) aD)) rfl (QY rfl))) (au (ai (af rfl)) (au (ai (af rfl)) aW))) rfl;rw[uu (P Ym) (xl (by omega) m4) m4 (gK (BB.nx H A))] at l;refine G4 ?_;have tk:es.take (i+1)=es.take i++[e]:=by rw[Vx,qe];rfl
     cases qi:iQ (fs.map i6) (kP (j7 b c q.p e)) with
     |some t=>
      rw[qi] at l;refine .eq l ⟨fs,J,_,_,_,rfl,rfl,bi,a,Ym,fun f g=> ?_⟩;rw[tk] at g;rcases RL.mp g with g|g
      .exact dn f g
      .rw[Rb.mp g];exact bi.old BB a A E qi
     |none=>
      rw[qi] at l;dsimp only at l;rw[QV] at l;have bn:=bi.new BB a A qi;by_cases hm:m<=(fs.length:Int)
      .rw[if_pos hm] at l
       refine .eq l ⟨rfl,_,bn.un,fun p hp=> ?_,?_⟩
       .obtain⟨r,I,rfl⟩:=RA.mp hp;exact⟨r.d,bn.rw r I⟩
       .rw[QV,Q3];show m<((fs.length+1:Nat):Int);omega
      .rw[if_neg hm,AY] at l
       have R:=(QU.mp a).1;refine .eq l ⟨fs++[⟨j7 b c q.p e,nd n,eG e,q.d+1⟩],J,_,_,_,rfl,by rw[RD];rfl,bn,(Ra R).trans a,?_,fun f g=> ?_⟩
       .rw[Q3];show((fs.length+1:Nat):Int)<=m;omega
       .rw[tk] at g
        rcases RL.mp g with g|g
        .exact(dn f g).mono _
        .rw[Rb.mp g];exact⟨E,_,RY _ Rh,rfl,Q4 _⟩
    .rw[decide_eq_true E] at O
     have nal:¬GG b c q.p e:=fun z=>E (w.mp z);refine ww O ?_;obtain⟨K,row,w1,w2,w3⟩:=L7 bi (P (J:=J) Ym) a;have l:bc "Places" "way_to" cQ 2 (az 4) (am (ag (aa 5)) aV) (yD b c m es base.length n (-(kP q.p)) (-(eG e)) (-(.tuple [.list (u.2.map iu),dS u.1])) (-(.tuple [.list (v.2.map iu),dS v.1]))) (jP base m (fs.map i6) J)= .ok (.rf ((jP base m (fs.map i6) J).length+1)) (jP base m (fs.map i6) J++K):=BK (bJ rfl) (P Ym).o (by rfl) (au (ai (af rfl)) aW) rfl w1;have g1:∀{X:a9},(jP base m (fs.map i6) J++K++X)[(jP base m (fs.map i6) J).length+1]? =lD (.lst (row.map .fz)):=fun{X}=>by rw[RJ,sd,Ra (QU.mp w2).1];exact w2
     have dl:row.length<=1000:=by
      have:∀(t:Nat) (r:Pe),fs[t]? =lD r->r.d<=t:=by
       intro t
       induction t using Nat.strongRecOn with
       |ind t ih=>
        intro r I;by_cases t0:t=0
        .subst t0;rw[bi.z] at I;cases I;exact Q4 _
        .obtain⟨j,r',h1,h2,_,h4⟩:=bi.bk t r I (by omega);have:=ih j h1 r' h2;omega
      have:=this n q a;have R:=(QU.mp a).1;omega
     have ad:=cL (f:=db) l (fy (f:=df {aa 7}) (ds:=[eG e]) (by fail "ev")) (Lu (fT g1) (fT aY) (J7 (by show row.length+1<=_;omega)));refine qL (Cc (au (ai aA) (au ad aW)) (QY rfl) rfl rfl) (.inl ⟨_,row++[eG e],q.d,rfl,aY,by rw[Q3,w3];rfl,bi.apart a A nal⟩)
  .rintro ρ Z ⟨fs,J,o7,o8,o9,rfl,rfl,bi,a,Ym,dn⟩;rw[QV,UP] at dn;have R:=(QU.mp a).1;refine yO (Mj (Z3:=[]) (i:=5) (x:= .fz (nd n)) (y:= .fz (.int 1)) (z:= .fz (nd (n+1))) rfl (ai aA) (cg rfl)) ⟨fs,J,_,_,_,_,rfl,rfl,bi.next a dn,R,Ym⟩
def wk (w:Str) (k:Nat):D:= .tuple [.str w,nd k]
theorem BH {b:Bd} {n:Nat} (hn:b.n=n) (v:n<=5):de [bD b]= .ok (.ow ((pG n).map eG)):=by
 have z:j6 [.int b.n]=lD (bX (Rj n)):=by rw[hn];exact jM (by omega)
 have A:=JG b;have y:db (.list ((Rj n).map (wk "down")++(Rj n).map (wk "up"))) (.list [eG .turn])=lD (.ow ((pG n).map eG)):=(J7 (by rw[Q3,QV,QV,R9];show _+1<=_;omega)).trans (by unfold pG;rw[RD,RD,RT,RT];rfl);refine gF rfl ?_;unfold gj;refine cM (by fail "ev") rfl rfl ?_;refine sM (fun i ρ=>∃f a:Option PV,ρ=[zf (bD b),zo (((["down","up"]:List Str).take i).flatMap fun w=>(Rj n).map (wk w)),f,a]) (jy (by fail "ev") rfl rfl) ⟨QS,QS,rfl⟩ ?_ ?_
 .rintro i d ρ hi ⟨f,a,rfl⟩
  obtain⟨w,h,u⟩:∃w,(["down","up"]:List Str)[i]? =lD w/\d= .str w:=by
   have:i=0\/i=1:=by have:=(QU.mp hi).1;simp at this;omega
   rcases this with rfl|rfl
   .exact⟨"down",rfl,(Rm hi).symm⟩
   .exact⟨"up",rfl,(Rm hi).symm⟩
  subst u;have nx:((["down","up"]:List Str).take (i+1)).flatMap (fun w=>(Rj n).map (wk w))=((["down","up"]:List Str).take i).flatMap (fun w=>(Rj n).map (wk w))++(Rj n).map (wk w):=by rw[Vx,h,List.flatMap_append];simp
  have B:i<2:=(QU.mp h).1;have pl:((["down","up"]:List Str).take i).flatMap (fun w=>(Rj n).map (wk w))=[]\/((["down","up"]:List Str).take i).flatMap (fun w=>(Rj n).map (wk w))=(Rj n).map (wk "down"):=by
   have:i=0\/i=1:=by omega
   rcases this with rfl|rfl
   .exact .inl rfl
   .exact .inr (by simp)
  rw[nx];generalize ((["down","up"]:List Str).take i).flatMap (fun w=>(Rj n).map (wk w))=pre at pl;have o:pre.length<=5:=by
   rcases pl with rfl|rfl
   .exact RZ _
   .rw[QV,R9];exact v
  refine⟨[zf (bD b),zo pre,zf (.str w),a],rfl,?_⟩;refine GL (fun j ρ=>∃a:Option PV,ρ=[zf (bD b),zo (pre++(Rj j).map (wk w)),zf (.str w),a]) (by fail "ev") ⟨a,by rw[List.range_zero,T7,RB]⟩ ?_ ?_
  .rintro j d ρ t ⟨a,rfl⟩
   obtain⟨k,q,rfl⟩:=qh t;obtain⟨g,r⟩:k=j/\j<n:=by obtain⟨m,l⟩:=QU.mp q;rw[aaw] at l;rw[R9] at m;exact⟨l.symm,m⟩
   subst g;refine⟨[zf (bD b),zo (pre++(Rj k).map (wk w)),zf (.str w),zf (nd k)],rfl,?_⟩;have p:(pre++(Rj k).map (wk w)).length<1000000:=by rw[Q3,QV,R9];omega
   exact qB (wa rfl (cF (ah (af rfl) (ah (af rfl) aD)) rfl (QY rfl)) rfl rfl p (by rw[List.range_succ,RD,<-RJ];rfl)) ⟨_,rfl⟩
  .rintro ρ ⟨a,rfl⟩;rw[gp,R9];exact⟨_,_,rfl⟩
 .rintro ρ ⟨f,a,rfl⟩
  have e:((["down","up"]:List Str).take 2).flatMap (fun w=>(Rj n).map (wk w))=(Rj n).map (wk "down")++(Rj n).map (wk "up"):=by simp
  show Go (cW _ [zf (bD b),zo (((["down","up"]:List Str).take 2).flatMap fun w=>(Rj n).map (wk w)),f,a]) _ _ _;rw[e];exact ei (ay (jB rfl) (oJ (ah (cF (ah aA (ah aA aD)) rfl (QY rfl)) aD) rfl (QY rfl)) rfl rfl y) rfl rfl
section
variable {ρ:bx} {Z Z1 Y:a9} {y:SV} {fa fb:dC} {l:List AV} {a:AV} {i:Int}
theorem uS (ha:fa ρ Z= .ok (.tp l) Z1) (d:fb ρ Z1= .ok y Y) (hn:Du y=lD i) (b:lx l i=lD a):L10.fY fa fb ρ Z= .ok a.sv Y:=by unfold L10.fY;rw[ha,RS.bind_ok,d,RS.bind_ok];unfold IK;dsimp only;rw[hn];show RS.Sh Y ((lx l i).map AV.sv)=_;rw[b];rfl
end
structure Pk where
 p:PP
 k:Nat
def xY (fs:List Pk):List (D×D):=fs.map fun q=>(kP q.p,nd q.k)
def tQ (fs:List Pk):List D:=fs.map fun q=>kP q.p
structure LI (b c:Bd) (es:List W0) (fs:List Pk) (n:Nat):Prop where
 z:fs[0]? =lD ⟨wG,0⟩
 rw:∀q∈fs,RW b c es q.k q.p
 un:(fs.map (·.p)).Nodup
 dn:∀(j:Nat) (q:Pk),j<n->fs[j]? =lD q->∀e∈es,∃r∈fs,r.p=j7 b c q.p e
section
variable {b c:Bd} {Z:List W0} {fs:List Pk} {n:Nat}
theorem zg (B:BB b c Z) {p q:PP} (d:PW b c p) (a:PW b c q):QZ.eqv (kP p) (kP q)=QW↔p=q:=
 ⟨fun h=>DR B d a (LD.kd_eqv _ _ (LD.keyD_kd (gK d)).1 (LD.keyD_kd (gK a)).1 h),fun h=>by rw[h];exact vH (gK a)⟩
theorem LI.no (B:BB b c Z) (h:∀q∈fs,RW b c Z q.k q.p) {p:PP} (f:PW b c p) (hn:¬∃r∈fs,r.p=p):((xY fs).find? fun kv=>QZ.eqv kv.1 (kP p))=QS:=by rw[aav];intro x d;obtain⟨r,a,rfl⟩:=RA.mp d;exact fun e=>hn ⟨r,a,(zg B (B.rw (h r a)) f).mp e⟩
theorem LI.yes (B:BB b c Z):∀{fs:List Pk},(∀q∈fs,RW b c Z q.k q.p)->(fs.map (·.p)).Nodup->∀{q:Pk},q∈fs->gM (xY fs) (kP q.p)=lD (nd q.k)
 |[],_,_,_,hq=>by cases hq
 |a::r,h,hu,q,hq=>by
  rw[Ri,Sz] at hu;show((((kP a.p,nd a.k)::xY r).find? fun d=>QZ.eqv d.1 (kP q.p)).map (·.2))=_;rw[RP];by_cases e:a.p=q.p
  .rw[(zg B (B.rw (h a Rh)) (B.rw (h q hq))).mpr e]
   rcases Rv.mp hq with rfl|hq
   .rfl
   .exact absurd (RA.mpr ⟨q,hq,e.symm⟩) hu.1
  .rw[aaI.mpr fun z=>e ((zg B (B.rw (h a Rh)) (B.rw (h q hq))).mp z)]
   rcases Rv.mp hq with rfl|hq
   .exact absurd rfl e
   .exact LI.yes B (fun x f=>h x (Rf _ f)) hu.2 hq
theorem QI:LI b c Z [⟨wG,0⟩] 0:=⟨rfl,fun q a=>by rw[Rb.mp a];rfl,SK _ _,fun j q d=>absurd d (abV _)⟩
theorem LI.new (h:LI b c Z fs n) {q:Pk} (g:fs[n]? =lD q) (v:e∈Z) (hn:¬∃r∈fs,r.p=j7 b c q.p e):LI b c Z (fs++[⟨j7 b c q.p e,q.k+1⟩]) n:=by
 have A:=(QU.mp g).1;have i:=(QU.mp h.z).1;refine⟨(Ra i).trans h.z,fun r a=> ?_,?_,fun j r o a f t=> ?_⟩
 .rcases RL.mp a with a|a
  .exact h.rw r a
  .rw[Rb.mp a];exact⟨q.p,e,h.rw q (Ro g),v,rfl⟩
 .rw[RD,TY];refine⟨h.un,SK _ _,fun x l y d w=> ?_⟩;obtain⟨r,a,rfl⟩:=RA.mp l;have d:y=j7 b c q.p e:=Rb.mp d;exact hn ⟨r,a,w.trans d⟩
 .rw[Ra (by omega)] at a;obtain⟨u,m,z⟩:=h.dn j r o a f t;exact⟨u,S1 _ m,z⟩
theorem LI.next (h:LI b c Z fs n) {q:Pk} (g:fs[n]? =lD q) (hd:∀e∈Z,∃r∈fs,r.p=j7 b c q.p e):LI b c Z fs (n+1):=by
 refine⟨h.z,h.rw,h.un,fun j r i a e d=> ?_⟩;by_cases f:j<n
 .exact h.dn j r f a e d
 .have:j=n:=by omega
  subst this;rw[g] at a;cases a;exact hd e d
theorem LI.all (h:LI b c Z fs n) (hn:fs.length<=n):AllP b c Z (fs.map (·.p)):=by
 refine⟨h.un,fun p a=> ?_,fun k=> ?_⟩
 .obtain⟨r,m,rfl⟩:=RA.mp a;exact⟨r.k,h.rw r m⟩
 .induction k with
  |zero=>exact fun p a=>RA.mpr ⟨⟨wG,0⟩,Ro h.z,(show p=wG from a).symm⟩
  |succ k i=>rintro p ⟨u,e,l,o,a⟩;obtain⟨r,t,q⟩:=RA.mp (i u l);obtain⟨j,d⟩:=Sx.mp t;obtain⟨w,g,f⟩:=h.dn j r (Rq (QU.mp d).1 hn) d e o;exact RA.mpr ⟨w,g,by rw[f,a,q]⟩
end
def mH (Z:a9) (fs:List Pk) (J:a9):a9:=Z++(Cell.lst ((tQ fs).map .fz):: .dd (xY fs)::J)
theorem BT:mH Z fs (J++K)=mH Z fs J++K:=by unfold mH;rw[RJ];rfl
abbrev E8 (b c:Bd) (m:Int) (l n:Nat) (o6 o7:Option SV):bx:=[-(bD b),-(bD c),-(.int m),lD (.rf l),lD (.rf (l+1)),-(nd n),o6,o7]
theorem Cz {b c:Bd} (vb:VB b) (vc:VB c) {n:Nat} (hn:b.n=n) (hc:c.n=n) (h5:n<=5) {m:Int} (m0:0<m) (m4:m<=1000) (g:a9):Out (dI [.fz (bD b),.fz (bD c),.fz (.int m)] g) (fun v Z'=>∃(fs:List Pk) (J:a9),v= .tp [.rf g.length,.rf (g.length+1)]/\Z'=mH g fs J/\(∀q∈fs,RW b c (pG n) q.k q.p)/\(fs.map (·.p)).Nodup/\(fs.length:Int)<=m+11/\(m<(fs.length:Int)\/AllP b c (pG n) (fs.map (·.p)))) (fun _=>False):=by
 have ell:(pG n).length<=11:=by unfold pG;rw[Q3,Q3,QV,QV,R9];show n+n+1<=_;omega
 have ev:=BH hn h5;have B:BB b c (pG n):=⟨vb,vc,km hn,km hc⟩;generalize pG n=es at ell ev B;refine v9 rfl ?_;unfold jw;refine dZ (fy (show _=Res.ok (PV.ow [kP wG],_) by fail "ev")) rfl ?_;have kk:fY (az 3) (ag (~~~0)) [-(bD b),-(bD c),-(.int m),lD (.rf g.length),QS,QS,QS,QS] (g++[.lst [.fz (kP wG)]])= .ok (.fz (kP wG)) (g++[.lst [.fz (kP wG)]]):=uT (bJ rfl) (ai aA) rfl aY (Pf rfl);have kd:GV (fY (az 3) (ag (~~~0))) (ag (~~~0)) [-(bD b),-(bD c),-(.int m),lD (.rf g.length),QS,QS,QS,QS] (g++[.lst [.fz (kP wG)]])= .ok (.rf (g.length+1)) (mH g [⟨wG,0⟩] []):=by unfold GV;rw[kk,mJ,RS.bind_ok,ai aA,mJ,RS.bind_ok,kA (gK (b:=b) (c:=c) ⟨k9 b,k9 c⟩),Q3];show RS.ok _ ((g++[_])++[_])=_;rw[RJ];rfl
 refine dZ kd rfl ?_;refine dZ (ai aA) rfl ?_;refine kB (sJ (fun n ρ Z=>∃(fs:List Pk) (J:a9) (o j:Option SV),ρ=E8 b c m g.length n o j/\Z=mH g fs J/\LI b c es fs n/\n<=fs.length/\(fs.length:Int)<=m+11) 1001 (by decide) ⟨[⟨wG,0⟩],[],QS,QS,rfl,rfl,QI,RZ _,by show((1:Nat):Int)<=_;omega⟩ ?_);rintro n ρ Z ⟨fs,J,o,j,rfl,rfl,li,hle,Y7⟩;have g0:∀{fs:List Pk} {J:a9},(mH g fs J)[g.length]? =lD (.lst ((tQ fs).map .fz)):=fun{fs J}=>sd (t:=0);have Y:∀{fs:List Pk} {J:a9},(mH g fs J)[g.length+1]? =lD (.dd (xY fs)):=fun{fs J}=>sd (t:=1);have C:BV dk (am (az 3) aV) (E8 b c m g.length n o j) (mH g fs J)= .ok (.fz (nd fs.length)) (mH g fs J):=xz (au (bJ rfl) aW) (by unfold aQ;rw[fT g0];rfl) ((eO _).trans (by unfold tQ;rw[QV]));have E:=bu (cL (ai (f:=aa 5) (af rfl)) C (cg (ku (n:Int) (fs.length:Int))));have H:=bu (cL C (ai (f:=aa 2) (af rfl)) (cg (Hc (fs.length:Int) m)));have A:(m<(fs.length:Int)\/AllP b c es (fs.map (·.p)))->nV (gU (jR (am (az 3) (am (az 4) aV))) (E8 b c m g.length n o j) (mH g fs J)) (fun _ Z'=>∃(fs:List Pk) (J:a9),SV.fz .none= .tp [.rf g.length,.rf (g.length+1)]/\Z'=mH g fs J/\(∀q∈fs,RW b c es q.k q.p)/\(fs.map (·.p)).Nodup/\(fs.length:Int)<=m+11/\(m<(fs.length:Int)\/AllP b c es (fs.map (·.p)))) (fun v Z'=>∃(fs:List Pk) (J:a9),v= .tp [.rf g.length,.rf (g.length+1)]/\Z'=mH g fs J/\(∀q∈fs,RW b c es q.k q.p)/\(fs.map (·.p)).Nodup/\(fs.length:Int)<=m+11/\(m<(fs.length:Int)\/AllP b c es (fs.map (·.p)))) (fun _=>False):=fun h=>r8 (Cc (au (bJ rfl) (au (bJ rfl) aW)) (QY rfl) rfl rfl) ⟨fs,J,rfl,rfl,li.rw,li.un,Y7,h⟩;by_cases Va:n<fs.length
 case neg=>
  rw[decide_eq_false (by omega)] at E;exact .inl ⟨_,fS E,A (.inr (li.all (by omega)))⟩
 rw[decide_eq_true (by omega)] at E;by_cases Ym:(fs.length:Int)<=m
 case neg=>
  rw[decide_eq_false Ym] at H;exact .inl ⟨_,gf E H,A (.inl (by omega))⟩
 rw[decide_eq_true Ym] at H;refine .inr ⟨by omega,_,gf E H,?_⟩;clear A;obtain⟨q,w⟩:∃q,fs[n]? =lD q:=⟨_,Q5 Va⟩;have I:∀{Z:a9},nt (jN (cP de 1 {aa 0})) (E8 b c m g.length n o j) Z= .ok (es.map eG) Z:=rd (jy (bO (ah (af rfl) aD) rfl rfl ev) rfl rfl);refine kB (GK (fun i ρ Z=>∃(fs:List Pk) (J:a9) (o j:Option SV),ρ=E8 b c m g.length n o j/\Z=mH g fs J/\LI b c es fs n/\fs[n]? =lD q/\(fs.length:Int)<=m+i/\∀e∈es.take i,∃r∈fs,r.p=j7 b c q.p e) I ⟨fs,J,o,j,rfl,rfl,li,w,by omega,fun e he=>by cases he⟩ ?_ ?_)
 .clear E H C Va Ym Y7 hle w li I
  rintro i d ρ Z F ⟨fs,J,o,j,rfl,rfl,li,w,hl,dn⟩;rw[Q7] at F;cases qe:es[i]? with
  |none=>rw[qe] at F;cases F
  |some e=>
   rw[qe] at F;cases Rm F;have N:=Ro qe;have il:=(QU.mp qe).1;have qm:=Ro w;have K:=B.rw (li.rw q qm);have pn:=B.nx K N;refine⟨E8 b c m g.length n (-(eG e)) j,_,rfl,?_⟩;have P:∀{X:a9} {o j:Option SV},fY (az 3) (ag (aa 5)) (E8 b c m g.length n o j) (mH g fs X)= .ok (.fz (kP q.p)) (mH g fs X):=fun{X o j}=>uT (bJ rfl) (ai (d:=nd n) (af rfl)) rfl g0 (Pf (by unfold tQ;rw[Q7,Q7,w];rfl));have R:=GJ vb K.1 (B.eb e N) (Z:=mH g fs J);rw[<-BT] at R;have Q:=GJ vc K.2 (B.ec e N) (Z:=mH g fs (J++[.lst (((bA b q.p.1 e).2.map iu).map .fz)]));rw[<-BT] at Q
   have be:lA (jR (am (fY (lV STP.dD 3 (am (ag (aa 0)) (am (fY (fY (az 3) (ag (aa 5))) (ag (~~~0))) (am (ag (aa 6)) aV)))) (ag (~~~1))) (am (fY (lV STP.dD 3 (am (ag (aa 1)) (am (fY (fY (az 3) (ag (aa 5))) (ag (~~~1))) (am (ag (aa 6)) aV)))) (ag (~~~1))) aV))) (E8 b c m g.length n (-(eG e)) j) (mH g fs J)= .ok (.fz (kP (j7 b c q.p e))) (mH g fs (J++[.lst (((bA b q.p.1 e).2.map iu).map .fz)]++[.lst (((bA c q.p.2 e).2.map iu).map .fz)])):=
    jI (x:= .fz (kP (j7 b c q.p e))) (rD (ds:=[dS (bA b q.p.1 e).1,dS (bA c q.p.2 e).1]) (au (uS (i:=1) (a:= .fz (dS (bA b q.p.1 e).1)) (rA (xs:=[.fz (bD b),.fz (dS q.p.1),.fz (eG e)]) (au (ai (af rfl)) (au (cI P (ai aA) eJ) (au (ai (af rfl)) aW))) R) (ai (d:= .int 1) aA) rfl rfl) (au (uS (i:=1) (a:= .fz (dS (bA c q.p.2 e).1)) (rA (xs:=[.fz (bD c),.fz (dS q.p.2),.fz (eG e)]) (au (ai (af rfl)) (au (cI P (ai aA) fU) (au (ai (af rfl)) aW))) Q) (ai (d:= .int 1) aA) rfl rfl) aW)) (QY rfl)) rfl
   generalize J++[.lst (((bA b q.p.1 e).2.map iu).map .fz)]++[.lst (((bA c q.p.2 e).2.map iu).map .fz)]=J' at be;clear R Q;refine dZ (ρ1:=E8 b c m g.length n (-(eG e)) (-(kP (j7 b c q.p e)))) be rfl ?_;have hk:=kA (gK pn);have O:∀{Z:a9},ag (aa 7) (E8 b c m g.length n (-(eG e)) (-(kP (j7 b c q.p e)))) Z= .ok (.fz (kP (j7 b c q.p e))) Z:=ai (af rfl);have gi:=Bx (neg:=QW) (fd:=az 4) O (bJ rfl) hk (Y (fs:=fs) (J:=J'));have M:=bu gi;have tk:es.take (i+1)=es.take i++[e]:=by rw[Vx,qe];rfl
   by_cases old:∃r∈fs,r.p=j7 b c q.p e
   .obtain⟨r,L,er⟩:=old
    have y:=LI.yes B li.rw li.un L;rw[er] at y;rw[y] at M;refine .eq (hG M gS) ⟨fs,J',_,_,rfl,rfl,li,w,by omega,fun f u=> ?_⟩;rw[tk] at u;rcases RL.mp u with u|u
    .exact dn f u
    .rw[Rb.mp u];exact⟨r,L,er⟩
   .have no:=LI.no B li.rw pn old
    have U:=(QU.mp w).1;have g2:gM (xY fs) (kP (j7 b c q.p e))=QS:=by unfold gM;rw[no];rfl
    rw[g2] at M;have gv:=cL (f:=db) (qW (fd:=az 4) (fk:=fY (az 3) (ag (aa 5))) (ρ:=E8 b c m g.length n (-(eG e)) (-(kP (j7 b c q.p e)))) (bJ rfl) (P (X:=J')) (kA (gK K)) Y (LI.yes B li.rw li.un qm)) (ai (f:=pC (.int 1)) aA) (cg (fA (q.k:Int) 1));have S:=ye (fk:=ag (aa 7)) (fd:=az 4) gv (bJ rfl) O hk Y (by unfold xY;rw[QV];omega);have T:jc (xY fs) (kP (j7 b c q.p e)) (.int ((q.k:Int)+1))=xY (fs++[⟨j7 b c q.p e,q.k+1⟩]):=by unfold jc;rw[no];show xY fs++_=_;unfold xY;rw[RD];rfl
    rw[T] at S;have e2:(mH g fs J').set (g.length+1) (.dd (xY (fs++[⟨j7 b c q.p e,q.k+1⟩])))=g++(Cell.lst ((tQ fs).map .fz):: .dd (xY (fs++[⟨j7 b c q.p e,q.k+1⟩]))::J'):=by unfold mH;rw[C7];rfl
    rw[e2] at S;have G:(g++(Cell.lst ((tQ fs).map .fz):: .dd (xY (fs++[⟨j7 b c q.p e,q.k+1⟩]))::J'))[g.length]? =lD (.lst ((tQ fs).map .fz)):=sd (t:=0);have ap:=vd (fo:=az 3) (fe:=ag (aa 7)) (ρ:=E8 b c m g.length n (-(eG e)) (-(kP (j7 b c q.p e)))) (x:= .fz (kP (j7 b c q.p e))) (bJ rfl) G O G (by unfold tQ;rw[QV,QV];omega);refine .eq (fx M (cN S (iH ap))) ⟨fs++[⟨j7 b c q.p e,q.k+1⟩],J',_,_,rfl,?_,li.new w N old,(Ra U).trans w,?_,fun f u=> ?_⟩
    .have:=C7 (l:=g) (r:=Cell.lst ((tQ fs).map .fz):: .dd (xY (fs++[⟨j7 b c q.p e,q.k+1⟩]))::J') (t:=0) (c:= .lst ((tQ fs).map .fz++[.fz (kP (j7 b c q.p e))]));refine Eq.trans this ?_;unfold mH tQ;rw[RD,RD];rfl
    .rw[Q3];show((fs.length+1:Nat):Int)<=m+((i+1:Nat):Int);omega
    .rw[tk] at u
     rcases RL.mp u with u|u
     .obtain⟨r,L,z⟩:=dn f u;exact⟨r,S1 _ L,z⟩
     .rw[Rb.mp u];exact⟨_,RY _ Rh,rfl⟩
 .rintro ρ Z ⟨fs,J,o,j,rfl,rfl,li,w,hl,dn⟩;rw[QV] at hl dn;rw[UP] at dn;have U:=(QU.mp w).1;exact yO (ρ1:=E8 b c m g.length (n+1) o j) (qU (ai (d:=nd (n+1)) (ay (rv:= .fz (nd (n+1))) (af rfl) aA rfl rfl (fA (n:Int) 1))) rfl) ⟨fs,J,o,j,rfl,rfl,li.next w dn,U,by omega⟩
theorem rl (ds:List D) (k:Nat) (x:D) (g:k<ds.length) (l:ds.length<=1000):dG [.tuple ds,nd k,x]= .ok (.fz (.tuple (ds.set k x))):=by
 have a:min k ds.length=k:=Wf (by omega);have b:min (k+1) ds.length=k+1:=Wf (by omega);have f:NM (.tuple ds) QS (lD (k:Int))=-(.tuple (ds.take k)):=by show(if fw ds.length QS (lD (k:Int))=QW then QS else lD (RV.fz (.tuple (l9 ds QS (lD (k:Int))))))=_;rw[if_neg (by unfold fw;rw[HT.sIx_nat,a,HT.sIx_none,decide_eq_false (by omega)];exact Rc)];unfold l9;rw[HT.sIx_nat,a,HT.sIx_none,abS,adD]
 have d:NM (.tuple ds) (lD ((k:Int)+1)) QS=-(.tuple (ds.drop (k+1))):=by show(if fw ds.length (lD ((k+1:Nat):Int)) QS=QW then QS else lD (RV.fz (.tuple (l9 ds (lD ((k+1:Nat):Int)) QS))))=_;rw[if_neg (by unfold fw;rw[HT.sIx_nat,b,HT.sIx_none,decide_eq_false (by omega)];exact Rc)];unfold l9;rw[HT.sIx_nat,b,HT.sIx_none,<-UN,UP]
 have j:xV (.tuple (ds.take k)) (.tuple [x])=-(.tuple (ds.take k++[x])):=by
  cases e:ds.take k with
  |nil=>rfl
  |cons y r=>show(if y::r≠[]/\(y::r).length+[x].length<=1000000 then lD (RV.fz (.tuple (y::r++[x]))) else QS)=_;have:=congrArg Vu e;rw[SI,a] at this;rw[if_pos ⟨XJ _ _,by rw[<-this];show k+1<=_;omega⟩]
 have i:xV (.tuple (ds.take k++[x])) (.tuple (ds.drop (k+1)))=-(.tuple (ds.set k x)):=by
  rw[List.set_eq_take_append_cons_drop,if_pos g,show ds.take k++x::ds.drop (k+1)=ds.take k++[x]++ds.drop (k+1) by rw[RJ];rfl];have z:(ds.take k++[x]).length=k+1:=by rw[Q3,SI,a];rfl
  have w:(ds.drop (k+1)).length<=1000:=by rw[UN];omega
  generalize ds.drop (k+1)=t at w;cases e:ds.take k++[x] with
  |nil=>rw[e] at z;cases z
  |cons y r=>rw[e] at z;show(if y::r≠[]/\(y::r).length+t.length<=1000000 then lD (RV.fz (.tuple (y::r++t))) else QS)=_;rw[if_pos ⟨XJ _ _,by omega⟩]
 have h:xV (nd k) (.int 1)=-(.int ((k:Int)+1)):=rfl;exact gF (ρ:=[zf (.tuple ds),zf (nd k),zf x]) rfl (ei (rv:= .fz (.tuple (ds.set k x))) (ay (rv:= .fz (.tuple (ds.set k x))) (ay (rv:= .fz (.tuple (ds.take k++[x]))) (B6 (rv:= .fz (.tuple (ds.take k))) (af rfl) ny (nI (af rfl) rfl) rfl f) (cF (ds:=[x]) (ah (af rfl) aD) rfl (QY rfl)) rfl rfl j) (B6 (rv:= .fz (.tuple (ds.drop (k+1)))) (af rfl) (nI (ay (rv:= .fz (.int ((k:Int)+1))) (af rfl) aA rfl rfl h) rfl) ny rfl d) rfl rfl i) rfl rfl)
theorem F6 {m:Mn} (h:LB m):cY (mD m) (.tuple [.str "below"])=-(.bool m.isB):=by
 have o:lQ (mD m)=QW:=La (zi h) (RO (show QZ.depth (mD m)<=1 by cases m<;>exact QY rfl) (by decide));have a:QZ.canLay0 (.tuple [.str "below"])=QW:=by left
 unfold cY;rw[o,a,Tb,if_pos rfl];congr 3;cases z:QZ.eqv (mD m) (.tuple [.str "below"]) with
 |true=>have:=zw (n:= .below) (LD.kd_eqv _ _ (GW h) (by left) z);rw[this];rfl
 |false=>
  cases m with
  |below=>exact absurd z (by left)
  |_=>rfl
theorem G5 {b:Bd} (d:VB b) {L k:Nat} {l:List Mn} {m m':Mn} (f:b.ls[L]? =lD l) (p:l[k]? =lD m) (z:VM L b.ls.length m') (B:L=0->m'.isL=m.isL):VB {b with ls:=b.ls.set L (l.set k m')}:=by
 have C:=(QU.mp f).1;have t:=(QU.mp p).1;refine⟨d.n1,d.n5,by rw[Sg];exact d.l1,by rw[Sg];exact d.l3,fun i q g=> ?_,d.c4,fun x w=> ?_,d.cu,d.w1,d.w4⟩
 .show _/\∀m∈q,VM i ((b.ls.set L (l.set k m')).length:Nat) m
  rw[Sg];by_cases e:i=L
  .subst e
   rw[Ss C] at g;cases g;have:=d.vl i l f;refine⟨by rw[Sg];exact this.1,fun y u=> ?_⟩;rcases List.mem_or_eq_of_mem_set u with h|rfl
   .exact this.2 y h
   .exact z
  .rw[Sd (Ne.symm e)] at g;exact d.vl i q g
 .have v:=d.vc x w
  refine⟨v.1,v.2.1,fun j A=> ?_,v.2.2.2⟩;have o:=v.2.2.1 j A;show yE ((b.ls.set L (l.set k m')).headD []) j=QW;cases e:b.ls with
  |nil=>rw[e] at f;cases f
  |cons a r=>
   rw[e] at o f;cases L with
   |zero=>
    cases Rm f;show yE (l.set k m') j=QW;have o:yE l j=QW:=o;unfold yE at o⊢;by_cases n:j=k
    .subst n;rw[Ss t];rw[p] at o;exact(B rfl).trans o
    .rw[Sd (Ne.symm n)];exact o
   |succ L=>exact o
abbrev Pc (a:List Int) (b:Bd) (d:Int) (w L k:Nat) (m:Mn) (o:Option PV):bt:=[zf (.list (a.map .int)),zf (bD b),zf (.int b.n),zf (.tuple (b.ls.map dW)),zf (.tuple (b.cs.map d7)),zf (.int b.wt),zf (.int d),zf (nd w),zf (nd L),zf (nd k),zf (mD m),o]
theorem Ej (j:List Int) {b:Bd} (d:VB b) {n:Nat} (hn:b.n=n) (h3:n=1\/n=2\/n=3):∃c:Bd,VB c/\c.n=n/\eF [.list (j.map .int),bD b]= .ok (.fz (bD c)):=by
 obtain⟨g,e0⟩:=nU j 12;have e0:bH [.list (j.map .int),.int 12]= .ok (.fz (.int g)):=e0;obtain⟨w,U,hw⟩:=eE g 70 8 (by decide) (by decide);have U:aI [.int g,.int 70,.int 8]= .ok (.fz (nd w)):=U;have ll:=d.l1;have l3:=d.l3;obtain⟨L,Z,hL⟩:=eE g 71 b.ls.length (by decide) (by omega);have Z:aI [.int g,.int 71,nd b.ls.length]= .ok (.fz (nd L)):=Z;obtain⟨k,Y,hk⟩:=eE g 72 n (by decide) (by omega);have Y:aI [.int g,.int 72,.int b.n]= .ok (.fz (nd k)):=by rw[hn];exact Y
 obtain⟨l,G⟩:∃l,b.ls[L]? =lD l:=⟨_,Q5 hL⟩;have K:=d.vl L l G;have kl:k<l.length:=by have:=K.1;omega
 obtain⟨m,hm⟩:∃m,l[k]? =lD m:=⟨_,Q5 kl⟩;have J:=K.2 m (Ro hm);obtain⟨r,er,hr⟩:=eE g 73 3 (by decide) (by decide);have er:aI [.int g,.int 73,.int 3]= .ok (.fz (nd r)):=er;obtain⟨t,S,X⟩:=zL (z:= "abz") [0,1,25] (by left) (by left) (by decide) (show(0:Int)<=(r:Int) by omega) (show(r:Int)<3 by omega);obtain⟨H,M,Q,v⟩:=DL j 13 n h3;have v:eX [.list (j.map .int),.int 13,.int b.n]= .ok (.fz (bD H)):=by rw[hn];exact v
 have R:dk [.tuple (b.ls.map dW)]=-(nd b.ls.length):=(jb _).trans (by rw[QV]);have O:bq (.tuple (b.ls.map dW)) (nd L)=-(dW l):=Fi (by rw[Q7,G];rfl);have i2:bq (dW l) (nd k)=-(mD m):=Fi (by rw[Q7,hm];rfl);have l5:l.length<=5:=by have:=K.1;have:=d.n5;omega
 have put:∀m':Mn,dG [dW l,nd k,mD m']= .ok (.fz (dW (l.set k m')))/\dG [.tuple (b.ls.map dW),nd L,dW (l.set k m')]= .ok (.fz (.tuple ((b.ls.set L (l.set k m')).map dW))):=fun m'=>by have p1:=rl (l.map mD) k (mD m') (by rw[QV];exact kl) (by rw[QV];omega);have p2:=rl (b.ls.map dW) L (dW (l.set k m')) (by rw[QV];exact hL) (by rw[QV];omega);rw[<-List.map_set] at p1 p2;exact⟨p1,p2⟩
 have N:∃rv,fQ 12 eD [.list (j.map .int),bD b]= .ok rv/\∃c:Bd,(VB c/\c.n=n)/\rv= .fz (bD c):=by
  refine ox (T:=fun rv=>∃c:Bd,(VB c/\c.n=n)/\rv= .fz (bD c)) rfl ?_;unfold eD;refine cM (ρ3:=[zf (.list (j.map .int)),zf (bD b),zf (.int b.n),zf (.tuple (b.ls.map dW)),zf (.tuple (b.cs.map d7)),zf (.int b.wt),QS,QS,QS,QS,QS,QS]) (af rfl) rfl rfl ?_;refine cM (ρ3:=[zf (.list (j.map .int)),zf (bD b),zf (.int b.n),zf (.tuple (b.ls.map dW)),zf (.tuple (b.cs.map d7)),zf (.int b.wt),zf (.int g),QS,QS,QS,QS,QS]) (bO (rv:= .fz (.int g)) (ah (af rfl) (ah aA aD)) rfl rfl e0) rfl rfl ?_;refine cM (ρ3:=[zf (.list (j.map .int)),zf (bD b),zf (.int b.n),zf (.tuple (b.ls.map dW)),zf (.tuple (b.cs.map d7)),zf (.int b.wt),zf (.int g),zf (nd w),QS,QS,QS,QS]) (bO (rv:= .fz (nd w)) (ah (af rfl) (ah aA (ah aA aD))) rfl rfl U) rfl rfl ?_;refine cM (ρ3:=[zf (.list (j.map .int)),zf (bD b),zf (.int b.n),zf (.tuple (b.ls.map dW)),zf (.tuple (b.cs.map d7)),zf (.int b.wt),zf (.int g),zf (nd w),zf (nd L),QS,QS,QS]) (bO (rv:= .fz (nd L)) (ah (af rfl) (ah aA (ah (d6 (rv:= .fz (nd b.ls.length)) (ah (af rfl) aD) rfl R) aD))) rfl rfl Z) rfl rfl ?_;refine cM (ρ3:=[zf (.list (j.map .int)),zf (bD b),zf (.int b.n),zf (.tuple (b.ls.map dW)),zf (.tuple (b.cs.map d7)),zf (.int b.wt),zf (.int g),zf (nd w),zf (nd L),zf (nd k),QS,QS]) (bO (rv:= .fz (nd k)) (ah (af rfl) (ah aA (ah (af rfl) aD))) rfl rfl Y) rfl rfl ?_;refine cM (ρ3:=Pc j b g w L k m QS) (ay (rv:= .fz (mD m)) (ay (rv:= .fz (dW l)) (af rfl) (af rfl) rfl rfl O) (af rfl) rfl rfl i2) rfl rfl ?_;have F:∀{i:Int} {o:Option PV},aK (aJ cY (aa 7) (pC (.int i))) (Pc j b g w L k m o)= .ok (decide ((w:Int)=i),Pc j b g w L k m o):=aZ (ay (af rfl) aA rfl rfl (gZ _ _)) rfl;refine hJ F (fun _=>eK (rv:= .fz (bD {b with cs:=b.cs.reverse})) (cF (ds:=[.int b.n,.tuple (b.ls.map dW),.tuple (b.cs.reverse.map d7),.int b.wt]) (ah (af rfl) (ah (af rfl) (ah (Lg (rv:= .fz (.tuple (b.cs.reverse.map d7))) (af rfl) rfl (by rw[abc];rfl)) (ah (af rfl) aD)))) rfl (QY rfl)) rfl ⟨{b with cs:=b.cs.reverse},⟨⟨d.n1,d.n5,d.l1,d.l3,d.vl,by rw[Tw];exact d.c4,fun x P=>d.vc x (List.mem_reverse.mp P),List.pairwise_reverse.mpr (d.cu.imp fun h e=>h e.symm),d.w1,d.w4⟩,hn⟩,rfl⟩) (fun _=>dh ?_);refine hJ (b:=decide ((w:Int)=2)&&m.isB) (jO F fun _=>aZ (ay (af rfl) (cF (ds:=[.str "below"]) (ah aA aD) rfl (QY rfl)) rfl rfl (F6 J.lb)) rfl) (fun q=> ?_) (fun _=>dh ?_)
  .rw[Rx] at q
   have mb:m= .below:=by revert q;cases m<;>simp[Mn.isB]
   have L0:L≠0:=by rw[mb] at J;intro z;exact J (by rw[z];rfl)
   obtain⟨u,E⟩:∃u,b.ls[0]? =lD u:=⟨_,Q5 (by omega)⟩;have A:=d.vl 0 u E;obtain⟨p,B⟩:∃p,u[k]? =lD p:=⟨_,Q5 (by have:=A.1;omega)⟩;have y:=A.2 p (Ro B);have j1:bq (.tuple (b.ls.map dW)) (.int 0)=-(dW u):=Fi (by rw[Q7,E];rfl);have j2:bq (dW u) (nd k)=-(mD p):=Fi (by rw[Q7,B];rfl);have I:VM L b.ls.length p:=by
    cases p with
    |below=>exact absurd rfl y
    |_=>exact y
   exact eK (rv:= .fz (bD {b with ls:=b.ls.set L (l.set k p)})) (cF (ds:=[.int b.n,.tuple ((b.ls.set L (l.set k p)).map dW),.tuple (b.cs.map d7),.int b.wt]) (ah (af rfl) (ah (bO (rv:= .fz (.tuple ((b.ls.set L (l.set k p)).map dW))) (ds:=[.tuple (b.ls.map dW),nd L,dW (l.set k p)]) (ah (af rfl) (ah (af rfl) (ah (bO (rv:= .fz (dW (l.set k p))) (ds:=[dW l,nd k,mD p]) (ah (ay (rv:= .fz (dW l)) (af rfl) (af rfl) rfl rfl O) (ah (af rfl) (ah (ay (rv:= .fz (mD p)) (ay (rv:= .fz (dW u)) (af rfl) aA rfl rfl j1) (af rfl) rfl rfl j2) aD))) rfl rfl (put p).1) aD))) rfl rfl (put p).2) (ah (af rfl) (ah (af rfl) aD)))) rfl (QY rfl)) rfl ⟨_,⟨G5 d G hm I fun z=>absurd z L0,hn⟩,rfl⟩
  refine hJ (b:=decide ((w:Int)=3)&&m.isL) (jO F fun _=>aZ (ay (ay (rv:= .fz (.str (wd m))) (af rfl) aA rfl rfl (nQ m)) aA rfl rfl (jm m)) rfl) (fun q=>yJ ?_) (fun _=>dh ?_)
  .rw[Rx] at q;refine cM (ρ3:=Pc j b g w L k m (zf (mD (.RH t)))) (cF (ds:=[.str "letter",.str (jq t)]) (ah aA (ah (ay (rv:= .fz (.str (jq t))) aA (bO (rv:= .fz (nd r)) (ds:=[.int g,.int 73,.int 3]) (ah (af rfl) (ah aA (ah aA aD))) rfl rfl er) rfl rfl X) aD)) rfl (QY rfl)) rfl rfl ?_;exact eK (rv:= .fz (bD {b with ls:=b.ls.set L (l.set k (.RH t))})) (cF (ds:=[.int b.n,.tuple ((b.ls.set L (l.set k (.RH t))).map dW),.tuple (b.cs.map d7),.int b.wt]) (ah (af rfl) (ah (bO (rv:= .fz (.tuple ((b.ls.set L (l.set k (.RH t))).map dW))) (ds:=[.tuple (b.ls.map dW),nd L,dW (l.set k (.RH t))]) (ah (af rfl) (ah (af rfl) (ah (bO (rv:= .fz (dW (l.set k (.RH t)))) (ds:=[dW l,nd k,mD (.RH t)]) (ah (ay (rv:= .fz (dW l)) (af rfl) (af rfl) rfl rfl O) (ah (af rfl) (ah (af rfl) aD))) rfl rfl (put (.RH t)).1) aD))) rfl rfl (put (.RH t)).2) (ah (af rfl) (ah (af rfl) aD)))) rfl (QY rfl)) rfl ⟨_,⟨G5 (m':= .RH t) d G hm S fun _=>q.2.symm,hn⟩,rfl⟩
  have wm:oj (.int b.wt) (.int 2)=-(.int (b.wt % 2)):=re (by decide);refine hJ F (fun _=>eK (rv:= .fz (bD {b with wt:=1+b.wt % 2})) (cF (ds:=[.int b.n,.tuple (b.ls.map dW),.tuple (b.cs.map d7),.int (1+b.wt % 2)]) (ah (af rfl) (ah (af rfl) (ah (af rfl) (ah (ay (rv:= .fz (.int (1+b.wt % 2))) aA (ay (rv:= .fz (.int (b.wt % 2))) (af rfl) aA rfl rfl wm) rfl rfl (fA _ _)) aD)))) rfl (QY rfl)) rfl ⟨{b with wt:=1+b.wt % 2},⟨⟨d.n1,d.n5,d.l1,d.l3,d.vl,d.c4,d.vc,d.cu,by show 1<=1+b.wt % 2;omega,by show 1+b.wt % 2<=4;omega⟩,hn⟩,rfl⟩) (fun _=>dh ?_);have s1:P8 (.tuple (b.cs.map d7)) (lD 1) QS=-(.tuple ((b.cs.drop 1).map d7)):=by
   show lD (RV.fz (.tuple (l9 (b.cs.map d7) (lD ((1:Nat):Int)) QS)))=_;unfold l9;rw[HT.sIx_nat,HT.sIx_none,QV,List.map_drop];congr 3;cases b.cs with
   |nil=>rfl
   |cons a r=>rw[Rg,Wf (by omega)];show List.take (r.length+1 - 1) (r.map d7)=r.map d7;rw[Nat.add_sub_cancel,<-QV (f:=d7),UP]
  refine hJ F (fun _=>eK (rv:= .fz (bD {b with cs:=b.cs.drop 1})) (cF (ds:=[.int b.n,.tuple (b.ls.map dW),.tuple ((b.cs.drop 1).map d7),.int b.wt]) (ah (af rfl) (ah (af rfl) (ah (B6 (rv:= .fz (.tuple ((b.cs.drop 1).map d7))) (af rfl) (nI aA rfl) ny rfl s1) (ah (af rfl) aD)))) rfl (QY rfl)) rfl ⟨{b with cs:=b.cs.drop 1},⟨⟨d.n1,d.n5,d.l1,d.l3,d.vl,by rw[UN];have:=d.c4;omega,fun x P=>d.vc x (List.mem_of_mem_drop P),d.cu.drop,d.w1,d.w4⟩,hn⟩,rfl⟩) (fun _=>dh ?_);refine hJ (b:=decide ((5:Int)<w)) (aZ (ay (af rfl) aA rfl rfl (xq _ _)) rfl) (fun _=>eK (rv:= .fz (bD H)) (bO (rv:= .fz (bD H)) (ah (af rfl) (ah aA (ah (af rfl) aD))) rfl rfl v) rfl ⟨H,⟨M,Q⟩,rfl⟩) (fun _=>dh ?_);exact ei (rv:= .fz (bD b)) (af rfl) rfl ⟨b,⟨d,hn⟩,rfl⟩
 obtain⟨rv,h,c,⟨C,hc⟩,rfl⟩:=N;exact⟨c,C,hc,h⟩
theorem O8 (m:Nat) {Z:a9} {i:Nat} {ds:List D} (h:Z[i]? =lD (.lst (ds.map .fz))):frz (m+1) Z (.rf i)=lD (.list ds,Z.set i .dead):=by unfold frz;rw[h];dsimp only;rw[qH]
theorem B5 {Z:a9} {i:Nat} {ds:List D} {x:D} (h:Z[i]? =lD (.lst (ds.map .fz))):frz 4 Z (.tp [.fz x,.rf i])=lD (.tuple [x,.list ds],Z.set i .dead):=by
 have a:lz (frz 3) Z [.fz x,.rf i]=lD ([x,.list ds],Z.set i .dead):=by
  show(match frz 3 Z (.fz x) with
   |some (d,Z1)=>(match lz (frz 3) Z1 [.rf i] with
    |some (ds,Z2)=>lD (d::ds,Z2)
    |none=>QS)
   |none=>QS)=_
  show(match lz (frz 3) Z [.rf i] with
    |some (ds,Z2)=>lD (x::ds,Z2)
    |none=>QS)=_
  unfold lz;rw[O8 2 h];rfl
 unfold frz;rw[show([AV.fz x,AV.rf i].map AV.sv)=[.fz x,.rf i] from rfl,a]
def Qw (b c:Bd) (a:List W0) (d:D):Prop:=
 (d= .none/\∃l:List PP,l.Nodup/\(∀p∈l,∃k,RW b c a k p)/\80<l.length)\/
 (∃(row:List D) (k:Nat),d= .tuple [.str "apart",.list row]/\row.length=k+1/\ApD b c a k)\/
 ∃l:List PP,d= .tuple [.str "same",.list (l.map kP)]/\AllP b c a l/\∀k p e,RW b c a k p->e∈a->GG b c p e
theorem xx {b c:Bd} (p:VB b) (o:VB c) {n:Nat} (hn:b.n=n) (q:c.n=n) (r:n<=5) {ρ:bx} {fa:yp} {Z:a9} (ha:fa ρ Z= .ok [.fz (bD b),.fz (bD c)] Z):∃d Z',lA (lU cx 2 fa) ρ Z= .ok (.fz d) Z'/\Qw b c (pG n) d:=by
 have a:=(Fs p o hn q r (m:=80) (by decide) (by decide) Z).out;cases e:ip [.fz (bD b),.fz (bD c),.fz (.int 80)] Z with
 |bad=>rw[e] at a;exact a.elim
 |er x Z'=>
  rw[e] at a;obtain⟨rfl,l,j,h,t⟩:=a;have f:cx [.fz (bD b),.fz (bD c)] Z= .ok (.fz .none) Z':=by unfold cx;dsimp only;rw[e];exact if_pos rfl
  exact⟨.none,Z',jI (qz ha rfl f) rfl,.inl ⟨rfl,l,j,h,by omega⟩⟩
 |ok v Z'=>
  rw[e] at a;have f:cx [.fz (bD b),.fz (bD c)] Z= .ok v Z':=by unfold cx;dsimp only;rw[e]
  rcases a with⟨i,row,d,rfl,g,j,h⟩|⟨i,l,rfl,g,j,h⟩
  .exact⟨_,_,jI (qz ha rfl f) (B5 g),.inr (.inl ⟨row,d,rfl,j,h⟩)⟩
  .exact⟨_,_,jI (qz ha rfl f) (B5 g),.inr (.inr ⟨l,rfl,j,h⟩)⟩
theorem CQ {b c:Bd} (l:VB b) (j:VB c) {n:Nat} (hn:b.n=n) (v:c.n=n) (w:n<=5) {p:PP} (g:PW b c p) (h:∀e∈pG n,GG b c p e):dR [bD b,bD c,kP p]= .ok (.fz (.bool Q2)):=by
 have ev:=BH hn w;have B:BB b c (pG n):=⟨l,j,km hn,km v⟩;generalize pG n=es at ev B h;refine gF (ρ:=[zf (bD b),zf (bD c),zf (kP p),QS]) rfl ?_;unfold iO;refine sM (fun _ ρ=>∃o,ρ=[zf (bD b),zf (bD c),zf (kP p),o]) (ds:=es.map eG) (ρ1:=[zf (bD b),zf (bD c),zf (kP p),QS]) (jy (bO (ah (af rfl) aD) rfl rfl ev) rfl rfl) ⟨QS,rfl⟩ ?_ ?_
 .rintro i d ρ a ⟨o,rfl⟩
  rw[Q7] at a;cases qe:es[i]? with
  |none=>rw[qe] at a;cases a
  |some e=>rw[qe] at a;cases Rm a;have f:=Ro qe;refine⟨[zf (bD b),zf (bD c),zf (kP p),zf (eG e)],rfl,?_⟩;have r:=KM l g.1 (B.eb e f);have m:=KM j g.2 (B.ec e f);have u:=qG l g.1 (B.eb e f);have t:=qG j g.2 (B.ec e f);have y:(bA b p.1 e).2=(bA c p.2 e).2:=h e f;have ne:=K4 u t;rw[decide_eq_false (not_not_intro y)] at ne;refine Bj (b:=Q2) (aZ (ay (rv:= .fz (.bool Q2)) (ay (rv:= .fz (.list ((bA b p.1 e).2.map iu))) (bO (rv:= .fz (.tuple [.list ((bA b p.1 e).2.map iu),dS (bA b p.1 e).1])) (ds:=[bD b,dS p.1,eG e]) (ah (af rfl) (ah (ay (rv:= .fz (dS p.1)) (af rfl) aA rfl rfl eJ) (ah (af rfl) aD))) rfl rfl r) aA rfl rfl eJ) (ay (rv:= .fz (.list ((bA c p.2 e).2.map iu))) (bO (rv:= .fz (.tuple [.list ((bA c p.2 e).2.map iu),dS (bA c p.2 e).1])) (ds:=[bD c,dS p.2,eG e]) (ah (af rfl) (ah (ay (rv:= .fz (dS p.2)) (af rfl) aA rfl rfl fU) (ah (af rfl) aD))) rfl rfl m) aA rfl rfl eJ) rfl rfl ne) rfl) (fun q=>nomatch q) (fun _=>qD ⟨_,rfl⟩)
 .rintro ρ ⟨o,rfl⟩;exact ei (rv:= .fz (.bool Q2)) aA rfl rfl
theorem Qf {α:Type}:∀l:List α,J3 [.list (l.map fun _=>QZ.bool Q2)]=-(.bool Q2):=fun l=>by show(mj _).map (fun bs=>RV.fz (.bool (bs.any id)))=_;rw[STP.ja];show lD (RV.fz (.bool _))=_;rw[List.any_map,show(id∘fun _:α=>Q2)=fun _=>Q2 from rfl,aaC.mpr (fun _ _=>Rc)]
theorem ml {gt:CN} {ft:vg} {fe:dC} {Z:a9} {α:Type} (e:α->D) (f:α->SV) (p:α->Bool) (I:bx->Prop):∀(xs:List α) (ρ:bx) (a:List SV),I ρ->a.length+xs.length<=1000000->(∀x∈xs,∀ρ,I ρ->∃ρ',gt (.fz (e x)) ρ Z= .ok ρ' Z/\ft ρ' Z= .ok (p x) Z/\fe ρ' Z= .ok (f x) Z/\I ρ')->dY gt ft fe (xs.map e) ρ Z a= .ok (a++(xs.filter p).map f) Z
 |[],ρ,a,_,_,_=>by show RS.ok a Z=_;rw[List.filter_nil,T7,RB]
 |x::r,ρ,a,h0,hl,hs=>by
  obtain⟨ρ',i,h,g,d⟩:=hs x Rh ρ h0;rw[Rg] at hl;show((gt (.fz (e x)) ρ Z).bind _)=_;rw[i,RS.bind_ok,h,RS.bind_ok];cases hp:p x with
  |true=>rw[if_pos rfl,g,RS.bind_ok,if_pos (by omega),ml e f p I r ρ' _ d (by rw[Q3,TQ];omega) fun y b=>hs y (Rf _ b),T9,if_pos hp,RJ];rfl
  |false=>rw[if_neg Rc,ml e f p I r ρ' _ d (by omega) fun y b=>hs y (Rf _ b),T9,if_neg (by rw[hp];exact Rc)]
abbrev G8 (f:List Int) (b c:Bd) (e d a o6 o7:Option SV):bx:=[-(.list (f.map .int)),-(bD b),-(bD c),e,d,a,o6,o7]
theorem main (g:List Int) (hns:g.length<=63):L10.Oz F_law [.list (g.map .int)]= .ok (.fz (.bool QW)):=by
 obtain⟨n,hn,ek⟩:=JD g;obtain⟨b,G,I,eb⟩:=DL g 1 n hn;have eb:=eb;obtain⟨c,K,T,ec⟩:=Ej g G I hn;have Y:n<=5:=by omega
 have B:BB b c (pG n):=⟨G,K,km I,km T⟩;have key:Out (F_law [.fz (.list (g.map .int))] []) (fun x _=>x= .fz (.bool QW)) (fun _=>False):=by
  refine v9 rfl ?_;unfold DH;refine dZ (ρ1:=[-(.list (g.map .int)),-(bD b),QS,QS,QS,QS,QS,QS]) (ai (bO (ah (af rfl) (ah aA (ah (bO (ah (af rfl) aD) rfl rfl ek) aD))) rfl rfl eb)) rfl ?_;refine dZ (ρ1:=G8 g b c QS QS QS QS QS) (ai (bO (ah (af rfl) (ah (af rfl) aD)) rfl rfl ec)) rfl ?_;obtain⟨d,Z1,e1,S⟩:=xx G K I T Y (ρ:=G8 g b c QS QS QS QS QS) (fa:=am (ag (aa 1)) (am (ag (aa 2)) aV)) (Z:=[]) (au (ai (af rfl)) (au (ai (af rfl)) aW));refine dZ (ρ1:=G8 g b c (-(d)) QS QS QS QS) e1 rfl ?_;obtain⟨d',f,e2,U⟩:=xx K G T I Y (ρ:=G8 g b c (-(d)) QS QS QS QS) (fa:=am (ag (aa 2)) (am (ag (aa 1)) aV)) (Z:=Z1) (au (ai (af rfl)) (au (ai (af rfl)) aW));refine dZ (ρ1:=G8 g b c (-(d)) (-(d')) QS QS QS) e2 rfl ?_;obtain⟨v,Z3,e3,fs,J,rfl,rfl,X,p2,p3,p4⟩:=(Cz G K I T Y (m:=80) (by decide) (by decide) f).all;have cal:∀{o5 o6 o7:Option SV},lU dI 3 (am (ag (aa 1)) (am (ag (aa 2)) (am (ag (~~~80)) aV))) (G8 g b c (-(d)) (-(d')) o5 o6 o7) f= .ok (.tp [.rf f.length,.rf (f.length+1)]) (mH f fs J):=qz (au (ai (af rfl)) (au (ai (af rfl)) (au (ai aA) aW))) rfl e3;have g0:(mH f fs J)[f.length]? =lD (.lst ((tQ fs).map .fz)):=sd (t:=0);have g1:(mH f fs J)[f.length+1]? =lD (.dd (xY fs)):=sd (t:=1);have z:80<fs.length->kI IQ (BV dk (am (fY (lU dI 3 (am (ag (aa 1)) (am (ag (aa 2)) (am (ag (~~~80)) aV)))) (ag (~~~0))) aV)) (ag (~~~80)) (G8 g b c (-(d)) (-(d')) QS QS QS) f= .ok (.fz (.bool QW)) (mH f fs J):=fun h=>cL (xz (ds:=[.list (tQ fs)]) (d:=nd fs.length) (au (uS (i:=0) (a:= .rf f.length) cal (ai (d:= .int 0) aA) rfl rfl) aW) (by unfold aQ;rw[show sh (mH f fs J) (AV.rf f.length).sv=lD (.list (tQ fs)) from fT g0];rfl) ((eO _).trans (by unfold tQ;rw[QV]))) (ai aA) (cg ((xq _ _).trans (by rw[decide_eq_true (by omega)])));have y:∀l:List PP,l.Nodup->(∀p∈l,∃k,RW b c (pG n) k p)->80<l.length->80<fs.length:=fun l w A h3=>by
   rcases p4 with h|h
   .omega
   .have:=h.len w A;rw[QV] at this;omega
  rcases S with⟨rfl,l,l1,l2,l3⟩|S
  .exact ww (bw (b:=QW) (mx (a:=QW) (b:=QW) (aZ (ay (rv:= .fz (.bool QW)) (af rfl) aA rfl rfl rfl) rfl) fun q=>nomatch q)) (qL (z (y l l1 l2 l3)) rfl)
  have d1:oU d .none=-(.bool Q2):=by rcases S with⟨_,_,rfl,_⟩|⟨_,rfl,_⟩<;>rfl
  rcases U with⟨rfl,l,l1,l2,l3⟩|U
  .refine ww (bw (b:=QW) (mx (a:=Q2) (b:=QW) (aZ (ay (rv:= .fz (.bool Q2)) (af rfl) aA rfl rfl d1) rfl) fun _=>aZ (ay (rv:= .fz (.bool QW)) (af rfl) aA rfl rfl rfl) rfl)) (qL (z (y (l.map Prod.swap) (qu l1) (fun p N=> ?_) (by rw[QV];exact l3))) rfl);obtain⟨q,j,rfl⟩:=RA.mp N;obtain⟨k,O⟩:=l2 q j;exact⟨k,O.swp⟩
  have d2:oU d' .none=-(.bool Q2):=by rcases U with⟨_,_,rfl,_⟩|⟨_,rfl,_⟩<;>rfl
  refine ot (bw (b:=Q2) (mx (a:=Q2) (b:=Q2) (aZ (ay (rv:= .fz (.bool Q2)) (af rfl) aA rfl rfl d1) rfl) fun _=>aZ (ay (rv:= .fz (.bool Q2)) (af rfl) aA rfl rfl d2) rfl)) (lf ?_);have naa:nW (.str "apart") (.str "apart")=-(.bool Q2):=qK (by left);have nss:nW (.str "same") (.str "same")=-(.bool Q2):=qK (by left);have Q:cY (.str "same") (.str "same")=-(.bool QW):=STP.HA (by left);have R:cY (.str "apart") (.str "same")=-(.bool Q2):=(Pp (by left) (by left)).trans (by rw[show(("apart":Str)== "same")=Q2 by left]);rcases S with⟨row,k,rfl,hr,ap⟩|⟨l,rfl,al,sm⟩
  .rcases U with⟨F,k',rfl,M,C⟩|⟨l',rfl,E,L⟩
   case inr=>
    obtain⟨p,e,w,A,h3⟩:=ap.x;exact absurd (L k p.swap e w.swp A).symm h3
   have kk:k=k':=ap.one C.swp;subst kk;clear C d1 d2 z y;refine ot (bw (b:=Q2) (mx (a:=Q2) (b:=Q2) (aZ (ay (rv:= .fz (.bool Q2)) (ay (rv:= .fz (.str "apart")) (af rfl) aA rfl rfl eJ) (ay (rv:= .fz (.str "apart")) (af rfl) aA rfl rfl eJ) rfl rfl naa) rfl) fun _=>jO (a:=Q2) (b:=QW) (aZ (ay (rv:= .fz (.bool Q2)) (ay (rv:= .fz (.str "apart")) (af rfl) aA rfl rfl eJ) aA rfl rfl R) rfl) fun q=>nomatch q)) (lf ?_);refine ot (bw (b:=Q2) (aZ (ay (rv:= .fz (.bool Q2)) (ay (rv:= .fz (.str "apart")) (af rfl) aA rfl rfl eJ) aA rfl rfl R) rfl)) (lf ?_);refine dZ (ρ1:=G8 g b c (-(.tuple [.str "apart",.list row])) (-(.tuple [.str "apart",.list F])) (lD (.rf f.length)) (lD (.rf (f.length+1))) QS) cal rfl ?_;have H:∀{r:List D},r.length=k+1->dk [.list r]=-(.int ((k:Int)+1)):=fun h=>(eO _).trans (by rw[h];rfl);have is:=uX (fe:=az 5) (ρ:=G8 g b c (-(.tuple [.str "apart",.list row])) (-(.tuple [.str "apart",.list F])) (lD (.rf f.length)) (lD (.rf (f.length+1))) QS) (bJ rfl) g0;have P:((mH f fs J).set f.length .dead)[f.length+1]? =lD (.dd (xY fs)):=(Sd (by omega)).trans g1;generalize (mH f fs J).set f.length .dead=Z4 at is P;have hc:=ml (gt:=gA 0) (ft:=bU (kI IA (kN (az 1) (ag (aa 0))) (ag (aJ pN (g8 dk {aJ bq (aa 2) (~~~1)}) (~~~1))))) (fe:=ag (aa 0)) (Z:=Z4) (fun q:Pk=>kP q.p) (fun q=>SV.fz (kP q.p)) (fun q=>decide ((q.k:Int)<(k:Int)+1 - 1)) (fun ρ=>∃o,ρ=[o,lD (.rf (f.length+1)),-(.tuple [.str "apart",.list row])]) fs [QS,lD (.rf (f.length+1)),-(.tuple [.str "apart",.list row])] [] ⟨QS,rfl⟩ (by rw[SD];omega) (fun q j ρ ⟨o,ho⟩=>by subst ho;refine⟨[-(kP q.p),lD (.rf (f.length+1)),-(.tuple [.str "apart",.list row])],rfl,?_,ai (af rfl),_,rfl⟩;exact bu (cL (qW (bJ rfl) (ai (af rfl)) (kA (gK (B.rw (X q j)))) P (LI.yes B X p2 j)) (ai (ay (rv:= .fz (.int ((k:Int)+1 - 1))) (d6 (rv:= .fz (.int ((k:Int)+1))) (ds:=[.list row]) (ah (ay (rv:= .fz (.list row)) (af rfl) aA rfl rfl fU) aD) rfl (H hr)) aA rfl rfl (on _ _))) (cg (ku _ _))));have cs:=p7 (n:=1) (fj:=[6,3]) (ρ:=G8 g b c (-(.tuple [.str "apart",.list row])) (-(.tuple [.str "apart",.list F])) (lD (.rf f.length)) (lD (.rf (f.length+1))) QS) is hc;have nr:∀q∈fs.filter fun q=>decide ((q.k:Int)<(k:Int)+1 - 1),dR [bD b,bD c,kP q.p]= .ok (.fz (.bool Q2)):=fun q j=>by obtain⟨w,A⟩:=Tj.mp j;have A:=of_decide_eq_true A;exact CQ G K I T Y (B.rw (X q w)) fun e he=>ap.n q.k q.p e (by omega) (X q w) he
   have fl:=UL (fun q:Pk=>decide ((q.k:Int)<(k:Int)+1 - 1)) fs;generalize fs.filter (fun q=>decide ((q.k:Int)<(k:Int)+1 - 1))=gs at cs nr fl;rw[V0] at cs;have fz:frz 4 (Z4++[Cell.lst (gs.map fun q=>SV.fz (kP q.p))]) (.rf Z4.length)=lD (.list (tQ gs),(Z4++[Cell.lst (gs.map fun q=>SV.fz (kP q.p))]).set Z4.length .dead):=mV (by rw[aY];unfold tQ;rw[RT];rfl);refine dZ (ρ1:=G8 g b c (-(.tuple [.str "apart",.list row])) (-(.tuple [.str "apart",.list F])) (lD (.rf f.length)) (lD (.rf (f.length+1))) (-(.list (tQ gs)))) (jI cs fz) rfl ?_;have cm:lF (d5 (gN 0) fH (cP dR 3 {aa 1,aa 2,aa 0}) (tQ gs) [QS,zf (bD b),zf (bD c)] [])= .ok (gs.map fun _=> .bool Q2):=kY (cp:=[zf (bD b),zf (bD c)]) (fun q:Pk=>kP q.p) (fun _=>QZ.bool Q2) gs (by omega) rfl fun q j=>bO (rv:= .fz (.bool Q2)) (ah (af rfl) (ah (af rfl) (ah (af rfl) aD))) rfl rfl (nr q j);exact r8 (ai (qp (a:=QW) (b:=QW) (aZ (ay (rv:= .fz (.bool QW)) (d6 (rv:= .fz (.int ((k:Int)+1))) (ds:=[.list row]) (ah (ay (rv:= .fz (.list row)) (af rfl) aA rfl rfl fU) aD) rfl (H hr)) (d6 (rv:= .fz (.int ((k:Int)+1))) (ds:=[.list F]) (ah (ay (rv:= .fz (.list F)) (af rfl) aA rfl rfl fU) aD) rfl (H M)) rfl rfl ((gZ _ _).trans (by rw[decide_eq_true rfl]))) rfl) fun _=>B0 (a:=Q2) (aZ (d6 (rv:= .fz (.bool Q2)) (ds:=[.list (gs.map fun _=> .bool Q2)]) (ah (fG (cs:=[bD b,bD c]) (ds:=tQ gs) (jy (d:= .list (tQ gs)) (af rfl) rfl rfl) rfl cm) aD) rfl (Qf gs)) rfl))) rfl
  .rcases U with⟨F,k',rfl,M,C⟩|⟨l',rfl,E,L⟩
   .obtain⟨p,e,w,A,h3⟩:=C.x;exact absurd (sm k' p.swap e w.swp A).symm h3
   have le:l.length=l'.length:=by have w:=al.len (qu E.u) (fun p N=>by obtain⟨q,j,rfl⟩:=RA.mp N;obtain⟨k,O⟩:=E.r q j;exact⟨k,O.swp⟩);have A:=E.len (qu al.u) (fun p N=>by obtain⟨q,j,rfl⟩:=RA.mp N;obtain⟨k,O⟩:=al.r q j;exact⟨k,O.swp⟩);rw[QV] at w A;omega
   have H:∀{m:List PP},m.length=l.length->dk [.list (m.map kP)]=-(nd l.length):=fun h=>(eO _).trans (by rw[QV,h]);have nn:nW (nd l.length) (nd l.length)=-(.bool Q2):=qK rfl;refine ot (bw (b:=Q2) (mx (a:=Q2) (b:=Q2) (aZ (ay (rv:= .fz (.bool Q2)) (ay (rv:= .fz (.str "same")) (af rfl) aA rfl rfl eJ) (ay (rv:= .fz (.str "same")) (af rfl) aA rfl rfl eJ) rfl rfl nss) rfl) fun _=>jO (a:=QW) (b:=Q2) (aZ (ay (rv:= .fz (.bool QW)) (ay (rv:= .fz (.str "same")) (af rfl) aA rfl rfl eJ) aA rfl rfl Q) rfl) fun _=>aZ (ay (rv:= .fz (.bool Q2)) (d6 (rv:= .fz (nd l.length)) (ds:=[.list (l.map kP)]) (ah (ay (rv:= .fz (.list (l.map kP))) (af rfl) aA rfl rfl fU) aD) rfl (H rfl)) (d6 (rv:= .fz (nd l.length)) (ds:=[.list (l'.map kP)]) (ah (ay (rv:= .fz (.list (l'.map kP))) (af rfl) aA rfl rfl fU) aD) rfl (H le.symm)) rfl rfl nn) rfl)) (lf ?_);exact ww (bw (b:=QW) (aZ (ay (rv:= .fz (.bool QW)) (ay (rv:= .fz (.str "same")) (af rfl) aA rfl rfl eJ) aA rfl rfl Q) rfl)) (qL (ai aA) rfl)
 obtain⟨x,Z',w,rfl⟩:=key.all;unfold L10.Oz;rw[show[QZ.list (g.map .int)].map SV.fz=[.fz (.list (g.map .int))] from rfl,w]
end K52
local macro_rules| `(tactic|fail "sc")=> `(tactic|exact⟨rfl,rfl,rfl,by left,rfl,by left,by left⟩)| `(tactic|fail "me")=> `(tactic|first
 |exact .head _
 |(apply List.Mem.tail;fail "me"))
local macro_rules| `(tactic|fail "cm")=> `(tactic|first
 |change L3.kH
 |change L3.rQ
 |change L3.uV
 |change L3.D5
 |change L3.Ai
 |change L3.Ha
 |change L3.v3
 |change L3.Ia
 |change L3.uL
 |change L3.Bh)
local macro_rules| `(tactic|fail "sp")=> `(tactic|first
 |fail "cm"
 |change L3.bN
 |change L3.iC
 |change L3.Ct
 |change L3.vq
 |change L3.yo
 |change L3.HR
 |change L3.IE
 |change L3.A5
 |change L3.BZ
 |change L3.Js
 |change L3.AL
 |change L3.eV
 |change L3.mQ
 |change L3.JW
 |change L3.uH
 |change L3.zt
 |change L3.F9
 |change L3.Ik
 |change L3.nO
 |change L3.N9
 |change L9.Ah
 |change L10.BL
 |change L3.mX
 |change L3.vq)
local macro_rules| `(tactic|fail "eo")=> `(tactic|first
 |change L3.aq
 |change L3.aN
 |(exists L3.bj);(·fail "sp");(·fail "eo");(·fail "eo")
 |change L3.iL
 |(exists L3.gH);(·fail "ao")
 |(exists L3.ib);(·fail "sp");(·fail "ao")
 |(exists L3.gD);(·fail "ao")
 |(exists L3.mE);(·fail "ao")
 |(exists L3.Gh);(·fail "eo")
 |change L3.ic
 |change L3.Ay
 |(exists L3.FD);(·fail "sp");(·fail "eo");(·fail "oo");(·fail "oo")
 |(exists L3.yV);(·fail "eo");(·fail "eo")
 |(exists L3.GB);(·fail "eo")
 |(exists L9.Mu);(·fail "eo")
 |(exists L3.yB);(·assumption))
local macro_rules| `(tactic|fail "ao")=> `(tactic|first
 |(exists L3.aB);(·fail "eo");(·fail "ao")
 |change L3.a8)
local macro_rules| `(tactic|fail "tt")=> `(tactic|first
 |(exists L3.cZ);(exists L3.bj);(·fail "cm");(·fail "eo");(·fail "eo")
 |(exists L3.Ck);(·fail "tt");(·fail "tt")
 |(exists L3.yW);(·fail "tt");(·fail "tt")
 |(exists L3.KK);(·fail "eo")
 |change L3.fC)
local macro_rules| `(tactic|fail "gg")=> `(tactic|first
 |change L3.ck
 |(exists L3.wq);(·fail "gg");(·fail "gg")
 |change L3.G3
 |(exists L3.Fx);(·fail "gg")
 |change L10.bz
 |(exists L10.sL);(·fail "gg");(·fail "gg")
 |change L10.Ci
 |(exists L10.A9);(·fail "gg"))
local macro_rules| `(tactic|fail "io")=> `(tactic|first
 |(exists L3.jx);(·fail "ao")
 |(exists L3.i4);(·fail "eo")
 |(exists L3.Nz);(·fail "ao")
 |(exists L10.rE);(·fail "io")
 |(exists L10.nA);(·fail "es"))
local macro_rules| `(tactic|fail "oo")=> `(tactic|first
 |(exists L3.sI);(·fail "eo")
 |change L3.qX)
local macro_rules| `(tactic|fail "es")=> `(tactic|first
 |(exists L10.ao);(·fail "eo")
 |change L10.aU
 |(exists L10.x9);(·fail "es");(·fail "es")
 |(exists L10.fD);(·fail "sp");(·fail "es");(·fail "es")
 |(exists L10.cz);(·assumption);(·fail "me");(·fail "es")
 |(exists L10.je);(·fail "as")
 |(exists L10.ju);(·fail "as")
 |(exists L10.BG);(·fail "as")
 |(exists L10.uU);(·fail "es");(·fail "es")
 |(exists L10.jE);(·fail "as")
 |(exists L10.fX);(·fail "es");(·fail "es")
 |(exists L10.uO);(·assumption);(·fail "es");(·fail "as")
 |(exists L10.wQ);(·fail "es")
 |(exists L10.wW);(·fail "es")
 |(exists L10.Gp);(·fail "es");(·fail "es")
 |(exists L10.JH);(·fail "es");(·fail "es")
 |(exists L10.kh);(·fail "sp");(·fail "as")
 |(exists L10.iy);(·fail "es")
 |(exists L10.Bl);(·fail "es");(·fail "es")
 |(exists L10.MK);(·fail "ts");(·fail "es");(·fail "es")
 |(exists L10.Kg);(·assumption);(·fail "as")
 |(exists L10.D6);(·fail "es"))
local macro_rules| `(tactic|fail "as")=> `(tactic|first
 |(exists L10.aC);(·fail "es");(·fail "as")
 |change L10.bF)
local macro_rules| `(tactic|fail "ts")=> `(tactic|first
 |(exists L10.fL);(exists L10.fD);(·fail "cm");(·fail "es");(·fail "es")
 |(exists L10.i8);(·fail "tt")
 |(exists L10.Bs);(·fail "ts");(·fail "ts")
 |(exists L10.Ln);(·fail "ts");(·fail "ts")
 |(exists L10.Jp);(·fail "ts")
 |(exists L10.Fr);(·fail "es"))
local macro_rules| `(tactic|fail "so")=> `(tactic|first
 |(exists L3.bV);(·fail "so");(·fail "so")
 |(exists L3.lX);(·fail "eo");(·fail "gg")
 |(exists L3.NZ);(·fail "tt");(·fail "so");(·fail "so")
 |(exists L3.io);(·fail "eo")
 |(exists L3.Cf);(·fail "eo")
 |change L3.HY
 |(exists L3.yX);(·fail "io");(·fail "gg");(·fail "so")
 |(exists L10.aR);(·fail "so");(·fail "so")
 |(exists L10.cJ);(·fail "es");(·fail "gg")
 |(exists L10.iV);(·fail "ts");(·fail "so");(·fail "so")
 |(exists L10.ji);(·fail "es")
 |(exists L10.eC);(·fail "es")
 |(exists L10.Gd);(·fail "es");(·fail "es");(·fail "es")
 |(exists L10.lm);(·assumption);(·fail "me");(·fail "es");(·fail "es")
 |change L10.eS
 |(exists L10.u6);(·fail "io");(·fail "gg");(·fail "so")
 |(exists L10.oQ);(·fail "ts");(·fail "so")
 |change L10.F4
 |change L10.uw)
local macro_rules| `(tactic|fail "to")=> `(tactic|first
 |exact L2.bh
 |exact L2.kG (by assumption)
 |exact L2.sO (by assumption)
 |exact L3.uN (by assumption)
 |exact L3.HW (by assumption)
 |exact L9.u7
 |exact L3.iE
 |exact L3.qI
 |exact L3.J4
 |exact L2.GI
 |exact L2.Fk
 |exact L2.Cl
 |exact L3.Cr
 |exact L2.Mf
 |exact L2.FR
 |exact L2.zN
 |exact L2.BP
 |exact L2.KP
 |exact L2.Kp
 |exact L2.Mx
 |exact L2.DK
 |exact L2.GR
 |exact L2.EY
 |exact L2.cG
 |exact L2.gq
 |exact L2.uK
 |exact L2.jr
 |exact L10.ub
 |exact L2.MZ
 |exact L3.vV
 |exact L2.BW
 |exact acg
 |exact L2.ie
 |exact L2.qC
 |exact L2.zA
 |exact L2.K2
 |exact L2.wN
 |exact L2.Hh
 |exact L2.KY
 |exact L10.Mg
 |change Uk
 |change Ub
 |change Uc
 |change PySem.F.slot_list_insert
 |change PySem.F.type_list_insert
 |change PySem.F.slot_list_extend
 |change PySem.F.type_list_extend
 |change Vw
 |change Vm
 |change Yd
 |exact L2.CO rfl
 |exact L3.rX rfl
 |exact L3.yl rfl
 |exact L10.ro rfl
 |exact L10.se rfl
 |exact L10.zr rfl
 |rfl)
local macro_rules| `(tactic|fail "pe")=> `(tactic|first
 |(exists L2.pv);(·rfl);(·(first|exact Or.inl rfl|exact Or.inr (Or.inl rfl)|exact Or.inr (Or.inr rfl)));(·decide);(·decide)
 |change L2.aL
 |(exists L2.bM);(·fail "to");(·fail "pe");(·fail "pe");(·exact fun _ _=>rfl)
 |change L2.iK
 |(exists L2.g9);(·fail "to");(·fail "pe");(·fail "pe")
 |(exists L2.Bm);(·assumption);(·fail "pe");(·fail "pe");(·exact fun _ _=>rfl)
 |(exists L2.c9);(·assumption);(·assumption);(·fail "pa");(·decide);(·rfl);(·decide);(·rfl);(·rfl)
 |(exists L2.dX);(·fail "pa")
 |change L2.gc
 |(exists L2.lZ);(·fail "pa")
 |(exists L2.b7);(·fail "to");(·rfl);(·assumption);(·fail "to");(·fail "pa");(·decide);(·decide);(·rfl);(·rfl)
 |(exists L2.jo);(·fail "to");(·rfl);(·assumption);(·fail "to");(·fail "pa");(·decide);(·decide);(·rfl);(·rfl)
 |(exists L2.wu);(·rfl);(·assumption);(·(first|rfl|exact⟨_,rfl⟩));(·decide)
 |change L2.Av
 |(exists L2.gX);(·fail "to");(·fail "pe");(·fail "pe");(·(first|rfl|with_unfolding_all rfl))
 |(apply L2.dz);(·fail "pe");(·rfl)
 |(apply L2.A7);(·fail "to");(·fail "to");(·fail "to");(·fail "to");(·fail "pe");(·fail "pa");(·rfl);(·rfl);(·decide);(·rfl);(·rfl)
 |(exists L2.Fw);(·fail "pt");(·fail "pe");(·fail "pe")
 |(apply L2.Hi);(·fail "to");(·fail "to");(·fail "to");(·fail "to");(·fail "pe");(·rfl);(·decide)
 |(exists L2.vS);(·fail "pe")
 |(exists L2.vL);(·fail "pe");(·fail "pe")
 |(exists L2.Ou);(·fail "to");(·fail "pe")
 |(exists L2.Ec);(·fail "pe")
 |(apply L2.rO);(·fail "to");(·fail "pe");(·fail "po");(·fail "po")
 |(apply L2.Nk);(·fail "pe");(·fail "po")
 |(apply L2.Fp);(·fail "pe");(·fail "pe");(·exact⟨rfl,rfl,rfl,rfl⟩)
 |(apply L10.Az);(·assumption);(·fail "to");(·assumption);(·fail "pe");(·fail "pa");(·decide);(·rfl);(·rfl);(·rfl)
 |(apply L10.DT);(·assumption);(·fail "to");(·assumption);(·fail "pe");(·decide);(·rfl)
 |(apply L10.K6);(·assumption);(·fail "to");(·assumption);(·fail "pa");(·decide);(·rfl);(·decide);(·rfl);(·rfl)
 |(apply L10.Bg);(·rfl);(·rfl);(·assumption);(·fail "pa");(·rfl))
local macro_rules| `(tactic|fail "pa")=> `(tactic|first
 |(exists L2.aj);(·fail "pe");(·fail "pa");(·rfl)
 |change L2.aF)
local macro_rules| `(tactic|fail "pt")=> `(tactic|first
 |(exists L2.cS);(·fail "to");(·fail "pe");(·fail "pe");(·(first|rfl|with_unfolding_all rfl))
 |(exists L2.MH);(·fail "pt")
 |(exists L2.zC);(·fail "pc");(·(first|rfl|with_unfolding_all rfl))
 |(exists L2.PW.pt);(·fail "pw")
 |(exists L2.EI);(·fail "pe");(·(intro _;rfl)))
local macro_rules| `(tactic|fail "pw")=> `(tactic|first
 |(exists L2.vY);(·fail "pt")
 |(exists L2.yZ);(·fail "pt");(·fail "pw")
 |(exists L2.yN);(·fail "pt")
 |(exists L2.FL);(·fail "pt");(·fail "pw"))
local macro_rules| `(tactic|fail "pc")=> `(tactic|first
 |(exists L2.Mz);(·assumption);(·fail "pe");(·fail "pe"))
local macro_rules| `(tactic|fail "pg")=> `(tactic|first
 |(exists L2.ce);(·(first|assumption|left));(·rfl);(·(first|exact Or.inl rfl|exact Or.inr rfl|assumption|rfl));(·(first|exact Or.inl rfl|exact Or.inr rfl|assumption|rfl))
 |(exists L2.kg);(·fail "pg");(·fail "pg");(·rfl)
 |change L2.wB
 |(apply L2.z7);(·rfl);(·fail "pg");(·rfl);(·rfl))
local macro_rules| `(tactic|fail "pi")=> `(tactic|first
 |(exists L2.fZ);(·rfl);(·assumption);(·fail "pa");(·rfl)
 |(apply L3.LW);(·rfl);(·assumption);(·fail "pa");(·rfl);(·rfl)
 |(apply L3.fJ);(·fail "pe"))
local macro_rules| `(tactic|fail "po")=> `(tactic|first
 |change L2.vx
 |(exists L2.vM);(·fail "pe"))
local macro_rules| `(tactic|fail "te")=> `(tactic|first
 |(exists L2.aO);(·fail "te")
 |change L2.gl
 |(exists L2.ar);(·fail "te");(·fail "te")
 |(exists L2.cO);(·(first|assumption|left));(·rfl);(·(first|exact Or.inl rfl|exact Or.inr rfl|assumption|rfl));(·fail "pe");(·rfl);(·(first|exact Or.inl rfl|exact Or.inr rfl|assumption|rfl))
 |(exists L2.iB);(·fail "pe");(·rfl)
 |(exists L2.cD);(·fail "pe")
 |(exists L2.lO);(·fail "pt");(·fail "te");(·fail "te")
 |(exists L2.sT);(·fail "to");(·rfl);(·fail "pi");(·fail "pg");(·fail "te");(·(intro _;rfl))
 |(apply L2.oG);(·fail "pe");(·fail "pe");(·rfl)
 |(exists L2.IZ);(·assumption);(·fail "pe");(·fail "pe");(·fail "pe");(·rfl)
 |(exists L2.Gs);(·fail "pe");(·fail "pg");(·rfl);(·rfl);(·rfl)
 |change L2.JJ
 |(exists L2.rz);(·fail "to");(·fail "pt");(·fail "te")
 |change L2.xZ)
local macro_rules| `(tactic|fail "ok")=> `(tactic|(intros;refine L3.Dr (by fail "so") ?_;first|(apply L2.ar);(·fail "te");(·fail "te")|(apply L2.aO);(·fail "te")))| `(tactic|fail "os")=> `(tactic|(intros;refine L3.Cd (by fail "so") ?_;first|(apply L2.ar);(·fail "te");(·fail "te")|(apply L2.aO);(·fail "te")))| `(tactic|fail "cm")=> `(tactic|change LD.aeR)| `(tactic|fail "to")=> `(tactic|exact LD.ags (by assumption))
namespace K52
open PySem L2 L3 STP
def top (i:Nat):Ts:=PySem.Challenge.pw_chordbed_k52_whole_none_is_shorter.main.body.getD i (.Pass ⟨0,0,0,0⟩)
def fb:Ts->List Ts
 | .For _ _ b _ _=>b
 | .If _ b _ _=>b
 |_=>[]
def av:Ts->Sf
 | .Assign _ v _=>v
 |_=> .Name "" ⟨0,0,0,0⟩
def ss:Sf->Sf
 | .Subscript _ v _=>v
 |e=>e
def sP:Sf->Pos
 | .Subscript _ _ p=>p
 |_=>⟨0,0,0,0⟩
def lp:Sf->Pos
 | .List _ p=>p
 |_=>⟨0,0,0,0⟩
def iT:Ts->Sf
 | .If c _ _ _=>c
 |_=> .Name "" ⟨0,0,0,0⟩
def fI:Ts->Sf
 | .For _ i _ _ _=>i
 |_=> .Name "" ⟨0,0,0,0⟩
def iP:Ts->Pos
 | .If _ _ _ p=>p
 |_=>⟨0,0,0,0⟩
def aP:Ts->Pos
 | .Assign _ _ p=>p
 |_=>⟨0,0,0,0⟩
def nP:Ts->Pos
 | .Assign [.Name _ p] _ _=>p
 |_=>⟨0,0,0,0⟩
def sv:Sf->Sf
 | .Subscript v _ _=>v
 |e=>e
def le:Sf->List Sf
 | .List l _=>l
 |_=>[]
def QN:Sf->Option Sf
 | .Slice a _ _ _=>a
 |_=>QS
def QQ:Sf->Option Sf
 | .Slice _ a _ _=>a
 |_=>QS
def QO:Sf->Pos
 | .Slice _ _ _ p=>p
 |_=>⟨0,0,0,0⟩
def QP:Sf->List Sf
 | .Tuple l _ _=>l
 |_=>[]
def QL:Ts->Sf
 | .Return (lD e) _=>e
 |_=> .Name "" ⟨0,0,0,0⟩
def rP:Ts->Pos
 | .Return _ p=>p
 |_=>⟨0,0,0,0⟩
def bl:Sf->Sf
 | .BinOp a _ _ _=>a
 |e=>e
def br:Sf->Sf
 | .BinOp _ _ b _=>b
 |e=>e
def bP:Sf->Pos
 | .BinOp _ _ _ p=>p
 |_=>⟨0,0,0,0⟩
def dK:Sf->List (Option Sf)
 | .Dict k _ _=>k
 |_=>[]
def dV:Sf->List Sf
 | .Dict _ v _=>v
 |_=>[]
def dP:Sf->Pos
 | .Dict _ _ p=>p
 |_=>⟨0,0,0,0⟩
def DP:Ts:= .Pass ⟨0,0,0,0⟩
def DE:Sf:= .Name "" ⟨0,0,0,0⟩
theorem PB {l p t n env}:SU (.List l p) t n env=pure Q2:=rfl
theorem Oy {l k p t n env}:SU (.Tuple l k p) t n env=pure Q2:=rfl
theorem Pj {a b c p t n env}:SU (.Call a b c p) t n env=pure Q2:=rfl
theorem N7 {a o b p t n env}:SU (.BinOp a o b p) t n env=pure Q2:=rfl
theorem Jx {a b p t n env}:SU (.Subscript a b p) t n env=pure Q2:=rfl
theorem Pz {a p t n env}:SU (.Name a p) t n env=pure Q2:=rfl
theorem Ky {a b p t n env}:SU (.Constant a b p) t n env=pure Q2:=rfl
theorem Nh {o a p t n env}:SU (.UnaryOp o a p) t n env=pure Q2:=rfl
theorem Nu {a b c p t n env}:SU (.Compare a b c p) t n env=pure Q2:=rfl
theorem NP {a b p t n env}:SU (.BoolOp a b p) t n env=pure Q2:=rfl
theorem OQ {a b c p t n env}:SU (.IfExp a b c p) t n env=pure Q2:=rfl
section
variable {P:Rt} {w:RM} {K:QR} {mg:Str->Option QT} {base:Heap} {f:QX} {fd:Sj}
theorem xo (F:Ut K "layer_of" "layer_of" (top 8) f fd) (d:mg "max"=QS):FnOk P w K mg base dm 1 f fd ["standing"] (nz K 1 dH):=lu (N:=["standing"]) (g:=mh) F (by fail "sc") rfl rfl rfl fun l A a s H E nd h b j e=>Cd (bV (by fail "so")
   (io (ib L10.BL (aB (fM rfl rfl (i4 (bj bN aq aN)) (Fx (wq ck (wq ck G3))) (cZ (bj kH (bj bN aq aN) iL)) (bj bN aq aN)) a8)))) (ar (by fail "te")
   (aO (cD (L10.Bg rfl rfl d (aj (fu ["key","act"] [] rfl (fJ (bM bh (pv 0) aL (fun _ _=>rfl))) (fun _ _ _ _=>(z7 rfl (kg (ce (i:=0) (show Sw (["key","act"]:List Str) by left) rfl (Or.inl rfl)) (kg (ce (i:=1) (show Sw (["key","act"]:List Str) by left) rfl (Or.inl rfl)) wB)))) (fun _ _ _ _=>(nv (cS (kG b) (bM bh (pv 1) aL (fun _ _=>rfl)) iK (c7 _)))) (fun _ _ _ _=>(bM bh (pv 1) aL (fun _ _=>rfl))) trivial rfl) aF)))))
theorem vQ (F:Ut K "looked_up" "looked_up" (top 11) f fd):FnOk P w K mg base dm 1 f fd ["bed","layer","key"] (nz K 3 iA):=lu (N:=["bed","layer","key","meaning"]) (g:=ko) F (by fail "sc") rfl rfl rfl fun i A a s H E nd e d h b=>Cd (bV (by fail "so")
   (bV (by fail "so")
   (io aq))) (ar (by fail "te")
   (ar (by fail "te")
   (aO (cD (pv 3)))))
theorem rb (F:Ut K "chords_over" "chords_over" (top 12) f fd) (d:mg "all"=QS):FnOk P w K mg base dm 1 f fd ["bed","keys"] (nz K 2 bL):=lu (N:=["bed","keys"]) (g:=iM) F (by fail "sc") rfl rfl rfl fun l A a s H E nd h e j b=>Cd (io (fM rfl rfl (i4 (bj bN aq aN)) ck (KK (ib zt (aB (fM rfl rfl (i4 aq) ck fC (bj v3 aq (bj bN aq aN))) a8))) aq)) (aO (cD (fu ["chord"] [("keys",1)] rfl (fJ (bM bh (pv 0) aL (fun _ _=>rfl))) (fun _ _ _ _=>(ce (i:=0) (show Sw (["chord","keys"]:List Str) by left) rfl (Or.inr rfl))) (fun _ _ _ _=>(nv (EI (b7 (rX rfl) rfl d Hh (aj (fu ["key"] [("chord",0)] rfl (fJ (pv 1)) (fun _ _ _ _=>(ce (i:=0) (show Sw (["key","chord"]:List Str) by left) rfl (Or.inl rfl))) (fun _ _ _ _=>d8) (fun _ _ _ _=>(gX (uN b) (pv 0) (bM bh (pv 1) aL (fun _ _=>rfl)) (by with_unfolding_all rfl))) ⟨⟨rfl,rfl,Or.inl rfl⟩,trivial⟩ rfl) aF))))) (fun _ _ _ _=>(pv 0)) ⟨⟨rfl,rfl,Or.inl rfl⟩,trivial⟩ rfl)))
theorem tU (F:Ut K "chord_acts" "chord_acts" (top 13) f fd) (n:mg "list"=QS) (o:mg "sorted"=QS) (q:mg "len"=QS) {b:QX} (l:mg "NONE"=lD (.ref b)) (j:∀O H,DV O K H (.ref b) (.tuple [(.str "none")])):FnOk P w K mg base dm 1 f fd ["bed","keys"] (nz K 2 fF):=lu (N:=["bed","keys","chord"]) (g:=jH) F (by fail "sc") rfl rfl rfl fun p A a s H E nd h e m d=>Cd (bV (by fail "so")
   (io (fM rfl rfl (i4 aq) ck fC (bj bN (bj bN (bj bN aq aN) aN) aq)))) (ar (by fail "te")
   (aO (cD (fu ["key"] [("bed",0)] rfl (fJ (pv 1)) (fun _ _ _ _=>(ce (i:=0) (show Sw (["key","bed"]:List Str) by left) rfl (Or.inl rfl))) (fun _ _ _ _=>d8) (fun _ _ _ _=>(bM bh (bM bh (bM bh (pv 1) aL (fun _ _=>rfl)) aL (fun _ _=>rfl)) (pv 0) (fun _ _=>rfl))) ⟨⟨rfl,rfl,Or.inl rfl⟩,trivial⟩ rfl))))
theorem we (F:Ut K "_law_cell" "_law_cell" (top 20) f fd) (j:mg "len"=QS):FnOk P w K mg base dm 1 f fd ["_law_script","_law_k"] (nz K 2 bH):=lu (N:=["_law_script","_law_k"]) (g:=oY) F (by fail "sc") rfl rfl rfl fun i A a s H E nd e d h b=>Cd (bV (by fail "so")
   (io aN)) (ar (by fail "te")
   (aO (cD aL)))
theorem wf (F:Ut K "_law_take" "_law_take" (top 21) f fd) (a:mg "range"=QS):FnOk P w K mg base dm 1 f fd ["_law_cell_here","_law_salt","_law_many"] (nz K 3 aI):=lu (N:=["_law_cell_here","_law_salt","_law_many","_law_turn","_law_number"]) (g:=gz) F (by fail "sc") rfl rfl rfl (by delta gz;fail "os")
theorem sR (F:Ut K "_law_letter" "_law_letter" (top 22) f fd) (d:fq P w K mg base 1 "_law_take" ["_law_cell_here","_law_salt","_law_many"] 3 aI):FnOk P w K mg base dm 2 f fd ["_law_cell_here","_law_salt"] (nz K 2 c8):=lu (N:=["_law_cell_here","_law_salt"]) (g:=lR) F (by fail "sc") rfl rfl rfl fun j A a s H E nd b h i e=>Cd (io (bj vq iL (gH (aB aq (aB aq (aB aN a8)))))) (aO (cD (bM bh iK (c9 d b (aj (pv 0) (aj (pv 1) (aj aL aF)))) (fun _ _=>rfl))))
theorem pO (F:Ut K "_law_meaning" "_law_meaning" (top 23) f fd) (d:fq P w K mg base 1 "_law_take" ["_law_cell_here","_law_salt","_law_many"] 3 aI) (b:fq P w K mg base 2 "_law_letter" ["_law_cell_here","_law_salt"] 2 c8) (a:mg "max"=QS):FnOk P w K mg base dm 3 f fd ["_law_cell_here","_law_layer","_law_many"] (nz K 3 eA):=lu (N:=["_law_cell_here","_law_layer","_law_many","_law_way","_law_level"]) (g:=ez) F (by fail "sc") rfl rfl rfl (by delta ez;fail "os")
theorem tf (F:Ut K "_law_chords" "_law_chords" (top 24) f fd) (o:fq P w K mg base 1 "_law_take" ["_law_cell_here","_law_salt","_law_many"] 3 aI) (d:mg "range"=QS) (h:mg "tuple"=QS) (j:mg "len"=QS) (e:mg "all"=QS):FnOk P w K mg base dm 2 f fd ["_law_cell_here","_law_keys_here","_law_first"] (nz K 3 gr):=lu (N:=["_law_cell_here","_law_keys_here","_law_first","_law_found","_law_mask","_law_some","_law_good"]) (g:=gm) F (by fail "sc") rfl rfl rfl fun p A a s H E nd m b n l=>Cd (bV (by fail "so")
   (bV (yX (jx (aB (bj AL aN aq) a8)) ck (bV (lX (ib mQ (aB (fM rfl rfl (jx (aB aq a8)) ck (cZ (bj kH (bj A5 (bj BZ aq aq) aN) aN)) aq) a8)) ck)
   (bV (lX (yV (bj Ai (ib eV (aB aq a8)) aN) (ib zt (aB (fM rfl rfl (i4 aq) ck fC (bj kH (bj bN (bj bN aq aq) aN) iL)) a8))) ck)
   (by fail "so"))))
   (by fail "so"))) (ar (by fail "te")
   (ar (sT VF.never rfl (fZ rfl d (aj (g9 EY aL (pv 1)) aF)) (ce (i:=4) nd rfl (Or.inr rfl)) (ar (cO (i:=5) nd rfl (Or.inl rfl) (jo gq rfl h qC (aj (fu ["_law_key"] [("_law_mask",4)] rfl (fZ rfl d (aj (pv 1) aF)) (fun _ _ _ _=>(ce (i:=0) (show Sw (["_law_key","_law_mask"]:List Str) by left) rfl (Or.inl rfl))) (fun _ _ _ _=>(nv (cS (kG b) (g9 GR (g9 DK (pv 1) (pv 0)) aL) aL (c7 _)))) (fun _ _ _ _=>(pv 0)) ⟨⟨rfl,rfl,Or.inl rfl⟩,trivial⟩ rfl) aF)))
   (ar (cO (i:=6) nd rfl (Or.inl rfl) (vL (gX Fk (b7 cG rfl j ie (aj (pv 5) aF)) aL (c7 _)) (vS (b7 (rX rfl) rfl e Hh (aj (fu ["_law_key"] [("_law_first",2)] rfl (fJ (pv 5)) (fun _ _ _ _=>(ce (i:=0) (show Sw (["_law_key","_law_first"]:List Str) by left) rfl (Or.inl rfl))) (fun _ _ _ _=>d8) (fun _ _ _ _=>(gX (kG b) (bM bh (bM bh (pv 1) (pv 0) (fun _ _=>rfl)) aL (fun _ _=>rfl)) iK (c7 _))) ⟨⟨rfl,rfl,Or.inl rfl⟩,trivial⟩ rfl) aF)))))
   (aO (by fail "te")))))
   (aO (by fail "te"))))
theorem yi (F:Ut K "_law_bed" "_law_bed" (top 25) f fd) (j:fq P w K mg base 1 "_law_cell" ["_law_script","_law_k"] 2 bH) (p:fq P w K mg base 1 "_law_take" ["_law_cell_here","_law_salt","_law_many"] 3 aI) (e:fq P w K mg base 3 "_law_meaning" ["_law_cell_here","_law_layer","_law_many"] 3 eA) (o:fq P w K mg base 2 "_law_chords" ["_law_cell_here","_law_keys_here","_law_first"] 3 gr) (d:mg "range"=QS) (h:mg "tuple"=QS):FnOk P w K mg base dm 4 f fd ["_law_script","_law_at","_law_keys_here"] (nz K 3 eX):=lu (N:=["_law_script","_law_at","_law_keys_here","_law_cell_here","_law_many","_law_layers","_law_layer","_law_cells","_law_chords_here"]) (g:=jA) F (by fail "sc") rfl rfl rfl fun q A a s H E nd b m n l=>Cd (bV (by fail "so")
   (bV (by fail "so")
   (bV (lX (mE a8) ck)
   (bV (yX (jx (aB aq a8)) ck (bV (lX (fM rfl rfl (jx (aB aq a8)) ck fC (gH (aB aq (aB (bj iC (bj iC (bj iC aq aN) (bj yo aq aq)) aq) a8)))) ck)
   (Cf (Gh (ib mQ (aB (fM rfl rfl (i4 aq) ck fC (gH (aB aq (aB aq (aB aq a8))))) a8))))))
   (bV (by fail "so")
   (by fail "so")))))) (ar (by fail "te")
   (ar (by fail "te")
   (ar (cO (i:=5) nd rfl (Or.inl rfl) (lZ aF))
   (ar (sT VF.never rfl (fZ rfl d (aj (pv 4) aF)) (ce (i:=6) nd rfl (Or.inr rfl)) (ar (pZ (i:=7) ["_law_key"] [("_law_script",0),("_law_at",1),("_law_keys_here",2),("_law_layer",6)] nd rfl rfl rfl (fZ rfl d (aj (pv 2) aF)) (fun _ _ _ _=>(ce (i:=0) (show Sw (["_law_key","_law_script","_law_at","_law_keys_here","_law_layer"]:List Str) by left) rfl (Or.inl rfl))) (fun _ _ _ _=>d8) (fun _ _ _ _=>(c9 j b (aj (pv 1) (aj (g9 iE (g9 iE (g9 iE (pv 2) aL) (g9 Cr (pv 3) (pv 4))) (pv 0)) aF)))) ⟨⟨rfl,rfl,Or.inl rfl⟩,⟨⟨rfl,rfl,Or.inl rfl⟩,⟨⟨rfl,rfl,Or.inl rfl⟩,⟨⟨rfl,rfl,Or.inl rfl⟩,trivial⟩⟩⟩⟩ rfl)
   (aO (iB (A7 Uk Ub Uc jr (pv 5) (aj (jo gq rfl h qC (aj (fu ["_law_one"] [("_law_layer",6),("_law_many",4)] rfl (fJ (pv 7)) (fun _ _ _ _=>(ce (i:=0) (show Sw (["_law_one","_law_layer","_law_many"]:List Str) by left) rfl (Or.inl rfl))) (fun _ _ _ _=>d8) (fun _ _ _ _=>(c9 e b (aj (pv 0) (aj (pv 1) (aj (pv 2) aF))))) ⟨⟨rfl,rfl,Or.inl rfl⟩,⟨⟨rfl,rfl,Or.inl rfl⟩,trivial⟩⟩ rfl) aF)) aF))))))
   (ar (by fail "te")
   (aO (by fail "te")))))))
theorem wD (F:Ut K "_law_keys" "_law_keys" (top 26) f fd) (d:fq P w K mg base 1 "_law_cell" ["_law_script","_law_k"] 2 bH) (e:fq P w K mg base 1 "_law_take" ["_law_cell_here","_law_salt","_law_many"] 3 aI):FnOk P w K mg base dm 2 f fd ["_law_script"] (nz K 1 iw):=lu (N:=["_law_script"]) (g:=pp) F (by fail "sc") rfl rfl rfl fun l A a s H E nd b i j h=>Cd (io (bj bN (mE (aB aN (aB aN (aB aN (aB aN a8))))) (gH (aB (gH (aB aq (aB aN a8))) (aB aN (aB aN a8)))))) (aO (cD (bM bh (lZ (aj aL (aj aL (aj aL (aj aL aF))))) (c9 e b (aj (c9 d b (aj (pv 0) (aj aL aF))) (aj aL (aj aL aF)))) (fun _ _=>rfl))))
theorem xI (F:Ut K "_law_put" "_law_put" (top 28) f fd):FnOk P w K mg base dm 1 f fd ["_law_row","_law_at","_law_thing"] (nz K 3 dG):=lu (N:=["_law_row","_law_at","_law_thing"]) (g:=sZ) F (by fail "sc") rfl rfl rfl fun i A a s H E nd e d h b=>Cd (io (bj mX (bj mX (FD nO aq qX (sI aq)) (gD (aB aq a8))) (FD nO aq (sI (bj mX aq aN)) qX))) (aO (cD (g9 qI (g9 qI (rO vV (pv 0) vx (vM (pv 1))) (dX (aj (pv 2) aF))) (rO vV (pv 0) (vM (g9 qI (pv 1) aL)) vx))))
theorem nF (F:Ut K "_law_other_bed" "_law_other_bed" (top 29) f fd) (l:fq P w K mg base 1 "_law_cell" ["_law_script","_law_k"] 2 bH) (m:fq P w K mg base 1 "_law_take" ["_law_cell_here","_law_salt","_law_many"] 3 aI) (i:fq P w K mg base 1 "_law_put" ["_law_row","_law_at","_law_thing"] 3 dG) (j:fq P w K mg base 4 "_law_bed" ["_law_script","_law_at","_law_keys_here"] 3 eX) (o:mg "len"=QS):FnOk P w K mg base dm 5 f fd ["_law_script","_law_bed_here"] (nz K 2 eF):=lu (N:=["_law_script","_law_bed_here","_law_keys_here","_law_layers","_law_chords_here","_law_wait","_law_cell_here","_law_way","_law_layer","_law_key","_law_meaning_here","_law_letter_here"]) (g:=eD) F (by fail "sc") rfl rfl rfl fun n A a s H E nd e d h b=>Cd (bV (by fail "so")
   (bV (by fail "so")
   (bV (by fail "so")
   (bV (by fail "so")
   (bV (by fail "so")
   (bV (by fail "so")
   (bV (by fail "so")
   (bV (by fail "so")
   (bV (by fail "so")
   (bV (by fail "so")
   (bV (by fail "so")
   (bV (by fail "so")
   (io aq))))))))))))) (ar (by fail "te")
   (ar (by fail "te")
   (ar (by fail "te")
   (ar (by fail "te")
   (ar (by fail "te")
   (ar (by fail "te")
   (ar (by fail "te")
   (ar (by fail "te")
   (ar (by fail "te")
   (ar (by fail "te")
   (ar (by fail "te")
   (ar (by fail "te")
   (aO (cD (pv 1)))))))))))))))
theorem si (F:Ut K "_law_events" "_law_events" (top 27) f fd) (a:mg "range"=QS):FnOk P w K mg base dm 1 f fd ["_law_bed_here"] (nz K 1 de):=lu (N:=["_law_bed_here","_law_found","_law_word","_law_key"]) (g:=gj) F (by fail "sc") rfl rfl rfl (by delta gj;fail "os")
theorem vn (F:Ut K "events_of" "events_of" (top 15) f fd) (b:mg "range"=QS):FnOk P w K mg base dm 1 f fd ["bed"] (nz K 1 gy):=lu (N:=["bed","downs","ups"]) (g:=ky) F (by fail "sc") rfl rfl rfl fun l A a s H E nd h e j d=>Cd (bV (lX (fM rfl rfl (jx (aB (bj bN aq aN) a8)) ck fC (gD (aB iL (aB aq a8)))) ck)
   (bV (lX (fM rfl rfl (jx (aB (bj bN aq aN) a8)) ck fC (gD (aB iL (aB aq a8)))) ck)
   (by fail "so"))) (ar (pZ (i:=1) ["key"] [] nd rfl rfl rfl (fZ rfl b (aj (bM bh (pv 0) aL (fun _ _=>rfl)) aF)) (fun _ _ _ _=>(ce (i:=0) (show Sw (["key"]:List Str) by left) rfl (Or.inl rfl))) (fun _ _ _ _=>d8) (fun _ _ _ _=>(dX (aj iK (aj (pv 0) aF)))) trivial rfl)
   (ar (pZ (i:=2) ["key"] [] nd rfl rfl rfl (fZ rfl b (aj (bM bh (pv 0) aL (fun _ _=>rfl)) aF)) (fun _ _ _ _=>(ce (i:=0) (show Sw (["key"]:List Str) by left) rfl (Or.inl rfl))) (fun _ _ _ _=>d8) (fun _ _ _ _=>(dX (aj iK (aj (pv 0) aF)))) trivial rfl)
   (aO (by fail "te"))))
theorem r9 (F:Ut K "_law_unlike" "_law_unlike" (top 31) f fd) (j:fq P w K mg base 1 "_law_events" ["_law_bed_here"] 1 de) (i:fq P w K mg base 8 "step" ["bed","standing","event"] 3 dD):FnOk P w K mg base dm 9 f fd ["_law_one","_law_other","_law_pair"] (nz K 3 dR):=lu (N:=["_law_one","_law_other","_law_pair","_law_event"]) (g:=iO) F (by fail "sc") rfl rfl rfl fun l A a s H E nd e d h b=>Cd (bV (by fail "so")
   (io Ay)) (ar (by fail "te")
   (aO (cD Av)))
end
end K52
namespace K52
open PySem L2 L3 L10 STP
section
variable {P:Rt} {w:RM} {K:QR} {mg:Str->Option QT} {base:Heap} {f:QX} {fd:Sj}
theorem oB (F:Ut K "__init__" "Hand.__init__" (bf (top 10) 0) f fd) (d:gC K "Hand" ["bed","acts","waiting","once","sent"]) (b:mg "dict"=QS):FnOk P w K mg base dm 3 f fd ["self","bed","standing"] (d4 K 3 dM):=j9 (N:=["self","bed","standing"]) (g:=jV) F (by fail "sc") rfl rfl rfl fun l A a s H E nd i h j e=>Dr (aR (lm d (.head _) aU (ao aq))
   (aR (by fail "so")
   (aR (by fail "so")
   (aR (by fail "so")
   (by fail "so"))))) (ar (oG (pv 0) (pv 1) rfl)
   (ar (by fail "te")
   (ar (by fail "te")
   (ar (by fail "te")
   (aO (by fail "te"))))))
theorem rH (F:Ut K "stands" "Hand.stands" (bf (top 10) 1) f fd) (a:gC K "Hand" ["bed","acts","waiting","once","sent"]) (h:mg "tuple"=QS) (e:mg "sorted"=QS):FnOk P w K mg base dm 3 f fd ["self"] (d4 K 1 bK):=j9 (N:=["self"]) (g:=lM) F (by fail "sc") rfl rfl rfl fun n A b s H E nd m l d j=>Dr (eC (jE (aC (kh mQ (aC (mZ rfl rfl (nA (wW (cz a (.tail _ (.head _)) aU))) bz sS (jE (aC (ao aq) (aC (x9 (cz a (.tail _ (.head _)) aU) (ao aq)) bF)))) bF)) (aC (cz a (.tail _ (.tail _ (.head _))) aU) (aC (cz a (.tail _ (.tail _ (.tail _ (.head _)))) aU) bF))))) (aO (cD (dX (aj (jo gq rfl h qC (aj (fu ["key"] [("self",0)] rfl (fJ (b7 (se rfl) rfl e wN (aj (dz (pv 0) rfl) aF))) (fun _ _ _ _=>(ce (i:=0) (show Sw (["key","self"]:List Str) by left) rfl (Or.inl rfl))) (fun _ _ _ _=>d8) (fun _ _ _ _=>(dX (aj (pv 0) (aj (Bm d (dz (pv 1) rfl) (pv 0) (fun _ _=>rfl)) aF)))) ⟨⟨rfl,rfl,Or.inl rfl⟩,trivial⟩ rfl) aF)) (aj (dz (pv 0) rfl) (aj (dz (pv 0) rfl) aF))))))
theorem my (F:Ut K "is_waiting" "Hand.is_waiting" (bf (top 10) 2) f fd) (b:gC K "Hand" ["bed","acts","waiting","once","sent"]):FnOk P w K mg base dm 3 f fd ["self","key"] (d4 K 2 cb):=j9 (N:=["self","key"]) (g:=iJ) F (by fail "sc") rfl rfl rfl fun j A a s H E nd h e i d=>Dr (eC (Bl (fD Bh (cz b (.tail _ (.tail _ (.head _))) aU) (ao ic)) (fD v3 (ao aq) (fX (cz b (.tail _ (.tail _ (.head _))) aU) (ao aN))))) (aO (cD (vL (gX BP (dz (pv 0) rfl) gc (c7 _)) (vS (gX (uN d) (pv 1) (bM bh (dz (pv 0) rfl) aL (fun _ _=>rfl)) (by with_unfolding_all rfl))))))
theorem pL (F:Ut K "has_act" "Hand.has_act" (bf (top 10) 13) f fd) (e:gC K "Hand" ["bed","acts","waiting","once","sent"]) (d:mg "list"=QS):FnOk P w K mg base dm 3 f fd ["self","act"] (d4 K 2 bS):=j9 (N:=["self","act"]) (g:=kJ) F (by fail "sc") rfl rfl rfl fun l A a s H E nd i h j b=>Dr (eC (fD v3 (ao aq) (wQ (cz e (.tail _ (.head _)) aU)))) (aO (cD (gX (uN b) (pv 1) (jo (ro rfl) rfl d zA (aj (Hi Vw Vm Yd ub (dz (pv 0) rfl)) aF)) (by with_unfolding_all rfl))))
theorem wg (F:Ut K "come" "Hand.come" (bf (top 10) 11) f fd) (b:gC K "Hand" ["bed","acts","waiting","once","sent"]) (a:b9 P w K mg base dm 3 "Hand" "has_act" ["self","act"] (d4 K 2 bS)):FnOk P w K mg base dm 4 f fd ["self","key","act"] (d4 K 3 bB):=j9 (N:=["self","key","act"]) (g:=ki) F (by fail "sc") rfl rfl rfl (by delta ki;fail "ok")
theorem yH (F:Ut K "go" "Hand.go" (bf (top 10) 12) f fd) (b:gC K "Hand" ["bed","acts","waiting","once","sent"]) (a:b9 P w K mg base dm 3 "Hand" "has_act" ["self","act"] (d4 K 2 bS)):FnOk P w K mg base dm 4 f fd ["self","key"] (d4 K 2 jj):=j9 (N:=["self","key","act"]) (g:=om) F (by fail "sc") rfl rfl rfl (by delta om;fail "ok")
theorem rF (F:Ut K "decide" "Hand.decide" (bf (top 10) 10) f fd) (e:gC K "Hand" ["bed","acts","waiting","once","sent"]) (p:b9 P w K mg base dm 4 "Hand" "come" ["self","key","act"] (d4 K 3 bB)) (l:fq P w K mg base 1 "chord_acts" ["bed","keys"] 2 fF) (d:mg "zip"=QS) {b:QX} (o:mg "CHORD"=lD (.ref b)) (n:∀O H,L3.DV O K H (.ref b) (.tuple [(.str "chord")])):FnOk P w K mg base dm 5 f fd ["self"] (d4 K 1 bZ):=j9 (N:=["self","keys","what","acts","key","act"]) (g:=lK) F (by fail "sc") rfl rfl rfl fun q A a s H E nd j i m h=>Dr (aR (by fail "so")
   (aR (by fail "so")
   (aR (lm e (.tail _ (.tail _ (.head _))) aU (ao ic))
   (aR (by fail "so")
   (by fail "so"))))) (ar (by fail "te")
   (ar (by fail "te")
   (ar (oG (pv 0) gc rfl)
   (ar (by fail "te")
   (aO (by fail "te"))))))
theorem lC (F:Ut K "makes_chord" "Hand.makes_chord" (bf (top 10) 4) f fd) (j:gC K "Hand" ["bed","acts","waiting","once","sent"]) (i:b9 P w K mg base dm 3 "Hand" "stands" ["self"] (d4 K 1 bK)) (b:fq P w K mg base 1 "layer_of" ["standing"] 1 dH) (h:fq P w K mg base 1 "chords_over" ["bed","keys"] 2 bL) {a:QX} (e:mg "CHORD"=lD (.ref a)) (d:∀O H,L3.DV O K H (.ref a) (.tuple [(.str "chord")])):FnOk P w K mg base dm 4 f fd ["self","key"] (d4 K 2 dJ):=j9 (N:=["self","key"]) (g:=eW) F (by fail "sc") rfl rfl rfl (by delta eW;fail "ok")
theorem kF (F:Ut K "put_to_chord" "Hand.put_to_chord" (bf (top 10) 5) f fd) (h:gC K "Hand" ["bed","acts","waiting","once","sent"]) (m:b9 P w K mg base dm 5 "Hand" "decide" ["self"] (d4 K 1 bZ)) (l:fq P w K mg base 1 "chords_over" ["bed","keys"] 2 bL) (e:mg "len"=QS) {d:QX} (q:mg "CHORD"=lD (.ref d)) (p:∀O H,L3.DV O K H (.ref d) (.tuple [(.str "chord")])):FnOk P w K mg base dm 6 f fd ["self","key"] (d4 K 2 dg):=j9 (N:=["self","key","keys"]) (g:=gO) F (by fail "sc") rfl rfl rfl fun r A a s H E nd b j o n=>Dr (aR (by fail "so")
   (aR (by fail "so")
   (iV (fL (fD kH (mZ rfl rfl (nA (BG (aC (cz h (.head _) aU) (aC (ao aq) bF)))) bz sS (ao (ib eV (aB (bj bN aq aN) a8)))) (ao (mE (aB (ib eV (aB aq a8)) a8))))) (ji (uO h aU bF)) eS))) (ar (by fail "te")
   (ar (by fail "te")
   (aO (lO (cS (kG j) (fu ["chord"] [] rfl (fJ (c9 l b (aj (dz (pv 0) rfl) (aj (pv 2) aF)))) (fun _ _ _ _=>(ce (i:=0) (show Sw (["chord"]:List Str) by left) rfl (Or.inl rfl))) (fun _ _ _ _=>d8) (fun _ _ _ _=>(b7 cG rfl e ie (aj (bM bh (pv 0) aL (fun _ _=>rfl)) aF))) trivial rfl) (lZ (aj (b7 cG rfl e ie (aj (pv 2) aF)) aF)) (c7 _)) (aO (iB (DT m BW b (pv 0)))) gl))))
theorem tT (F:Ut K "begin" "Hand.begin" (bf (top 10) 6) f fd) (p:gC K "Hand" ["bed","acts","waiting","once","sent"]) (n:b9 P w K mg base dm 3 "Hand" "stands" ["self"] (d4 K 1 bK)) (o:b9 P w K mg base dm 4 "Hand" "come" ["self","key","act"] (d4 K 3 bB)) (i:fq P w K mg base 1 "layer_of" ["standing"] 1 dH) (h:fq P w K mg base 1 "looked_up" ["bed","layer","key"] 3 iA) (m:fq P w K mg base 1 "chords_over" ["bed","keys"] 2 bL) {b:QX} (l:mg "CHORD"=lD (.ref b)) (j:∀O H,L3.DV O K H (.ref b) (.tuple [(.str "chord")])) {a:QX} (e:mg "NONE"=lD (.ref a)) (d:∀O H,L3.DV O K H (.ref a) (.tuple [(.str "none")])):FnOk P w K mg base dm 5 f fd ["self","key"] (d4 K 2 fE):=j9 (N:=["self","key","layer","meaning","word"]) (g:=jL) F (by fail "sc") rfl rfl rfl (by delta jL;fail "ok")
theorem tG (F:Ut K "press" "Hand.press" (bf (top 10) 3) f fd) (i:gC K "Hand" ["bed","acts","waiting","once","sent"]) (e:b9 P w K mg base dm 3 "Hand" "is_waiting" ["self","key"] (d4 K 2 cb)) (b:b9 P w K mg base dm 4 "Hand" "makes_chord" ["self","key"] (d4 K 2 dJ)) (d:b9 P w K mg base dm 6 "Hand" "put_to_chord" ["self","key"] (d4 K 2 dg)) (h:b9 P w K mg base dm 5 "Hand" "decide" ["self"] (d4 K 1 bZ)) (a:b9 P w K mg base dm 5 "Hand" "begin" ["self","key"] (d4 K 2 fE)):FnOk P w K mg base dm 7 f fd ["self","key"] (d4 K 2 g7):=j9 (N:=["self","key"]) (g:=jC) F (by fail "sc") rfl rfl rfl (by delta jC;fail "ok")
theorem sD (F:Ut K "settle" "Hand.settle" (bf (top 10) 8) f fd) (i:gC K "Hand" ["bed","acts","waiting","once","sent"]) (h:b9 P w K mg base dm 5 "Hand" "decide" ["self"] (d4 K 1 bZ)) (e:b9 P w K mg base dm 4 "Hand" "come" ["self","key","act"] (d4 K 3 bB)) {a:QX} (d:mg "CHORD"=lD (.ref a)) (b:∀O H,L3.DV O K H (.ref a) (.tuple [(.str "chord")])):FnOk P w K mg base dm 6 f fd ["self","key"] (d4 K 2 gh):=j9 (N:=["self","key","what"]) (g:=iZ) F (by fail "sc") rfl rfl rfl (by delta iZ;fail "ok")
theorem vJ (F:Ut K "lift" "Hand.lift" (bf (top 10) 7) f fd) (e:gC K "Hand" ["bed","acts","waiting","once","sent"]) (d:b9 P w K mg base dm 3 "Hand" "is_waiting" ["self","key"] (d4 K 2 cb)) (b:b9 P w K mg base dm 6 "Hand" "settle" ["self","key"] (d4 K 2 gh)) (a:b9 P w K mg base dm 4 "Hand" "go" ["self","key"] (d4 K 2 jj)):FnOk P w K mg base dm 7 f fd ["self","key"] (d4 K 2 iG):=j9 (N:=["self","key"]) (g:=kj) F (by fail "sc") rfl rfl rfl (by delta kj;fail "ok")
theorem pM (F:Ut K "wait_on" "Hand.wait_on" (bf (top 10) 9) f fd) (b:gC K "Hand" ["bed","acts","waiting","once","sent"]) (a:b9 P w K mg base dm 5 "Hand" "decide" ["self"] (d4 K 1 bZ)):FnOk P w K mg base dm 6 f fd ["self"] (d4 K 1 fK):=j9 (N:=["self","age"]) (g:=ig) F (by fail "sc") rfl rfl rfl (by delta ig;fail "ok")
theorem A2 (F:Ut K "step" "step" (top 9) f fd) (i:gC K "Hand" ["bed","acts","waiting","once","sent"]) (a:xg P w K mg base dm 3 "Hand" ["self","bed","standing"] (d4 K 3 dM)) (e:b9 P w K mg base dm 6 "Hand" "wait_on" ["self"] (d4 K 1 fK)) (b:b9 P w K mg base dm 7 "Hand" "press" ["self","key"] (d4 K 2 g7)) (d:b9 P w K mg base dm 7 "Hand" "lift" ["self","key"] (d4 K 2 iG)) (h:b9 P w K mg base dm 3 "Hand" "stands" ["self"] (d4 K 1 bK)):FnOk P w K mg base dm 8 f fd ["bed","standing","event"] (d4 K 3 STP.dD):=j9 (N:=["bed","standing","event","hand"]) (g:=zk) F (by fail "sc") rfl rfl rfl (by delta zk;fail "ok")
theorem pJ (F:Ut K "enter" "Places.enter" (bf (top 16) 1) f fd) (a:gC K "Places" ["most","found","numbers"]) {d i b:QX} {j:Sj} {t:Obj} (o:L9.XC K d i b) (v:K.lookup b=lD t) (r:T4 K (.ref b)=QW) (q:FnOk P w K mg base dm 1 b j ["self","most"] (L9.wb d "most")) (u:Binds K j ["self","most"] []) (n:Rp K Rk "TooMany"=lD (lD (.ref d))) (p:mg "TooMany"=lD (.ref d)) (l:mg "len"=QS):FnOk P w K mg base (L4.mF P w) 3 f fd ["self","place","back","event"] (d4 K 4 b5):=Kl (N:=["self","place","back","event"]) (g:=dw) F (by fail "sc") rfl rfl rfl fun B A e s H E nd m h z y=>Dr (aR (iV (Fr (wL (ao aq) (cz a (.tail _ (.tail _ (.head _))) aU))) (aR (iV (fL (fD Ha (kh eV (aC (cz a (.tail _ (.head _)) aU) bF)) (cz a (.head _) aU))) (zJ n (cz a (.head _) aU)) eS)
   (aR (ue (cz a (.tail _ (.tail _ (.head _))) aU) (ao aq) (kh eV (aC (cz a (.tail _ (.head _)) aU) bF)))
   (ji (uU (cz a (.tail _ (.head _)) aU) (ao (gD (aB aq (aB aq (aB aq a8))))))))) eS)
   (eC (oy (cz a (.tail _ (.tail _ (.head _))) aU) (ao aq)))) (ar (lO (zC (LD.Y1 h (pv 1) (dz (pv 0) rfl)) (by with_unfolding_all rfl)) (ar (lO (cS Kp (b7 cG rfl l ie (aj (dz (pv 0) rfl) aF)) (dz (pv 0) rfl) (c7 _)) (aO (L9.Dt o v r q u (m.mono (by decide)) rfl p (aj (dz (pv 0) rfl) aF))) gl)
   (ar (LD.YW h (dz (pv 0) rfl) (pv 1) (b7 cG rfl l ie (aj (dz (pv 0) rfl) aF)) rfl)
   (aO (iB (A7 Uk Ub Uc jr (dz (pv 0) rfl) (aj (dX (aj (pv 1) (aj (pv 2) (aj (pv 3) aF)))) aF)))))) gl)
   (aO (cD (LD.X1 h (dz (pv 0) rfl) (pv 1) (fun _ _=>rfl)))))
theorem mv (F:Ut K "__init__" "Places.__init__" (bf (top 16) 0) f fd) (a:gC K "Places" ["most","found","numbers"]) (e:b9 P w K mg base (L4.mF P w) 3 "Places" "enter" ["self","place","back","event"] (d4 K 4 b5)):FnOk P w K mg base (L4.mF P w) 4 f fd ["self","first","most"] (d4 K 3 cU):=Kl (N:=["self","first","most"]) (g:=cT) F (by fail "sc") rfl rfl rfl fun l A b s H E nd d i j h=>Dr (aR (lm a (.head _) aU (ao aq))
   (aR (lm a (.tail _ (.head _)) aU (ao (mE a8)))
   (aR (lm a (.tail _ (.tail _ (.head _))) aU Cv)
   (ji (Hn a aU (aC (ao aq) (aC (ao ic) (aC (ao ic) bF)))))))) (ar (oG (pv 0) (pv 2) rfl)
   (ar (oG (pv 0) (lZ aF) rfl)
   (ar (oG (pv 0) LD.aa6 rfl)
   (aO (iB (Az e L4.sX d (pv 0) (aj (pv 1) (aj gc (aj gc aF)))))))))
theorem n9 (F:Ut K "way_to" "Places.way_to" (bf (top 16) 2) f fd) (l:gC K "Places" ["most","found","numbers"]) (d:mg "list"=QS) (b:mg "reversed"=QS):FnOk P w K mg base dm 3 f fd ["self","number"] (d4 K 2 cQ):=j9 (N:=["self","number","row","place"]) (g:=gG) F (by fail "sc") rfl rfl rfl fun m A a s H E nd i h j e=>Dr (aR (by fail "so")
   (aR (by fail "so")
   (aR (by fail "so")
   (eC (D3 aU))))) (ar (by fail "te")
   (ar (by fail "te")
   (ar (by fail "te")
   (aO (cD (zn rfl rfl d rfl b (pv 2)))))))
theorem JP {t:QX} {e:Array QT} (F:Yy K "same" "same" (top 18) f fd t e) (b:gC K "Places" ["most","found","numbers"]) (o:xg P w K mg base (L4.mF P w) 4 "Places" ["self","first","most"] (d4 K 3 cU)) (q:b9 P w K mg base dm 3 "Places" "way_to" ["self","number"] (d4 K 2 cQ)) (r:b9 P w K mg base (L4.mF P w) 3 "Places" "enter" ["self","place","back","event"] (d4 K 4 b5)) (n:Jb P w K mg base 8 "step" ["bed","standing","event"] 3 STP.dD) (p:fq P w K mg base 1 "events_of" ["bed"] 1 gy) (u:mg "len"=QS) {m:QX} (j:mg "AT_REST"=lD (.ref m)) (l:∀O H,L3.DV O K H (.ref m) (.tuple [(.tuple []),.none,.none])):FnOk P w K mg base (L4.mF P w) 9 f fd ["one","other","most"] (d4 K 3 ip):=LM (N:=["one","other","most","events","pairs","number","standings","event","first","second"]) (g:=z5) F (by fail "sc") rfl rfl rfl fun B A d s H E nd a h z y=>Dr (aR (iV (i8 (cZ (bj rQ (bj bN aq aN) (bj bN aq aN)))) uw eS)
   (aR (cJ (iy (ao (gH (aB aq a8)))) bz)
   (aR (cJ (NB b (aC (ao (gD (aB (yB l) (aB (yB l) a8)))) (aC (ao aq) bF))) bz)
   (aR (cJ (ao aN) bz)
   (aR (oQ (fL (fD uV (ao aq) (kh eV (aC (cz b (.tail _ (.head _)) aU) bF)))) (aR (cJ (fX (fX (cz b (.tail _ (.head _)) aU) (ao aq)) (ao aN)) bz)
   (aR (u6 (rE (i4 aq)) bz (aR (cJ (iy (ju (aC (ao aq) (aC (ao (bj bN aq aN)) (aC (ao aq) bF))))) bz)
   (aR (cJ (iy (ju (aC (ao aq) (aC (ao (bj bN aq aN)) (aC (ao aq) bF))))) bz)
   (aR (iV (i8 (cZ (bj rQ (bj bN aq aN) (bj bN aq aN)))) (eC (jE (aC (ao iL) (aC (fD iC (uO b aU (aC (ao aq) bF)) (ao (mE (aB aq a8)))) bF)))) eS)
   (ji (Hn b aU (aC (ao (gD (aB (bj bN aq aN) (aB (bj bN aq aN) a8)))) (aC (ao aq) (aC (ao aq) bF)))))))))
   (Ju Ds (ao aN)))))
   (eC (jE (aC (ao iL) (aC (mZ rfl rfl (nA (cz b (.tail _ (.head _)) aU)) bz sS (ao (bj bN aq aN))) bF))))))))) (ar (lO (cS (sO h) (bM bh (pv 0) aL (fun _ _=>rfl)) (bM bh (pv 1) aL (fun _ _=>rfl)) (c7 _)) (aO xZ) gl)
   (ar (cO (i:=3) nd rfl (Or.inl rfl) (c9 p a (aj (pv 0) aF)))
   (ar (cO (i:=4) nd rfl (Or.inl rfl) (K6 o L4.sX a (aj (dX (aj (wu (v:= .ref _) rfl j rfl) (aj (wu (v:= .ref _) rfl j rfl) aF))) (aj (pv 2) aF))))
   (ar (cO (i:=5) nd rfl (Or.inl rfl) aL)
   (ar (rz VF.leaving (cS Cl (pv 5) (b7 cG rfl u ie (aj (dz (pv 4) rfl) aF)) (c7 _)) (ar (cO (i:=6) nd rfl (Or.inl rfl) (bM bh (bM bh (dz (pv 4) rfl) (pv 5) (fun _ _=>rfl)) aL (fun _ _=>rfl)))
   (ar (sT VF.leaving rfl (fJ (pv 3)) (ce (i:=7) nd rfl (Or.inl rfl)) (ar (cO (i:=8) nd rfl (Or.inl rfl) (c9 n a (aj (pv 0) (aj (bM bh (pv 6) aL (fun _ _=>rfl)) (aj (pv 7) aF)))))
   (ar (cO (i:=9) nd rfl (Or.inl rfl) (c9 n a (aj (pv 1) (aj (bM bh (pv 6) aL (fun _ _=>rfl)) (aj (pv 7) aF)))))
   (ar (lO (cS (sO h) (bM bh (pv 8) aL (fun _ _=>rfl)) (bM bh (pv 9) aL (fun _ _=>rfl)) (c7 _)) (aO (cD (dX (aj iK (aj (g9 iE (Az q BW a (pv 4) (aj (pv 5) aF)) (lZ (aj (pv 7) aF))) aF))))) gl)
   (aO (iB (Az r L4.sX a (pv 4) (aj (dX (aj (bM bh (pv 8) aL (fun _ _=>rfl)) (aj (bM bh (pv 9) aL (fun _ _=>rfl)) aF))) (aj (pv 5) (aj (pv 7) aF))))))))))
   (aO (Li (i:=5) nd rfl (Or.inl rfl) aL Iu)))))
   (aO (cD (dX (aj iK (aj (fu ["pair"] [] rfl (fJ (dz (pv 4) rfl)) (fun _ _ _ _=>(ce (i:=0) (show Sw (["pair"]:List Str) by left) rfl (Or.inl rfl))) (fun _ _ _ _=>d8) (fun _ _ _ _=>(bM bh (pv 0) aL (fun _ _=>rfl))) trivial rfl) aF))))))))))
theorem tI (F:Ut K "_law_pairs" "_law_pairs" (top 30) f fd) (e:Jb P w K mg base 8 "step" ["bed","standing","event"] 3 STP.dD) (j:fq P w K mg base 1 "_law_events" ["_law_bed_here"] 1 de) (h:mg "len"=QS):FnOk P w K mg base dm 9 f fd ["_law_one","_law_other","_law_cap"] (d4 K 3 dI):=j9 (N:=["_law_one","_law_other","_law_cap","_law_found","_law_known","_law_at","_law_event","_law_behind"]) (g:=jw) F (by fail "sc") rfl rfl rfl fun n A b s H E nd d a m l=>Dr (aR (cJ (ao (mE (aB (gD (aB (gD (aB (gD a8) (aB ic (aB ic a8)))) (aB (gD (aB (gD a8) (aB ic (aB ic a8)))) a8))) a8))) bz)
   (aR (cJ (IW (fX aU (ao aN)) (ao aN)) bz)
   (aR (cJ (ao aN) bz)
   (aR (oQ (Bs (fL (fD uV (ao aq) (kh eV (aC aU bF)))) (fL (fD D5 (kh eV (aC aU bF)) (ao aq)))) (aR (u6 (rE (i4 (gH (aB aq a8)))) bz (aR (cJ (iy (jE (aC (fX (ju (aC (ao aq) (aC (fX (fX aU (ao aq)) (ao aN)) (aC (ao aq) bF)))) (ao aN)) (aC (fX (ju (aC (ao aq) (aC (fX (fX aU (ao aq)) (ao aN)) (aC (ao aq) bF)))) (ao aN)) bF)))) bz)
   (iV (Fr (wL (ao aq) aU)) (aR (ue aU (ao aq) (fD iC (oy aU (fX aU (ao aq))) (ao aN)))
   (ji (uU aU (ao aq)))) eS)))
   (cJ (ao (bj iC aq aN)) bz)))
   (eC (jE (aC aU (aC aU bF)))))))) (ar (cO (i:=3) nd rfl (Or.inl rfl) (lZ (aj (dX (aj (dX (aj (dX aF) (aj gc (aj gc aF)))) (aj (dX (aj (dX aF) (aj gc (aj gc aF)))) aF))) aF)))
   (ar (cO (i:=4) nd rfl (Or.inl rfl) (LD.acz a (bM bh (pv 3) aL (fun _ _=>rfl)) aL))
   (ar (cO (i:=5) nd rfl (Or.inl rfl) aL)
   (ar (rz VF.never (PW.pt (yZ (cS Cl (pv 5) (b7 cG rfl h ie (aj (pv 3) aF)) (c7 _)) (vY (cS KP (b7 cG rfl h ie (aj (pv 3) aF)) (pv 2) (c7 _))))) (ar (sT VF.never rfl (fJ (c9 j d (aj (pv 0) aF))) (ce (i:=6) nd rfl (Or.inl rfl)) (ar (cO (i:=7) nd rfl (Or.inl rfl) (dX (aj (bM bh (c9 e d (aj (pv 0) (aj (bM bh (bM bh (pv 3) (pv 5) (fun _ _=>rfl)) aL (fun _ _=>rfl)) (aj (pv 6) aF)))) aL (fun _ _=>rfl)) (aj (bM bh (c9 e d (aj (pv 1) (aj (bM bh (bM bh (pv 3) (pv 5) (fun _ _=>rfl)) aL (fun _ _=>rfl)) (aj (pv 6) aF)))) aL (fun _ _=>rfl)) aF))))
   (aO (lO (zC (LD.Y1 a (pv 7) (pv 4)) (by with_unfolding_all rfl)) (ar (LD.YW a (pv 4) (pv 7) (g9 iE (LD.X1 a (pv 4) (bM bh (pv 3) (pv 5) (fun _ _=>rfl)) (fun _ _=>rfl)) aL) rfl)
   (aO (iB (A7 Uk Ub Uc jr (pv 3) (aj (pv 7) aF))))) gl))))
   (aO (cO (i:=5) nd rfl (Or.inl rfl) (g9 iE (pv 5) aL)))))
   (aO (cD (dX (aj (pv 3) (aj (pv 4) aF)))))))))
theorem NH (F:Ut K "law" "law" (top 33) f fd) (j:Jb P w K mg base 11 "_law_same" ["_law_one","_law_other"] 2 cx) (l:Jb P w K mg base 9 "_law_pairs" ["_law_one","_law_other","_law_cap"] 3 dI) (n:fq P w K mg base 2 "_law_keys" ["_law_script"] 1 iw) (p:fq P w K mg base 4 "_law_bed" ["_law_script","_law_at","_law_keys_here"] 3 eX) (o:fq P w K mg base 5 "_law_other_bed" ["_law_script","_law_bed_here"] 2 eF) (m:fq P w K mg base 9 "_law_unlike" ["_law_one","_law_other","_law_pair"] 3 dR) (d:mg "len"=QS) (h:mg "any"=QS):FnOk P w K mg base dm 12 f fd ["_law_script"] (d4 K 1 F_law):=j9 (N:=["_law_script","_law_one","_law_other","_law_found","_law_about","_law_some","_law_known","_law_near"]) (g:=DH) F (by fail "sc") rfl rfl rfl fun t A e s H E nd a b r q=>Dr (aR (cJ (ao (gH (aB aq (aB aN (aB (gH (aB aq a8)) a8))))) bz)
   (aR (cJ (ao (gH (aB aq (aB aq a8)))) bz)
   (aR (cJ (iy (je (aC (ao aq) (aC (ao aq) bF)))) bz)
   (aR (cJ (iy (je (aC (ao aq) (aC (ao aq) bF)))) bz)
   (aR (iV (i8 (yW (cZ (bj uL aq ic)) (cZ (bj uL aq ic)))) (eC (fD Ai (kh eV (aC (fX (je (aC (ao aq) (aC (ao aq) (aC (ao aN) bF)))) (ao aN)) bF)) (ao aN))) eS)
   (aR (iV (i8 (yW (cZ (bj rQ (bj bN aq aN) (bj bN aq aN))) (Ck (cZ (bj kH (bj bN aq aN) iL)) (cZ (bj rQ (ib eV (aB (bj bN aq aN) a8)) (ib eV (aB (bj bN aq aN) a8))))))) (eC (ao Ay)) eS)
   (aR (iV (i8 (cZ (bj kH (bj bN aq aN) iL))) (eC (ao Ay)) eS)
   (aR (cJ (je (aC (ao aq) (aC (ao aq) (aC (ao aN) bF)))) (A9 (sL bz (sL bz Ci))))
   (aR (cJ (iy (mZ rfl rfl (nA aU) bz (fL (fD uV (oy aU (ao aq)) (ao (bj Ct (ib eV (aB (bj bN aq aN) a8)) aN)))) (ao aq))) bz)
   (eC (ao (yV (bj kH (ib eV (aB (bj bN aq aN) a8)) (ib eV (aB (bj bN aq aN) a8))) (GB (ib F9 (aB (fM rfl rfl (i4 aq) ck fC (gH (aB aq (aB aq (aB aq a8))))) a8))))))))))))))) (ar (cO (i:=1) nd rfl (Or.inr rfl) (c9 p a (aj (pv 0) (aj aL (aj (c9 n a (aj (pv 0) aF)) aF)))))
   (ar (cO (i:=2) nd rfl (Or.inr rfl) (c9 o a (aj (pv 0) (aj (pv 1) aF))))
   (ar (cO (i:=3) nd rfl (Or.inr rfl) (c9 j a (aj (pv 1) (aj (pv 2) aF))))
   (ar (cO (i:=4) nd rfl (Or.inl rfl) (c9 j a (aj (pv 2) (aj (pv 1) aF))))
   (ar (lO (PW.pt (FL (cS zN (pv 3) gc (c7 _)) (yN (cS zN (pv 4) gc (c7 _))))) (aO (cD (gX Fk (b7 cG rfl d ie (aj (bM bh (c9 l a (aj (pv 1) (aj (pv 2) (aj aL aF)))) aL (fun _ _=>rfl)) aF)) aL (c7 _)))) gl)
   (ar (lO (PW.pt (FL (cS (sO b) (bM bh (pv 3) aL (fun _ _=>rfl)) (bM bh (pv 4) aL (fun _ _=>rfl)) (c7 _)) (yN (PW.pt (yZ (cS (kG b) (bM bh (pv 3) aL (fun _ _=>rfl)) iK (c7 _)) (vY (cS (sO b) (b7 cG rfl d ie (aj (bM bh (pv 3) aL (fun _ _=>rfl)) aF)) (b7 cG rfl d ie (aj (bM bh (pv 4) aL (fun _ _=>rfl)) aF)) (c7 _)))))))) (aO (cD Av)) gl)
   (ar (lO (cS (kG b) (bM bh (pv 3) aL (fun _ _=>rfl)) iK (c7 _)) (aO (cD Av)) gl)
   (ar (Gs (c9 l a (aj (pv 1) (aj (pv 2) (aj aL aF)))) (z7 rfl (kg (ce (i:=5) nd rfl (Or.inl rfl)) (kg (ce (i:=6) nd rfl (Or.inr rfl)) wB))))
   (ar (pZ (i:=7) ["_law_pair"] [("_law_known",6),("_law_found",3)] nd rfl rfl rfl (fJ (pv 5)) (fun _ _ _ _=>(ce (i:=0) (show Sw (["_law_pair","_law_known","_law_found"]:List Str) by left) rfl (Or.inl rfl))) (fun _ _ _ _=>(nv (cS Cl (LD.X1 b (pv 1) (pv 0) (fun _ _=>rfl)) (g9 GI (b7 cG rfl d ie (aj (bM bh (pv 2) aL (fun _ _=>rfl)) aF)) aL) (c7 _)))) (fun _ _ _ _=>(pv 0)) ⟨⟨rfl,rfl,Or.inl rfl⟩,⟨⟨rfl,rfl,Or.inl rfl⟩,trivial⟩⟩ rfl)
   (aO (cD (vL (gX (kG b) (b7 cG rfl d ie (aj (bM bh (pv 3) aL (fun _ _=>rfl)) aF)) (b7 cG rfl d ie (aj (bM bh (pv 4) aL (fun _ _=>rfl)) aF)) (c7 _)) (vS (Ec (b7 (yl rfl) rfl h KY (aj (fu ["_law_pair"] [("_law_one",1),("_law_other",2)] rfl (fJ (pv 7)) (fun _ _ _ _=>(ce (i:=0) (show Sw (["_law_pair","_law_one","_law_other"]:List Str) by left) rfl (Or.inl rfl))) (fun _ _ _ _=>d8) (fun _ _ _ _=>(c9 m a (aj (pv 1) (aj (pv 2) (aj (pv 0) aF))))) ⟨⟨rfl,rfl,Or.inl rfl⟩,⟨⟨rfl,rfl,Or.inl rfl⟩,trivial⟩⟩ rfl) aF))))))))))))))))
end
end K52
namespace L2
open PySem PySem.Spec PyProof.Rows
section
variable {Z:St} {H:Hp} {Q:VK} {D:Ends}
theorem Ix {K:QR} {d b:TE} {f:Str} (h:b Z H fun y H1=>d Z H1 fun x H2=>∃a C dx fs,x= .ref a/\H2 a=lD (.ins C dx fs)/\Zl K C/\Vr K C f/\fs.length<1000/\D.nx Z (bC H2 a (.ins C dx (iS f y fs)))):Mb K d b f D Z H:=h
theorem MU {c:TT} {t u:TE} (h:c Z H fun b H1=>if b=QW then t Z H1 Q else u Z H1 Q):PH c t u Z H Q:=h
theorem LN {K:QR} {b:TE} {f:Str} (h:b Z H fun x H1=>∃a C dx fs v,x= .ref a/\H1 a=lD (.ins C dx fs)/\Zl K C/\Vr K C f/\fs.lookup f=lD v/\Q v H1):Mp K b f Z H Q:=h
theorem JZ {C:QX} {m:Str} {sp:Sp} {E:XK} {b:TE} {t:TA} (h:b Z H fun x H1=>∃a dx fs,x= .ref a/\H1 a=lD (.ins C dx fs)/\fs.lookup m=QS/\t Z H1 fun vs H2=>sp (x::(vs++[])) H2 Q E):uf C m sp [] E b t Z H Q:=h
theorem JS {C:QX} {sp:Sp} {E:XK} {t:TA} (h:t Z H fun vs H1=>∀x dx,H1 x=QS->H1 dx=QS->dx≠x->sp (.ref x::(vs++[])) (bC (bC H1 dx (.own x)) x (.ins C dx [])) (fun v H2=>v= .TL/\Q (.ref x) H2) E):w6 C sp [] E t Z H Q:=h
end
end L2
local macro_rules| `(tactic|fail "gh")=> `(tactic|repeat (first
 |specialize L2.M3 ?_
 |specialize L2.ND ?_
 |specialize L2.Ix ?_
 |specialize L2.MU ?_
 |specialize L2.LN ?_
 |specialize L2.JZ ?_
 |specialize L2.JS ?_
 |specialize L2.Ih ?_
 |((with_reducible show L2.yh _ _ _ _);refine⟨_,rfl,?_⟩)
 |specialize L2.Qd ?_
 |specialize L2.ah0 ?_
 |specialize L2.aiH ?_
 |specialize L2.ahR ?_
 |specialize L2.aju ?_
 |((specialize L2.amk ?_ ?_);first|exact⟨by decide,by decide⟩|exact⟨by decide,by decide,by decide⟩|exact(show(0:Int)<_ by decide)|exact⟨by decide,by left⟩)
 |((specialize L2.ahI ?_ ?_);exact rfl)
 |((specialize L2.aio ?_ ?_);exact rfl)
 |specialize L2.agP ?_
 |specialize L2.Ja ?_
 |specialize L2.agK ?_
 |specialize L2.afq ?_
 |specialize L2.aej ?_
 |specialize L2.afe ?_
 |specialize L2.afy ?_
 |specialize L2.amj ?_
 |specialize L2.air ?_
 |specialize L2.agX ?_
 |specialize L2.ail ?_
 |specialize L2.af1 ?_
 |specialize L2.aeF ?_
 |specialize L2.afU ?_
 |specialize L2.ae8 ?_
 |specialize L2.agW ?_
 |specialize L2.aeO ?_
 |specialize L2.aiE ?_
 |specialize L2.afa ?_
 |specialize L2.ahw ?_
 |specialize L2.agU ?_
 |specialize L2.ait ?_
 |specialize L2.aiD ?_
 |specialize L2.ac9 ?_
 |specialize L2.aeM ?_
 |specialize L2.agJ ?_
 |specialize L2.aen ?_
 |specialize L2.aea ?_
 |specialize L2.ae0 ?_
 |specialize L2.afo ?_
 |specialize L2.ago ?_
 |specialize L2.aeE ?_
 |specialize L2.afg ?_
 |specialize L2.aer ?_
 |specialize L2.afA ?_
 |specialize L2.ad8 ?_
 |specialize L2.ae7 ?_
 |specialize L2.aeS ?_))
namespace K52
open PySem L2
section
open L3 L4
variable {P:Rt} {w:RM} {K:QR} {mg:Str->Option QT} {base:Heap} {f:QX} {fd:Sj}
theorem lB:TN ["self","most"] ["self","most"] (aG (bf (top 2) 0)):=⟨rfl,rfl,rfl,by left,rfl,by left,by left⟩
theorem Dc {C B fI:QX} (F:Ut K "__init__" "TooMany.__init__" (bf (top 2) 0) f fd) (n:L9.XC K C B fI) (j:mg "BedError"=lD (.ref B)) (d:Xz K B (.type "type")=QW) (l:XA K (.ref B) (.type "type") "__init__"=lD (.val (.builtin "ValueError.__init__")))
  (b:Up K (.ref B) "__getattribute__"=lD (lD (.builtin "type.__getattribute__"))) (i:R0 K (.ref C) "most"=lD QS):FnOk P w K mg base dm 1 f fd ["self","most"] (L9.wb C "most"):=by
 refine F.ok lB (fun vs H Q E h=> ?_) (fun t A a s H vs Q E r h=> ?_)
 .obtain⟨_,_,rfl,_⟩:=h;rfl
 obtain⟨e,v,rfl,o,m,q⟩:=h;refine⟨_,(ar (iB (L9.Ex rfl j d l b n (aj (pv 0) (aj (L9.HM (L9.Nc (by decide) (L9.LQ (pv 1) L9.M8)) (by decide)) aF)))) (aO (L9.Jf n i (pv 0) (pv 1) rfl))),?_⟩;fail "gh";refine⟨V.ref e,rfl,v,rfl,o,fun y=>⟨e,y,rfl,m,?_⟩⟩;exact⟨v,rfl,V.ref e,rfl,e,rfl,m,fun p i g=>q p i g⟩
end
end K52
namespace K52
open PySem L2
section
variable {P:Rt} {w:RM} {K:QR} {mg:Str->Option QT} {base:Heap} {f:QX} {fd:Sj}
theorem gQ:TN ["_law_one","_law_other","_law_found"] ["_law_one","_law_other"] (aG (top 32)):=⟨rfl,rfl,rfl,by left,rfl,by left,by left⟩
theorem wo {C:QX} {m:List QT} (F:Ut K "_law_same" "_law_same" (top 32) f fd) (XY:L3.GX P w K mg base (L4.mF P w) 9 "same" ["one","other","most"] [] (L10.d4 K 3 ip))
  (Wk:mg "TooMany"=lD (.ref C)) (N:L4.yx K C m) (bR:m.contains (.type "BaseException")=QW) (nR:Rp K Rk "TooMany"=lD (lD (.ref C))):
  FnOk P w K mg base dm 11 f fd ["_law_one","_law_other"] (L10.d4 K 2 cx):=by
 refine F.ok gQ (fun vs H Q E h=>h.1) (fun SE A y s H vs Q E S h=> ?_);have hu:=S.units;obtain⟨hl,B,α,Z,xs,Y,z,g⟩:=h;have ev:∀{E2:XK},L10.dc K E2 (ng (L10.d4 K 3 ip) [] E2 (jW (yh 0) (jW (yh 1) (jW (tC (.int 80)) pQ)))) (L10.LR ip 3 (L10.am (L10.az 0) (L10.am (L10.az 1) (L10.am (L10.ag (L3.pC (.int 80))) L10.aV)))):=L10.Fj (L10.aC L10.aU (L10.aC L10.aU (L10.aC (L10.ao (L3.yB fun _ _=> .int _)) L10.bF)));obtain⟨b,c,rfl⟩:∃b c,xs=[.fz b,.fz c]:=by
  unfold cx at g;split at g
  .exact⟨_,_,rfl⟩
  .exact g.elim
 obtain⟨q,p,rfl,L,J⟩:∃q p,vs=[q,p]/\L3.DV (L10.ow B α Z) K H q b/\L3.DV (L10.ow B α Z) K H p c:=by
  cases z with
  |cons L r0=>cases r0 with
   |cons J r1=>cases r1;exact⟨_,_,rfl,L,J⟩
 have sl:L10.Ug (L10.ow B α Z) K H α [lD q,lD p,lD .TL] [-(b),-(c),-(.none)]:=⟨rfl,fun i x h=>by
  match i,h with
  |0,h=>cases h;exact⟨q,rfl,L⟩
  |1,h=>cases h;exact⟨p,rfl,J⟩
  |2,h=>cases h;exact⟨.TL,rfl,.TL⟩
  |i+3,h=>cases h⟩
 suffices key:∃E2:XK,(∀c dx j,E2 c dx j->c=QT.ref C)/\L10.WS K E2 B H α Z (L10.PQ B K Q) (ip [.fz b,.fz c,.fz (.int 80)] Z)/\∀c dx j,E2 c dx j->Q .TL j by
  obtain⟨E2,k1,k2,k3⟩:=key;refine⟨_,(ar (cO (i:=2) gQ.nd rfl (Or.inl rfl) gc)
   (ar (L4.Jj (E2:=E2) rfl rfl rfl rfl Wk N bR
    (fun l=>aO (cO (i:=2) gQ.nd rfl (Or.inl rfl) (L3.IB XY S (L4.Ap rfl) (aj (pv 0) (aj (pv 1) (aj aL aF))))))
    (fun l e=>aO (cO (i:=2) gQ.nd rfl (Or.inl rfl) gc))
    (fun c dx j h=>⟨C,m,k1 c dx j h,N,by rw[Xf,beq_self_eq_true,Uz]⟩))
   (aO (cD (pv 2))))),?_⟩
  fail "gh";unfold L4.Kr;refine⟨?_,fun c dx j h2 o hs=> ?_⟩
  .exact ev B _ H α Z _ _ Y sl (L10.WS.imp (show L10.WS K E2 B H α Z (L10.PQ B K Q) (L10.LR ip 3 (L10.am (L10.az 0) (L10.am (L10.az 1) (L10.am (L10.ag (L3.pC (.int 80))) L10.aV))) [-(b),-(c),-(.none)] Z) from k2) fun x U Z1 j t r X v z=>⟨v,rfl,X v z⟩)
  .obtain⟨R,r,O,rfl⟩:∃R r O,o=[R,r,O]:=by
    match o,hs with
    |[a,c,d],_=>exact⟨a,c,d,rfl⟩
   exact⟨.TL,rfl,k3 c dx j h2⟩
 unfold cx at g;dsimp only at g;cases h1:ip [.fz b,.fz c,.fz (.int 80)] Z with
 |bad=>rw[h1] at g;exact g.elim
 |er x M=>
  rw[h1] at g;dsimp only at g;by_cases G:x.cls=("TooMany":Str)
  .rw[if_pos G] at g;refine⟨fun c dx j=>∃n,L10.Ta α Z H n M j/\L10.RF B K j n M/\c= .ref C,fun c dx j ⟨_,_,_,h⟩=>h,?_,fun c dx j ⟨n,t,r,_⟩=>g n j t r .TL .TL⟩;rintro c dx n H' I u ⟨⟨a',t,T⟩,_⟩;rw[G] at T;have e3:=nR.symm.trans T;cases e3;exact⟨n,I,u,t⟩
  .rw[if_neg G] at g;exact g.elim
 |ok x M=>rw[h1] at g;exact⟨fun _ _ _=>False,fun _ _ _ h=>h.elim,g,fun _ _ _ h=>h.elim⟩
end
end K52
theorem Qj {α:Type}:∀{l:List α},l.length=1->∃a,l=[a]
 |[a],_=>⟨a,rfl⟩
theorem Ql {α:Type}:∀{l:List α},l.length=2->∃a b,l=[a,b]
 |[a,b],_=>⟨a,b,rfl⟩
theorem Qk {α:Type}:∀{l:List α},l.length=3->∃a b c,l=[a,b,c]
 |[a,b,c],_=>⟨a,b,c,rfl⟩
theorem Qy {α:Type}:∀{l:List α},l.length=4->∃a b c d,l=[a,b,c,d]
 |[a,b,c,d],_=>⟨a,b,c,d,rfl⟩
local macro_rules| `(tactic|fail "ba")=> `(tactic|(intro _ _ _ _ _ _ us hl;first|(obtain⟨_,h⟩:=Qj hl;subst h;rfl)|(obtain⟨_,_,h⟩:=Ql hl;subst h;rfl)|(obtain⟨_,_,_,h⟩:=Qk hl;subst h;rfl)|(obtain⟨_,_,_,_,h⟩:=Qy hl;subst h;rfl)|(match us,hl with|[_,_,_,_,_],_=>rfl)|(match us,hl with|[],_=>rfl)))| `(tactic|fail "bd")=> `(tactic|(intro _ _ _ _ _ _ us hl;first|((have h1:us.length=1:=by simpa using hl);obtain⟨_,h⟩:=Qj h1;subst h;exact⟨_,rfl,rfl⟩)|((have h1:us.length=2:=by simpa using hl);obtain⟨_,_,h⟩:=Ql h1;subst h;exact⟨_,rfl,rfl⟩)|((have h1:us.length=3:=by simpa using hl);obtain⟨_,_,_,h⟩:=Qk h1;subst h;exact⟨_,rfl,rfl⟩)|((have h1:us.length=4:=by simpa using hl);(match us,h1 with|[_,_,_,_],_=>exact⟨_,rfl,rfl⟩))))| `(tactic|fail "fl")=> `(tactic|first|exact List.forall_mem_nil _|(refine List.forall_mem_cons.mpr ⟨?_,?_⟩;(·(show R0 _ _ _=_;k_is));fail "fl"))| `(tactic|fail "ki")=> `(tactic|first|(refine' L3.NI.mk ?a' ⟨_,L2.GN ?b' ?c' ?d'⟩;(case a'=>k_is);(case b'=>k_is);(case c'=>k_is);(case d'=>k_is))|(refine' L3.MI.mk ?a' ?e' ⟨_,L2.GN ?b' ?c' ?d'⟩;(case a'=>k_is);(case e'=>k_is);(case b'=>k_is);(case c'=>k_is);(case d'=>k_is))|(refine' L3.CI.mk ?a' ?b' ?c' ?d' ?e' ?f' ?g' ?i';(case a'=>k_is);(case b'=>k_is);(case c'=>k_is);(case d'=>k_is);(case e'=>k_is);(case f'=>k_is);(case g'=>k_is);(case i'=>fail "fl"))|(refine' L3.DI.mk ?a' ⟨_,L3.JT ?b' ?c' ?d' ?e'⟩;(case a'=>k_is);(case b'=>k_is);(case c'=>k_is);(case d'=>k_is);(case e'=>k_is))|k_is|k_exc|rfl|left|(rw[<-Array.all_toList];rfl))
namespace K52
open PySem L2 L3
def F_lawH:FN:=L10.Oz F_law
theorem all_mk {l:aas} {w:RM} {K:QR} {h:Heap} {mg:Str->Option QT} {fa:QX}
  {aa5:Tok}
  {V3:QX} {abE:Nat} {abO:Array (Option QT)}
  {aah:Tok}
  {Th:QX} {aa2:Nat} {aaL:Array (Option QT)}
  {V9:QX} {Yu:Nat} {YB:Array (Option QT)}
  {VD:QX} {ZK:Nat} {ZH:Array (Option QT)}
  {ach:QX} {aam:Tok}
  {f0 f1 f2 f3 f4 f5 f6 f7 f8 f9 f10 f11 f12 f13 f14 f15 f16 f17 f18 f19 f20 b f22 f23 f24 f25 f26 f27 f28 f29 f30 f31 f32 f33 f34 f35 g f37 f38 f39 p:QX}
  {n m:QX}
  {nmR qR:Str} {J:QX} {bsR:List QT} {Q:List Str} {agM:List QT} {abR:Bool} {ahb:Option Bool} {ddR:Option QX} {k0R k1R k2R k3R k5R:Option QT}
  {Z:QT} {Y:Option QX} {u:Array UH} {nN:Nat} {R:Array (Option QT)} (X:K.In h) (G:h.Ns Rk mg) (hfa:mg "law"=lD (.ref fa))
  (h0:NI K f0 "layer_of" (top 8))
  (h1:NI K f1 "looked_up" (top 11))
  (h2:NI K f2 "chords_over" (top 12))
  (h3:NI K f3 "chord_acts" (top 13))
  (h4:NI K f4 "_law_cell" (top 20))
  (h5:NI K f5 "_law_take" (top 21))
  (h6:NI K f6 "_law_letter" (top 22))
  (h7:NI K f7 "_law_meaning" (top 23))
  (h8:NI K f8 "_law_chords" (top 24))
  (h9:NI K f9 "_law_bed" (top 25))
  (h10:NI K f10 "_law_keys" (top 26))
  (h11:NI K f11 "_law_put" (top 28))
  (h12:NI K f12 "_law_other_bed" (top 29))
  (h13:NI K f13 "_law_events" (top 27))
  (h14:NI K f14 "events_of" (top 15))
  (h15:NI K f15 "_law_unlike" (top 31))
  (t:NI K f16 "step" (top 9))
  (h17:DI K f17 ach "same" (top 18) #[.int 400 aam])
  (h18:NI K f18 "_law_pairs" (top 30))
  (h19:NI K f19 "_law_same" (top 32))
  (h20:NI K f20 "law" (top 33))
  (d:CI K b "Hand" ["bed","acts","waiting","once","sent"])
  (h22:MI K b f22 "__init__" "Hand.__init__" (bf (top 10) 0))
  (h23:MI K b f23 "stands" "Hand.stands" (bf (top 10) 1))
  (h24:MI K b f24 "is_waiting" "Hand.is_waiting" (bf (top 10) 2))
  (h25:MI K b f25 "has_act" "Hand.has_act" (bf (top 10) 13))
  (h26:MI K b f26 "come" "Hand.come" (bf (top 10) 11))
  (h27:MI K b f27 "go" "Hand.go" (bf (top 10) 12))
  (h28:MI K b f28 "decide" "Hand.decide" (bf (top 10) 10))
  (h29:MI K b f29 "makes_chord" "Hand.makes_chord" (bf (top 10) 4))
  (h30:MI K b f30 "put_to_chord" "Hand.put_to_chord" (bf (top 10) 5))
  (h31:MI K b f31 "begin" "Hand.begin" (bf (top 10) 6))
  (h32:MI K b f32 "press" "Hand.press" (bf (top 10) 3))
  (h33:MI K b f33 "settle" "Hand.settle" (bf (top 10) 8))
  (h34:MI K b f34 "lift" "Hand.lift" (bf (top 10) 7))
  (h35:MI K b f35 "wait_on" "Hand.wait_on" (bf (top 10) 9))
  (f:CI K g "Places" ["most","found","numbers"])
  (h37:MI K g f37 "enter" "Places.enter" (bf (top 16) 1))
  (h38:MI K g f38 "__init__" "Places.__init__" (bf (top 16) 0))
  (h39:MI K g f39 "way_to" "Places.way_to" (bf (top 16) 2))
  (WN:Rp K Rk "TooMany"=lD (lD (.ref n)))
  (YX:Rp K Rk "BedError"=lD (lD (.ref m)))
  (xR:K.lookup n=lD (excClassObj nmR qR n J bsR (.ref m::[.type "ValueError",.type "Exception",.type "BaseException",.type "object"]) QW Q agM abR ahb ddR k0R k1R k2R k3R k5R "ValueError.__new__"))
  (eI:Wu K m [.type "ValueError",.type "Exception",.type "BaseException",.type "object"] "ValueError.__new__"=QW)
  (lN:K.lookup J=lD ⟨Z,Y,.dict u nN,R⟩)
  (o:(u.all fun e=>match e.key with| .str _ _=>QW|_=>Q2)=QW)
  (inN:Rp K J "__init__"=lD (lD (.ref p)))
  (S:R0 K (.ref n) "__setattr__"=lD (lD (.builtin "object.__setattr__")))
  (U:R0 K (.ref n) "most"=lD QS)
  (T:Xz K m (.type "type")=QW)
  (fcB:XA K (.ref m) (.type "type") "__init__"=lD (.val (.builtin "ValueError.__init__")))
  (N:Up K (.ref m) "__getattribute__"=lD (lD (.builtin "type.__getattribute__")))
  (r:MI K n p "__init__" "TooMany.__init__" (bf (top 2) 0))
  (abM:Rp K Rk "NONE"=lD (lD (.ref V3)))
  (aaM:Rp K Rk "CHORD"=lD (lD (.ref Th)))
  (ZM:Rp K Rk "AT_REST"=lD (lD (.ref VD)))
  (Zo:K.lookup VD=lD ⟨.type "tuple",QS,.seq #[.ref V9,.none,.none] ZK,ZH⟩)
  (Yx:K.lookup V9=lD ⟨.type "tuple",QS,.seq #[] Yu,YB⟩)
  (aaW:K.lookup Th=lD ⟨.type "tuple",QS,.seq #[.str "chord" aah] aa2,aaL⟩)
  (abz:K.lookup V3=lD ⟨.type "tuple",QS,.seq #[.str "none" aa5] abE,abO⟩)
  (y0:Rp K Rk "max"=lD QS)
  (y1:Rp K Rk "all"=lD QS)
  (y2:Rp K Rk "list"=lD QS)
  (y3:Rp K Rk "sorted"=lD QS)
  (y4:Rp K Rk "len"=lD QS)
  (y5:Rp K Rk "range"=lD QS)
  (y6:Rp K Rk "tuple"=lD QS)
  (y7:Rp K Rk "dict"=lD QS)
  (y8:Rp K Rk "zip"=lD QS)
  (y9:Rp K Rk "reversed"=lD QS)
  (M:Rp K Rk "any"=lD QS):
  ∃fd:Sj,(∀(s:Q0) (v:QT),Wz s fd ⟨[v],[]⟩ [("_law_script",v)])/\∀base:Heap,K.In base->base.Ns Rk mg->FnOk l.prog w K mg base dm 12 fa fd ["_law_script"] (L3.nz K 1 F_lawH):=by
 have YT:=Sm X G y0;have Yl:=Sm X G y1;have V7:=Sm X G y2;have V6:=Sm X G y3;have j:=Sm X G y4;have B:=Sm X G y5;have U0:=Sm X G y6;have aaO:=Sm X G y7;have ab0:=Sm X G y8;have WK:=Sm X G y9;have aa0:=Sm X G M;have Yw:=Jt (xs:=[.str "none"]) (ds:=[(.str "none")]) abz (by show 1<=Q8;decide) (.cons ⟨_,rfl⟩ .nil) fun O H=>(.cons (.str _) .nil);have y:=Jt (xs:=[.str "chord"]) (ds:=[(.str "chord")]) aaW (by show 1<=Q8;decide) (.cons ⟨_,rfl⟩ .nil) fun O H=>(.cons (.str _) .nil);have YR:=Jt (xs:=[]) (ds:=[]) Yx (by show 0<=Q8;decide) .nil fun O H=> .nil;have Wg:=Jt (xs:=[.ref V9,.TL,.TL]) (ds:=[(.tuple []),.none,.none]) Zo (by show 3<=Q8;decide) (.cons rfl (.cons rfl (.cons rfl .nil))) fun O H=>(.cons (YR O H) (.cons .TL (.cons .TL .nil)));have Yt:=To X G abM;have A:=To X G aaM;have Wj:=To X G ZM;refine h20.law X G hfa (by fail "ba") fun base fd acr=> ?_;have W:Tp l.prog w K mg base h:=⟨X,G⟩;have VO:=h0.c W fun _ z=>xo z YT;have Xu:=h1.c W fun _ z=>vQ z;have Tq:=h2.c W fun _ z=>rb z Yl;have Xb:=h3.c W fun _ z=>tU z V7 V6 j Yt Yw;have TB:=h4.c W fun _ z=>we z j;have q:=h5.c W fun _ z=>wf z B;have Wx:=h6.c W fun _ z=>sR z q;have U9:=h7.c W fun _ z=>pO z q Wx YT;have Wy:=h8.c W fun _ z=>tf z q B U0 j Yl;have U7:=h9.c W fun _ z=>yi z TB q U9 Wy B U0;have V4:=h10.c W fun _ z=>wD z TB q;have X0:=h11.c W fun _ z=>xI z;have UE:=h12.c W fun _ z=>nF z TB q X0 U7 j;have Ud:=h13.c W fun _ z=>si z B;have Wa:=h14.c W fun _ z=>vn z B;have a:=d.cf;have E:=f.cf;have o:XT K J=QW:=by unfold XT;rw[lN];exact o
 have XR:L4.yx K n (.ref m::[.type "ValueError",.type "Exception",.type "BaseException",.type "object"]):=⟨_,_,_,_,_,_,_,_,_,_,_,_,_,_,_,_,xR⟩;have XZ:L9.XC K n m p:=⟨⟨_,_,_,_,_,_,_,_,_,_,_,_,_,_,xR,o,inN⟩,eI,S⟩;have Wk:=To X G WN;have ZD:=To X G YX;obtain⟨fdI,L⟩:=r.F;obtain⟨_,_,_,_,_,_,_,_,_,rfl,WJ,_⟩:=L.ex;have WT:=r.i;have WQ:=Dc (P:=l.prog) (w:=w) (mg:=mg) (base:=base) L XZ ZD T fcB N U;have WM:=L.binds (ps:=["self","most"]) (by fail "ba");have Yr:=h22.k d W fun _ z=>oB z a aaO;have C:=h23.mt d W fun _ z=>rH z a U0 V6;have TF:=h24.mt d W fun _ z=>my z a;have Ui:=h25.mt d W fun _ z=>pL z a V7;have T5:=h26.mt d W fun _ z=>wg z a Ui;have X2:=h27.mt d W fun _ z=>yH z a Ui;have I:=h28.mt d W fun _ z=>rF z a T5 Xb ab0 A y;have UW:=h29.mt d W fun _ z=>lC z a C VO Tq A y;have UM:=h30.mt d W fun _ z=>kF z a I Tq j A y;have Ww:=h31.mt d W fun _ z=>tT z a C T5 VO Xu Tq A y Yt Yw;have Vp:=h32.mt d W fun _ z=>tG z a TF UW UM I Ww;have V8:=h33.mt d W fun _ z=>sD z a I T5 A y;have VQ:=h34.mt d W fun _ z=>vJ z a TF V8 X2;have UU:=h35.mt d W fun _ z=>pM z a I;have ZU:=t.c W fun _ z=>A2 z a Yr UU Vp VQ C;have V5:L3.fq l.prog w K mg base 8 "step" ["bed","standing","event"] 3 dD:=t.cal X G (by fail "ba") fun _ z=>(A2 z a Yr UU Vp VQ C).imp (fun _ _ _ _ h=>L10.Np h);have Te:=h37.mt f W fun _ z=>pJ z E XZ WJ WT WQ WM WN Wk j;have Xo:=h38.k f W fun _ z=>mv z E Te;have UG:=h39.mt f W fun _ z=>n9 z E V7 WK;have XY:L3.GX l.prog w K mg base (L4.mF l.prog w) 9 "same" ["one","other","most"] [] (L10.d4 K 3 ip):=h17.c (ds:=[]) (dvs:=[]) W .nil fun _ z=>JP z E Xo UG Te ZU Wa j Wj Wg;have UY:=h18.c W fun _ z=>tI z ZU Ud j;have Vj:=h19.c W fun _ z=>wo z XY Wk XR rfl WN;have Vq:=h15.c W fun _ z=>r9 z Ud V5;exact(NH acr Vj UY V4 U7 UE Vq j aa0).imp (fun _ _ _ _ h=>L10.MM h)
end K52
inductive PySem.W.Fast|tw7086424227061281230|tw17932699923155285409|tw17432207643864623773|tw10072649620965140915|tw10101560733607490275|tw9997506246433979210|tw7634593559833620259|tw17235287392839369772|tw12255807917937569052|tw6669175120196961569|tw13863712970363058976|tw5495970515675266988|tw14523724430207687588|tw10500202628938498620|tw10670025161964933192|tw17007648592562148358|tw14851743069361848561|tw9116779613605693598|tw794605096086360361|tw18245616450168377915|tw16724787067480248660|tw14548064365500467629|tw9536147234341174082|tw1961483556727043763|tw9179613970329702173|tw15125929083034832777|tw11661013383667664778|tw15455691061901518548|tw17676888233175915092|tw8658070248751855260|tw7846857331918986613|tw5666567603062091182|tw18404671030370931815|tw11781414718974932739|tw1770755240489238112|tw11396405325264739877|tw1660472761986568915|tw12246247151012590927|tw13791198507500445993|tw6378720346419560765|tw11458299933952371186|tw7602342698794366912|tw6973011549988718308|tw7368769723869664901|tw13104475931157144000|tw8895232738615813786|tw10030521669832511202|tw4457724767872166184|tw13165378627546338402|tw11589304768685129116|tw18063459888121667508|tw4653556057695770484|tw3730864144910195467|tw14445363699313736433|tw10570466742580918872|tw11491416946633663491|tw17141815336247839824|tw8503676253692638065|tw17683029542215772800|tw2341074818980007226|tw10622895702710126282|tw9848467609393386822|tw12180521262983391462|tw254396749858074343|tw4476521046045926288|tw3521416649842664883|tw11045681084635657174|tw7636640465759266785|tw8244348297458849072|tw10827524386123917135|tw16984051988460030299|tw13309110088944025059|tw6988615639758205314|tw16833132004470983056|tw18029251778097539010|tw10690902895628955793|tw741243987497191970|tw1281943583803493775|tw3026594047149562211|tw15910713748838977510|tw16575371803255938027|tw15160017259750707837|tw12371122206707046169|tw10868024968124225569|tw8529997184611673630|tw8412640090787025050|tw1961680056132913429|tw3982144163245531634|tw37228396664869246|tw15414805228901385202|tw4399503850142656180|tw18283271892943828112|tw12719837535238827422|tw1361024962360009020|tw12699553687349394471|tw13178370648943339180|tw9910595645282425813|tw13545113149160835907|tw12402589574760536515|tw5015173044585040645|tw340073525393622500|tw12695281054511563928|tw9146992814175497185|tw8341033475920434078|tw15565959898998106226|tw11502880780789618346
open PySem PySem.W PyProof.Rows
set_option maxRecDepth 100000 in
set_option maxHeartbeats 0 in
theorem PySem.Challenge.cw_chordbed_k52_whole_none_is_shorter_holds : PySem.Challenge.rw_chordbed_k52_whole_none_is_shorter.Holds := by
 w_on;o_law;k_head;(case hw=>w_witness2)
 k_fill
 refine L3.N0 (l:=PySem.Challenge.rw_chordbed_k52_whole_none_is_shorter) (n:=63) (k:=12) (x:= "_law_script") (F:=K52.F_lawH) rfl (by decide) rfl ⟨rfl,by decide,by decide⟩ (fun w h Y=>PySem.W.kIn_of Y) ?F K52.main
 case F=>
  intro w d e h b G a
  apply K52.all_mk b G a
  all_goals fail "ki"
