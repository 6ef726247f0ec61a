import PyProof.Rows.All
import Wide.All
import OpenK.AllK
import Wide.FinOn
import Lean
import PyProof.EqAt
import PyProof.EqKinds
import PyProof.TupleCall
import KE.KIntText
import KE.KRevSl
import PyProof.Rows.SeqMore
import PyProof.WalkInts
import PyProof.Rows.MinMaxN
import PyProof.ExcInit
import OpenK.KMake
import PyProof.InstStoreFacts
import PyProof.FString2
import PyProof.Rows.FStr
import PyProof.Rows.SetFrom
import PyProof.SeqRoads2
import PyProof.RangeFor
import PyProof.WalksMore
import PyProof.StrBlock2
import PyProof.Rows.SortShell
import PyProof.TupleOfSeq
import KE.KDictList
import KE.KDictOf
import PyProof.IsiH_tuple
import PyProof.Rows.RuleN_abs
import PyProof.Rows.Range3
import KE.KRevIter
import PyProof.StrLawsRepr
import PyProof.ReprStr
import PyProof.IsiH_list
import PyProof.Rows.TupDisplay
import PySem.Challenge.RW_chordbed_k73_whole_no_row_is_shorter
set_option compiler.extract_closed false
set_option genSizeOf false
set_option genInjectivity false
set_option Elab.async false
set_option linter.all false
set_option maxRecDepth 100000
local macro_rules|`(tactic|left)=>`(tactic|decide+kernel)|`(tactic|change $e)=>`(tactic|with_reducible exact $e)|`(tactic|specialize $e)=>`(tactic|with_reducible refine $e)
local macro_rules|`(tactic|exists $e)=>`(tactic|with_reducible apply $e)|`(def $i:declId $s:optDeclSig $v:declVal)=>`(noncomputable def $i:declId $s:optDeclSig $v:declVal)|`(abbrev $i:declId $s:optDeclSig $v:declVal)=>`(noncomputable abbrev $i:declId $s:optDeclSig $v:declVal)
local macro_rules|`(tactic|omega)=>`(tactic|lia)
open Option renaming some->lD,none->Ld,isSome_map->WM,getD_some->W6,isSome_iff_exists->XZ,map_eq_some_iff->Yp,isSome_some->Zr,toList_none->Zt,getD_none->ZZ
open PySem.W renaming Frag->QF,nsIn->Q9,findIn->RI,mg_none_of->R0,emptyDict->Sq,fnOf->Sr,keepIn->SD,mg_of->SN,instObj->S2,isFn->TF,specialIn->T7,cellsFrom_some->T8,plainGet->Ui,codeIn->UK,hasDictIn->UX,methodCall_KW->Vy,lookIn->VI,tailIn->VQ,plainGet_of->V3,excIn->V9,callWith_K->Wg,methodObj->Wy,plainOver->Wz,takerIn->Xb,makesIn->Xd,readsIn->Xf,findCls->Xg,nsOkIn->Xr,pyHash_slot->YN,tail_of_in->YZ,handedIn->ZI,OpenLaw->Z8,typeIn->aai,clsIn->aaU
open PySem renaming wpAny_bind->QG,Value->QH,PyData->QK,Addr->QN,Shared->QP,wpAny_pure->QR,sizeLine->QX,mainGlobals->Q4,Program->Rf,starEach->Rh,Around->Rv,NameKind->Rx,World->RB,Expr->RM,wpAny_field->RU,FuncData->RZ,bootBuiltins->Se,wpAny_newObj_type->Sf,wpAny_seqItems->Sk,wpAny_holding->Sx,swapsWith->Sy,compareOp->SH,mem_of_lookup->SM,wpAny_truthy_bool->SR,wpAny_callSpecial?_slot->SS,binaryOp->SY,cellsFrom->S4,wpAny_call_entry->S5,sysModules->S8,wpAny_Call_Name_kw->S9,Stmt->Th,wpAny_standAt->Tn,sizeLine_eq->Tt,wpAny_setField_rec->Tv,wpAny_passesOwn->TB,plainId_quiet->TL,wpAny_letGo->TZ,codeAny_builtin->Ue,wpAny_ite_split->Ug,DictEntry->Um,wpAny_getItem_str_slice->Uo,Scope->Uy,wpAny_typeOf->UA,wpAny_setField->UB,wpAny_loadPart_at->UC,ExcBaseFacts->UD,builtinLookup_eq_fast->UH,codeAny_call_builtin->UR,wpAny_pyIter_list->U6,call_meets->Vp,PassesOwn->V2,wpAny_isInstance->V4,ItemsOf->V5,BindsTo->Wd,wpAny_call->We,codeAny_mono->Wf,wpAny_rule->Wh,wpAny_execs_nil->Ws,post_val_or_str->Wt,wpAny_specialOf->Wu,typeLookup_type->Wv,wpAny_updateSeq->Ww,wpAny_pyIter_tuple->WA,GenState->WU,Result->WW,IsPart->WX,wpAny_updateSeq_pair->WY,wpAny_tryCatch->WZ,wpAny_onRaise->Xl,typeIs_int->Xp,tupleKind_room_in1->Xq,Keyword->XM,ZipApart->XO,wpAny_Call_ofName->XQ,eqIsQuiet_byValue->XS,plainObj_wpAny_Assign_Attribute->XY,wpAny_of_eq->Yo,Within->Yv,pushCells_keeps->Yw,Code->YU,typeIs_str->YV,ReadsAll->YX,IsZip->YY,wpAny_binaryOp_repeat_ref->Zs,wpAny_comprehension_free->ZJ,JoinOk->aak,wpAny_Assign_Subscript->aam,OsState->aan,wpAny_isTrue_Compare1->aaQ,Drawn->aa3,wpAny_loadName_local->aa4,Reads->aa6,wpAny_loadName_cell->abx,wpAny_isSubtype_exc->abz,wpAny_raiseNew_none->abA,wpAny_Name->abV,wpAny_Constant_int->abW,wpAny_load->abY,wpAny_getItem_heap->abZ,wpAny_setItem_heap->ab0,wpAny_assign_Name->acG,wpAny_sequenceKey->acH,slot_list_getitem->acI,OwnTail->acJ,wpAny_pyHash_int->ade,wpAny_pyHash_str->adf,wpAny_execs_cons->adg,wpAny_lookBehind->adi,pastItsLine_dict->adj,noFill_tuple_add->adl,call->adn,wpAny_pyIter_zip->ado,beq_builtin_none->adq,wpAny_loadPart->afu,refuseLoop_ref->afB,isSubtype_type->afC,callType_codes->afD,intBits_le_64->ahx,seq_tuple_add->ahy,evalPart_none->ahz,call_list_seq->ahA,wpAny_attempt->ahB,strLen_append->ahC,wpAny_newList->ahD
open List renaming length_map->QI,getElem?_eq_some_iff->QM,length_append->QO,mem_cons_self->QS,replicate->QT,mem_cons_of_mem->QV,getElem?_map->QW,getElem?_eq_getElem->QY,size_toArray->QZ,range->Q0,getElem?_append_left->Q1,mem_singleton->Q2,map_cons->Q3,length_cons->Q5,lookup_cons->Q7,mem_cons->Rc,map_append->Rm,mem_map->Rn,getElem?_append_right->Ro,mem_append->Rq,mem_append_right->Rr,length_replicate->Rt,length_range->Ru,mem_of_getElem?->Ry,append_assoc->RD,append_nil->RF,find?_cons->RH,map_map->RL,replicate_succ->RP,Nodup->RQ,mem_append_left->R8,getElem?_set_ne->R9,getElem?_set->Sd,mem_range->Sg,length_set->Si,pairwise_cons->Sj,length_take->Sl,not_mem_nil->Sm,getElem?_set_self->Sv,nodup_cons->Sw,mem_iff_getElem?->Sz,flatten_cons->SI,mem_filter->SK,drop_eq_nil_of_le->SU,length_nil->Ta,getElem?_replicate->Ti,pairwise_singleton->Tj,lookup->Tq,lookup_cons_self->Tu,length_drop->TR,all_eq_true->TU,drop_eq_getElem_cons->TV,any_cons->T1,of_mem_zip->T4,nodup_append->Uh,length_singleton->Ut,length_filter_le->Uu,filter_cons->Ux,map_congr_left->UL,map_nil->UO,mem_filterMap->UW,mem_of_find?_eq_some->U7,length->U9,reverse_cons->Vb,pairwise_map->Vc,filterMap_cons_none->Vl,filterMap_cons_some->Vm,mem_flatMap->Vv,foldl->VD,take_of_length_le->VF,pairwise_lt_range->VG,foldl_cons->VJ,forIn_cons->VO,nodup_nil->Wa,filterMap_cons->Wr,length_reverse->Wx,map_replicate->WO,mem_replicate->WQ,map_inj_right->WT,any_eq_true->Xm,nil_append->XI,forIn_nil->X1,getElem?_cons_succ->Yx,getElem?_cons_zero->Yy,filter_cons_of_pos->Yz,filter_cons_of_neg->YA,getElem?_eq_none->Y1,pairwise_append->Zv,set_cons_zero->Z9,set_cons_succ->aaa,take_add_one->aao,getElem?_inj->aap,getElem_mem->aaR,zipIdx_cons->aaS,take_length->aaT,cons_append->aaV,zipIdx_nil->aa8,headD_cons->aa9,length_zip->abb,drop_zero->aby,filterMap->abC,map_take->ab1,map_drop->ab2,take_nil->ab3
open Bool renaming true->QJ,false->QQ,and_eq_true->Q6,false_ne_true->Q8,and_self->Tf,false_eq_true->Tr,true_or->UP,false_and->UU,false_or->Vk,or_eq_true->VP,true_and->WB,and_true->WC,or_false->Yn,not_true->Yr,or_true->YM,or_eq_false_iff->Zu,not_eq_true'->aal,eq_iff_iff->aa7
open Nat renaming le_of_ble_eq_true->QL,le_refl->QU,lt_of_lt_of_le->Rb,ne_of_lt->Rg,zero_le->Rp,le_trans->RA,ne_of_gt->Sa,lt_irrefl->Su,add_sub_cancel_left->Uc,lt_trans->Uj,zero_add->Uk,lt_succ_self->Uz,le_succ->Vh,le_of_succ_le->Vi,lt_succ_of_lt->Vj,le_of_lt->VH,add_assoc->WN,min_le_right->Xo,mul_le_mul->X8,add_comm->YW,cast->ZL,lt_of_le_of_lt->aaj,le_add_right->aba,min_eq_left->abB,le_of_eq->adk,succ_mul->adm,sub_zero->adp,sub_self->ads,max_le->afE
open Option.some renaming inj->Ra
open PyProof.Rows renaming envOfC->Ri,slot_tuple_getitem->Sb,callWith_type1->SG,callWith_builtin1->aep,kws_cons->aeq,kws_nil->aer
open Array renaming length_toList->RN,getElem?_eq_some_iff->TH,getElem?_toList->Up,getElem?_setIfInBounds_ne->W7,getElem?_eq_getElem->X2,toArray_toList->Y0,find?_toList->ZH,forIn_toList->ZK,all_toList->aaq,toList->abX
open Int renaming toNat_natCast->RY,emod_lt_of_pos->Ts,emod_nonneg->T6,le_refl->Wi,ofNat->Xs,fdiv_eq_ediv_of_nonneg->X6,toNat->YO,toNat_of_nonneg->Z7
open PySem.F renaming excBase_ValueError->Tw,slot_dict_values->UZ,slot_list_append->U0,type_list_append->U1,plainAttrs_dict->Va,plainAttrs_list->Vd,slot_dict_getitem->XJ,args_tuple_add_2->XN,type_dict_values->XT,entry_tuple_add->X0,slot_tuple_add->X7,plainAttrs_str->X9,slot_dict_pop->Yq,slot_str_join->Ys,type_str_join->Yt
open List.Pairwise renaming nil->VN,filter->Xu,filterMap->adt
open List.Perm renaming refl->Xe,swap->aiS
open PySem.Str renaming join->Xh
open Int.ofNat renaming inj->Xt
open PySem.PassesOwn renaming never->ab4
open PySem.W.Looks renaming here->adh
open PySem.StrLaws renaming sliced_plain->adu,strSliceIndices_plain->adv,joinFits->adw,glued_eq_join->adx
open PySem.Within renaming cons->aeo
open PySem.SeqAt renaming compareEq_reads->afv,compareNe_reads->afw,in_list_reads->afx,in_tuple_reads->afy,notIn_list_reads->afz,notIn_tuple_reads->afA,eqv_refl->afF
open List.Nodup renaming sublist->ahE
open PySem.IsL renaming update->aiR
open List.cons renaming injEq->aiU
namespace L2
open PySem PySem.Spec PyProof.Rows
abbrev cE:=Sum Int Str
def sK:cE->QH->Bool
 | .inl k,v=>QH.isInt k v
 | .inr x,v=>QH.isStrOf x v
def P3 (w:RB):cE->Int
 | .inl k=>hashInt k
 | .inr x=>hashStr w x
theorem cR:∀{k:cE} {v:QH},sK k v=QJ->(∃i t,k=Sum.inl i/\v=QH.int i t)\/(∃x t,k=Sum.inr x/\v=QH.str x t)
 | .inl i,v,h=>by obtain⟨t,e⟩:=QH.isInt_shape h;exact .inl ⟨i,t,rfl,e⟩
 | .inr x,v,h=>by obtain⟨t,e⟩:=QH.isStrOf_shape h;exact .inr ⟨x,t,rfl,e⟩
theorem Co (i:Int) (t:Tok):sK (.inl i) (.int i t)=QJ:=by simp[sK,QH.isInt]
theorem Cd (x:Str) (t:Tok):sK (.inr x) (.str x t)=QJ:=by simp[sK,QH.isStrOf]
theorem Lc (a b:Int):decide ((Sum.inl a:cE)=Sum.inl b)=(a==b):=by
 by_cases e:a=b
 .subst e;simp
 .have h:¬(Sum.inl a:cE)=Sum.inl b:=fun q=>e (Sum.inl.inj q);rw[decide_eq_false h];exact(beq_eq_false_iff_ne.mpr e).symm
theorem L8 (a b:Str):decide ((Sum.inr a:cE)=Sum.inr b)=decide (a=b):=by
 by_cases e:a=b
 .subst e;simp
 .have h:¬(Sum.inr a:cE)=Sum.inr b:=fun q=>e (Sum.inr.inj q);rw[decide_eq_false h,decide_eq_false e]
theorem Nt (a:Int) (b:Str):decide ((Sum.inl a:cE)=Sum.inr b)=QQ:=decide_eq_false (fun q=>nomatch q)
theorem Nm (a:Str) (b:Int):decide ((Sum.inr a:cE)=Sum.inl b)=QQ:=decide_eq_false (fun q=>nomatch q)
def cK (prog:Rf) (w:RB):PySem.KeyKind prog w cE where
 is:=sK
 hash:=P3 w
 inj:=fun v a b ha g=>by
  rcases cR ha with⟨i,t,rfl,rfl⟩|⟨x,t,rfl,rfl⟩
  .rcases cR g with⟨j,u,rfl,e⟩|⟨y,u,rfl,e⟩
   .injection e with e1 _;rw[e1]
   .exact nomatch e
  .rcases cR g with⟨j,u,rfl,e⟩|⟨y,u,rfl,e⟩
   .exact nomatch e
   .injection e with e1 _;rw[e1]
 byValue:=fun k v h=>by rcases cR h with⟨i,t,rfl,rfl⟩|⟨x,t,rfl,rfl⟩<;>rfl
 pyHash:=fun f h=>by
  rcases cR f with⟨i,t,rfl,rfl⟩|⟨x,t,rfl,rfl⟩
  .exact ade h
  .exact adf h
 eqBool:=fun l f h=>by
  rcases cR l with⟨i,t,rfl,rfl⟩|⟨x,t,rfl,rfl⟩
  .rcases cR f with⟨j,u,rfl,rfl⟩|⟨y,u,rfl,rfl⟩
   .rw[Lc] at h;exact wpAny_eqBool_int h
   .rw[Nt] at h;exact SeqAt.EqAt.int_str i t y u _ _ _ _ h
  .rcases cR f with⟨j,u,rfl,rfl⟩|⟨y,u,rfl,rfl⟩
   .rw[Nm] at h;exact SeqAt.EqAt.str_int x t j u _ _ _ _ h
   .rw[L8] at h;exact wpAny_eqBool_str h
 «strs»:=fun k x t v h=>by
  rcases cR h with⟨i,u,rfl,e⟩|⟨y,u,rfl,e⟩
  .exact nomatch e
  .injection e with e1 _
   subst e1;cases v<;>rfl
theorem xl (prog:Rf) (w:RB) (i:Int) (t:Tok):(cK prog w).is (.inl i) (.int i t)=QJ:=Co i t
theorem wP (prog:Rf) (w:RB) (x:Str) (t:Tok):(cK prog w).is (.inr x) (.str x t)=QJ:=Cd x t
inductive V where
 |TN|bl (b:Bool)|int (i:Int)|str (x:Str)|byt (b:Array UInt8)|flt (b:UInt64)|ref (a:QN)|ty (n:String)
 deriving DecidableEq
def RelV:V->QH->Prop
 | .TN,u=>u=QH.none
 | .bl b,u=>u=QH.bool b
 | .int i,u=>∃t,u=QH.int i t
 | .str x,u=>∃t,u=QH.str x t
 | .byt b,u=>∃t,u=QH.bytes b t
 | .flt b,u=>∃t,u=QH.float b t
 | .ref a,u=>u=QH.ref a
 | .ty n,u=>u=QH.type n
abbrev Vals:List V->List QH->Prop:=Paired RelV
theorem Vals.length (r:Vals xs us):xs.length=us.length:=Paired.length r
theorem Vals.get:∀{xs:List V} {us:List QH} {i:Nat} {x:V},Vals xs us->xs[i]? =lD x->∃u,us[i]? =lD u/\RelV x u
 |_,_,_,_,.nil,e=>by simp at e
 |_,_,0,_,.cons r _,e=>by simp at e;subst e;exact⟨_,rfl,r⟩
 |_,_,i+1,x,.cons _ t,e=>by obtain⟨u,b,a⟩:=Vals.get t (by simpa using e);exact⟨u,by simpa using b,a⟩
theorem Vals.append:∀{xs a:List V} {us ws:List QH},Vals xs us->Vals a ws->Vals (xs++a) (us++ws)
 |_,_,_,_,.nil,s=>s
 |_,_,_,_,.cons r t,s=> .cons r (Vals.append t s)
theorem Vals.take:∀{xs:List V} {us:List QH} (n:Nat),Vals xs us->Vals (xs.take n) (us.take n)
 |_,_,0,_=> .nil
 |_,_,_+1,.nil=> .nil
 |_,_,n+1,.cons r t=> .cons r (Vals.take n t)
theorem Vals.drop:∀{xs:List V} {us:List QH} (n:Nat),Vals xs us->Vals (xs.drop n) (us.drop n)
 |_,_,0,r=>r
 |_,_,_+1,.nil=> .nil
 |_,_,n+1,.cons _ t=>Vals.drop n t
def Vg:Option V->Option QH->Prop
 |some v,lD u=>RelV v u
 |none,Ld=>True
 |_,_=>False
def KV:List (κ×V)->List (κ×QH)->Prop:=Paired fun(p:κ×V) (q:κ×QH)=>p.1=q.1/\RelV p.2 q.2
def kV:cE->V
 | .inl i=> .int i
 | .inr x=> .str x
inductive HO where
 |lst (xs:List V)
 |tup (xs:List V)
 |dK (Rj:List (cE×V))|dT (Rj:List (List cE×V))
 |set (S:Int->Bool) (n:Nat)
 |ins (C dx:QN) (fs:List (Str×V))
 |own (x:QN)
 |xd (fs:List (Str×V))
 |met (f x:QN)
 |rng (lo hi:Int)
 |frz (o:Obj) (u:HO)
 |tbl (ps:Array QH)
 |ext (φ:Heap->Prop)
 |exw (φ:RB->Heap->Prop)
abbrev Hp:=QN->Option HO
def bC (H:Hp) (a:QN) (o:HO):Hp:=fun b=>if b=a then lD o else H b
theorem aH:bC H a o a=lD o:=by unfold bC;rw[if_pos rfl]
theorem az (h:b≠a):bC H a o b=H b:=by unfold bC;rw[if_neg h]
theorem NZ {H:Hp} {a b:QN} {o u:HO} (h:H a=lD o) (h':H b=lD u) (d:o≠u):a≠b:=by intro e;subst e;rw[h] at h';exact d (Ra h')
theorem bW {H:Hp} (h:H a=lD o) (h':H b=Ld):a≠b:=by intro e;subst e;rw[h] at h';cases h'
def Xj (h:Heap) (a:QN) (items:Array QH):Prop:=∃o,h.get? a=lD o/\(o.cls= .type "tuple"/\∃n,o.data= .seq items n)/\o.dict=Ld
theorem Xj.tup (x:Xj h a items):IsTup h a items:=let⟨o,e,c,_⟩:=x;⟨o,e,c⟩
theorem Xj.lt (x:Xj h a items):a<h.objs.size:=let⟨_,e,_⟩:=x;Heap.lt_size e
theorem Xj.new (h:Heap) (xs:Array QH):Xj (h.push {cls:= .type "tuple",data:= .seq xs}) h.objs.size xs:=⟨_,Heap.get?_push_size _ rfl,⟨rfl,_,rfl⟩,rfl⟩
section
variable (P:Rf) (w:RB)
def ObjOk (H:Hp) (h:Heap) (a:QN):HO->Prop
 | .lst xs=>xs.length<=QX/\∃(b:List QH) (n:Nat),Vals xs b/\h.get? a=lD {cls:= .type "list",data:= .seq b.toArray n}
 | .tup xs=>xs.length<=QX/\∃b:List QH,Vals xs b/\Xj h a b.toArray
 | .dK Rj=>Rj.length<=QX/\(a==S8)=QQ/\∃vs,KV Rj vs/\h.DictOf (cK P w) a vs
 | .dT Rj=>Rj.length<=QX/\(a==S8)=QQ/\∃xs:List (List cE×QN×QH),
   Paired (fun(p:List cE×V) (q:List cE×QN×QH)=>p.1=q.1/\H q.2.1=lD (.tup (p.1.map kV))/\RelV p.2 q.2.2) Rj xs/\
   ∃o es ep,h.get? a=lD o/\o.ExactDict/\o.data= .dict es ep/\es.toList=xs.map (entryOfKey (tupleKind (cK P w)))/\(xs.map (·.1)).Nodup
 | .set S n=>h.SetOf (intKind P w) a S n
 | .ins C dx fs=>H dx=lD (.own a)/\fs.length<=1000/\dx≠a/\h.get? a=lD (S2 C dx)/\
   ∃mA,h.Ns1 dx mA/\(∀f,Vg (fs.lookup f) (mA f))/\Yv mA (fs.map (·.1))
 | .own _=>∃o,h.get? a=lD o
 | .xd fs=>∃mA,h.Ns1 a mA/\∀f,Vg (fs.lookup f) (mA f)
 | .rng lo hi=>∃t u v,h.get? a=lD {cls:= .type "range",data:= .fields #[.int lo t,.int hi u,.int 1 v]}
 | .frz o u=>h.get? a=lD o/\ObjOk H h a u
 | .tbl ps=>h.get? a=lD {cls:= .none,data:= .fields ps}
 | .met f x=>h.get? a=lD (Wy (.ref f) (.ref x))
 | .ext φ=>φ h/\(∃o,h.get? a=lD o)/\∀h1 h2:Heap,φ h1->(∀o,h1.get? a=lD o->h2.get? a=lD o)->φ h2
 | .exw φ=>φ w h/\(∃o,h.get? a=lD o)/\∀h1 h2:Heap,φ w h1->(∀o,h1.get? a=lD o->h2.get? a=lD o)->φ w h2
def V1 (H:Hp) (h:Heap):Prop:=∀a o,H a=lD o->ObjOk P w H h a o
end
section
variable {P:Rf} {w:RB} {H H':Hp} {h h':Heap} {a:QN} {o:HO}
theorem ObjOk.lt (x:ObjOk P w H h a o):a<h.objs.size:=by
 cases o with
 |lst xs=>obtain⟨_,_,_,_,e⟩:=x;exact Heap.lt_size e
 |tup xs=>obtain⟨_,_,_,p⟩:=x;exact p.lt
 |dK Rj=>obtain⟨_,_,_,_,o,_,_,e,_⟩:=x;exact Heap.lt_size e
 |dT Rj=>obtain⟨_,_,_,_,o,_,_,e,_⟩:=x;exact Heap.lt_size e
 |set S n=>obtain⟨o,_,_,_,e,_⟩:=x;exact Heap.lt_size e
 |ins C dx fs=>obtain⟨_,_,_,e,_⟩:=x;exact Heap.lt_size e
 |own y=>obtain⟨_,e⟩:=x;exact Heap.lt_size e
 |xd fs=>obtain⟨_,⟨_,_,_,e,_⟩,_⟩:=x;exact Heap.lt_size e
 |rng lo hi=>obtain⟨_,_,_,e⟩:=x;exact Heap.lt_size e
 |frz b u=>obtain⟨e,_⟩:=x;exact Heap.lt_size e
 |tbl ps=>exact Heap.lt_size (show h.get? a=lD _ from x)
 |met f y=>exact Heap.lt_size (show h.get? a=lD _ from x)
 |ext φ=>obtain⟨_,⟨_,e⟩,_⟩:=x;exact Heap.lt_size e
 |exw φ=>obtain⟨_,⟨_,e⟩,_⟩:=x;exact Heap.lt_size e
theorem Paired.U3:∀{l₁:List α} {l₂:List β},Paired F l₁ l₂->(∀a b,F a b->G a b)->Paired G l₁ l₂
 |_,_,.nil,_=> .nil
 |_,_,.cons r t,f=> .cons (f _ _ r) (Paired.U3 t f)
theorem ObjOk.V7 (x:ObjOk P w H h a o) (k:∀b u,(b=a\/H b=lD (.own a))->h.get? b=lD u->h'.get? b=lD u)
  (G:∀b,H b=lD (.own a)->H' b=lD (.own a)) (F:∀b xs,H b=lD (.tup xs)->H' b=lD (.tup xs)):ObjOk P w H' h' a o:=by
 induction o with
 |lst xs=>obtain⟨z,B,n,r,e⟩:=x;exact⟨z,B,n,r,k _ _ (.inl rfl) e⟩
 |tup xs=>obtain⟨z,B,r,g,e,c⟩:=x;exact⟨z,B,r,g,k _ _ (.inl rfl) e,c⟩
 |dK Rj=>obtain⟨z,y,vs,r,g,i,j,e,c⟩:=x;exact⟨z,y,vs,r,g,i,j,k _ _ (.inl rfl) e,c⟩
 |dT Rj=>obtain⟨z,y,xs,r,g,i,j,e,c⟩:=x;exact⟨z,y,xs,Paired.U3 r fun p q z=>⟨z.1,F _ _ z.2.1,z.2.2⟩,g,i,j,k _ _ (.inl rfl) e,c⟩
 |set S n=>obtain⟨g,i,j,t,e,c⟩:=x;exact⟨g,i,j,t,k _ _ (.inl rfl) e,c⟩
 |ins C dx fs=>obtain⟨d,z,ne,e,A,⟨m,i,j,I,c⟩,r⟩:=x;exact⟨G _ d,z,ne,k _ _ (.inl rfl) e,A,⟨m,i,j,k _ _ (.inr d) I,c⟩,r⟩
 |own y=>obtain⟨g,e⟩:=x;exact⟨g,k _ _ (.inl rfl) e⟩
 |xd fs=>obtain⟨A,⟨m,i,j,e,c⟩,r⟩:=x;exact⟨A,⟨m,i,j,k _ _ (.inl rfl) e,c⟩,r⟩
 |rng lo hi=>obtain⟨t,u,v,e⟩:=x;exact⟨t,u,v,k _ _ (.inl rfl) e⟩
 |frz g u E=>obtain⟨e,q⟩:=x;exact⟨k _ _ (.inl rfl) e,E q⟩
 |tbl ps=>have e:h.get? a=lD {cls:= .none,data:= .fields ps}:=x;show h'.get? a=lD {cls:= .none,data:= .fields ps};exact k a _ (.inl rfl) e
 |met f y=>have e:h.get? a=lD (Wy (.ref f) (.ref y)):=x;show h'.get? a=lD (Wy (.ref f) (.ref y));exact k a _ (.inl rfl) e
 |ext φ=>obtain⟨p,⟨o,e⟩,l⟩:=x;exact⟨l _ _ p fun o q=>k _ _ (.inl rfl) q,⟨o,k _ _ (.inl rfl) e⟩,l⟩
 |exw φ=>obtain⟨p,⟨o,e⟩,l⟩:=x;exact⟨l _ _ p fun o q=>k _ _ (.inl rfl) q,⟨o,k _ _ (.inl rfl) e⟩,l⟩
theorem V1.lt (x:V1 P w H h) (e:H a=lD o):a<h.objs.size:=(x a o e).lt
theorem V1.fresh (x:V1 P w H h) (e:h.objs.size<=a):H a=Ld:=by
 cases q:H a with
 |none=>rfl
 |some u=>exact absurd (Rb (x.lt q) e) (Su _)
theorem V1.kept (x:V1 P w H h) (k:∀b u,h.get? b=lD u->h'.get? b=lD u):V1 P w H h':=fun a o e=>
 (x a o e).V7 (fun b u _ q=>k b u q) (fun _ q=>q) fun _ _ q=>q
theorem V1.laid (x:V1 P w H h) (k:∀b u,h.get? b=lD u->h'.get? b=lD u) (g:h.objs.size<=a) (new:ObjOk P w (bC H a o) h' a o):V1 P w (bC H a o) h':=fun b u e=>by
 have hn:=x.fresh g;by_cases f:b=a
 .subst f;rw[aH] at e;cases e;exact new
 .rw[az f] at e;exact(x b u e).V7 (fun c v _ q=>k c v q) (fun c q=>by rw[az (bW q hn)];exact q) fun c xs q=>by rw[az (bW q hn)];exact q
end
def Rd (H:Hp) (a:QN) (u:HO):Prop:=H a=lD u\/∃o,H a=lD (.frz o u)
theorem Rd.ok (r:Rd H a u) (x:V1 P w H h):ObjOk P w H h a u:=by
 rcases r with r|⟨o,r⟩
 .exact x a u r
 .obtain⟨_,q⟩:=x a _ r;exact q
def Os:Option HO->Prop
 |some (.lst _)=>True
 |some (.dK _)=>True
 |some (.dT _)=>True
 |some (.set _ _)=>True
 |some (.ins _ _ _)=>True
 |some (.ext _)=>True
 |some (.exw _)=>True
 |_=>False
section
variable {P:Rf} {w:RB} {H:Hp} {h h':Heap} {x e:QN} {Z:HO}
theorem V1.write (ok:V1 P w H h) (g:Os (H x)) (o:e=x\/H e=lD (.own x)) (k:∀b u,b≠e->h.get? b=lD u->h'.get? b=lD u) (l:∃u,h'.get? e=lD u)
  (new:ObjOk P w (bC H x Z) h' x Z):V1 P w (bC H x Z) h':=fun b u q=>by
 have f:∀c y,H c=lD (.own y)->c≠x:=fun c y r z=>by subst z;rw[r] at g;exact g
 have m:∀c xs,H c=lD (.tup xs)->c≠x:=fun c xs r z=>by subst z;rw[r] at g;exact g
 by_cases j:b=x
 .subst j;rw[aH] at q;cases q;exact new
 .rw[az j] at q
  by_cases a:b=e
  .have n:H b=lD (.own x):=by
    rcases o with z|z
    .exact absurd (a.trans z) j
    .rw[a];exact z
   rw[q] at n;cases n;obtain⟨v,p⟩:=l;exact⟨v,by rw[a];exact p⟩
  .refine(ok b u q).V7 (fun c v i r=>k c v ?_ r) (fun c r=>by rw[az (f c b r)];exact r) fun c xs r=>by rw[az (m c xs r)];exact r
   rcases i with rfl|i
   .exact a
   .rintro rfl
    rcases o with z|z
    .exact f c b i z
    .rw[i] at z;cases z;exact j rfl
end
structure Un (fs ex:List QN) (H H':Hp) (h h':Heap):Prop where
 keep:∀b o,h.get? b=lD o->H b=Ld->b∉fs->b∉ex->h'.get? b=lD o
 slot:∀b o,h.get? b=lD o->H b=Ld->b∈fs->b∉ex->∃sl,h'.get? b=lD {o with slots:=sl}
 free:∀b o,h.get? b=lD o->H b=Ld->b∉ex->H' b=Ld
 there:∀b o,h.get? b=lD o->b∉ex->∃o',h'.get? b=lD o'
 XU:∀b xs,H b=lD (.tup xs)->H' b=lD (.tup xs)
 Xv:∀b o u,H b=lD (.frz o u)->H' b=lD (.frz o u)
 XX:∀b ps,H b=lD (.tbl ps)->∃more,H' b=lD (.tbl (ps++more))
section
variable {fs fs' ex ex':List QN} {H H1 H2:Hp} {h h1 h2 h':Heap} {a x e:QN} {o:HO}
theorem Un.any (u:Un fs ex H H1 h h1) (q:h.get? b=lD ob) (n:H b=Ld) (f:b∉ex):∃sl,h1.get? b=lD {ob with slots:=sl}:=by
 by_cases g:b∈fs
 .exact u.slot b ob q n g f
 .exact⟨ob.slots,u.keep b ob q n g f⟩
theorem Un.kept (k:∀b u,h.get? b=lD u->h'.get? b=lD u):Un fs ex H H h h':=
 ⟨fun b f q _ _ _=>k b f q,fun b f q _ _ _=>⟨f.slots,k b f q⟩,fun _ _ _ n _=>n,fun b f q _=>⟨f,k b f q⟩,fun _ _ q=>q,fun _ _ _ q=>q,fun _ ps q=>⟨#[],by rw[q];simp⟩⟩
theorem Un.refl:Un fs ex H H h h:=Un.kept fun _ _ q=>q
theorem Un.laid (k:∀b u,h.get? b=lD u->h'.get? b=lD u) (f:h.objs.size<=a) (hn:H a=Ld):Un fs ex H (bC H a o) h h' where
 keep:=fun b u q _ _ _=>k b u q
 slot:=fun b u q _ _ _=>⟨u.slots,k b u q⟩
 free:=fun b u q n _=>by rw[az (Rg (Rb (Heap.lt_size q) f))];exact n
 there:=fun b u q _=>⟨u,k b u q⟩
 XU:=fun b xs q=>by rw[az (bW q hn)];exact q
 Xv:=fun b u xs q=>by rw[az (bW q hn)];exact q
 XX:=fun b ps q=>⟨#[],by rw[az (bW q hn),q];simp⟩
theorem Un.write (g:Os (H x)) (p:e=x\/H e=lD (.own x)) (k:∀b u,b≠e->h.get? b=lD u->h'.get? b=lD u) (i:∃u,h'.get? e=lD u):Un fs ex H (bC H x o) h h':=by
 have j:∀b,H b=Ld->b≠x:=fun b n z=>by subst z;rw[n] at g;exact g
 have l:∀b,H b=Ld->b≠e:=fun b n z=>by
  subst z;rcases p with r|r
  .exact j b n r
  .rw[n] at r;cases r
 have hm:∀b u,H b=lD u->¬Os (lD u)->b≠x:=fun b u q m z=>by subst z;rw[q] at g;exact m g
 refine⟨fun b u q n _ _=>k b u (l b n) q,fun b u q n _ _=>⟨u.slots,k b u (l b n) q⟩,fun b u q n _=>by rw[az (j b n)];exact n,fun b u q _=> ?_,
  fun b xs q=>by rw[az (hm b _ q fun z=>z)];exact q,fun b u xs q=>by rw[az (hm b _ q fun z=>z)];exact q,fun b ps q=>⟨#[],by rw[az (hm b _ q fun z=>z),q];simp⟩⟩
 by_cases f:b=e
 .subst f;exact i
 .exact⟨u,k b u f q⟩
end
def Pi (h:Heap) (H:Hp):List QN:=(Q0 h.objs.size).filter fun a=>(H a).isSome
def uj (h:Heap) (H:Hp):Heap:=PySem.W.hideAll h (Pi h H)
theorem BZ (h:Heap) (H:Hp):(uj h H).objs.size=h.objs.size:=PySem.W.hideAll_size _ _
theorem Ef (e:h.get? b=lD o) (n:H b=Ld):(uj h H).get? b=lD o:=
 PySem.W.hideAll_get _ e fun hm=>by have q:=(SK.mp hm).2;rw[n] at q;simp at q
theorem G6 (e:(uj h H).get? b=lD o):h.get? b=lD o/\H b=Ld:=by
 have a:=PySem.W.of_hideAll (Pi h H) e;refine⟨a,?_⟩;cases q:H b with
 |none=>rfl
 |some x=>have hm:b∈Pi h H:=SK.mpr ⟨Sg.mpr (Heap.lt_size a),by simp[q]⟩;have z:(uj h H).get? b=Ld:=PySem.W.hideAll_none (Pi h H) hm;rw[z] at e;cases e
structure Mod (K:QF) (mg:Str->Option QH) (base:Heap):Prop where
 kin:K.In base
 glob:base.Ns Q4 mg
 blt:∃mb,base.Ns builtinsNs mb/\∀x:Str,x≠ "__name__"->mb x=Se x
 nolimit:base.NoLimit
structure Cx where
 prog:Rf
 w:RB
 K:QF
 mg:Str->Option QH
 base:Heap
 A:Rv
 N:List Str
 s₀:QP
 H₀:Hp
 env:Env
 outer:List Env
 stack:List Env
 ex:List QN
 fn:Str->Bool
 calm:Bool
 pn:List (QN×Obj)
 xe:QH->QP->Prop
def yZ (l:List Env):List QN:=l.filterMap (·.frame)
abbrev Cx.fs (X:Cx):List QN:=yZ X.outer
def Ps (sc:Uy) (x:Str):Prop:=sc.names.lookup x=lD .local\/sc.names.lookup x=lD .cell\/sc.names.lookup x=lD .free
def N9 (sc:Uy) (x:Str):Prop:=sc.names.lookup x=lD .local\/sc.names.lookup x=lD .cell
def PM (env:Env) (h:Heap) (m:Str->Option QH) (x:Str) (u:QH):Prop:=
 (env.kindOf x=lD .local/\m x=lD u)\/((env.kindOf x=lD .cell\/env.kindOf x=lD .free)/\∃c,env.cells.lookup x=lD c/\h.IsCell c (lD u))
structure Cx.Ok (X:Cx):Prop where
 mod:Mod X.K X.mg X.base
 kind:X.env.scope.kind= .function
 glob:X.env.globals=Q4
 blt:X.env.builtins=builtinsNs
 above:X.s₀.heap.objs.size<=X.env.locals
 inj:∀x y c,X.env.cells.lookup x=lD c->X.env.cells.lookup y=lD c->x=y
 has:∀x,(X.env.kindOf x=lD .cell\/X.env.kindOf x=lD .free)->∃c,X.env.cells.lookup x=lD c
 cab:∀x c,X.fn x=QJ->X.env.cells.lookup x=lD c->X.s₀.heap.objs.size<=c
 hd:X.calm=QJ->X.A.handled=Ld
 frames:X.A.frames=lD X.stack
 stk:X.stack=X.outer\/(X.stack=X.env::X.outer/\X.env.frame=lD X.env.locals)
 exf:∀b∈X.ex,b≠X.env.locals/\∀x c,X.env.cells.lookup x=lD c->c≠b
 bs:∀b o,X.base.get? b=lD o->X.s₀.heap.get? b=lD o/\X.H₀ b=Ld
 bsz:X.base.objs.size<=X.s₀.heap.objs.size
 ZY:∀b o,X.base.get? b=lD o->b∉X.ex
 ZW:∀b∈X.ex,b∉X.fs
 W5:X.s₀.heap.FunFrames X.base X.outer
 frf:∀b∈X.fs,X.H₀ b=Ld
structure Inv (X:Cx) (pins:List (QN×Obj)) (σ:List (Option V)) (H:Hp) (s:QP):Prop where
 ok:X.Ok
 os:s.os=X.s₀.os
 bare:AllBare s.gens
 base:Un X.fs X.ex X.H₀ H X.s₀.heap s.heap
 loc:∃m,s.heap.Ns X.env.locals m/\∀(i:Nat) (x:Str) (v:V),X.N[i]? =lD x->σ[i]? =lD (lD v)->Ps X.env.scope x->∃u,RelV v u/\PM X.env s.heap m x u
 cell:∀x c,X.env.cells.lookup x=lD c->∃v,s.heap.IsCell c v
 free:H X.env.locals=Ld
 VY:∀x c,X.env.cells.lookup x=lD c->H c=Ld
 pin:∀p∈X.pn++pins,s.heap.get? p.1=lD p.2/\H p.1=Ld/\p.1≠X.env.locals/\p.1∉X.fs/\∀v,p.2.data≠ .cell v
 Sh:V1 X.prog X.w H s.heap
 len:σ.length=X.N.length
section
variable {X:Cx} {Z:List (QN×Obj)} {Y:List (Option V)} {H H':Hp} {s:QP} {h':Heap}
theorem Cx.Ok.agH (ok:X.Ok) (e:X.base.get? b=lD o):b∉X.fs:=fun a=>by have:=(ok.W5.mem a).1;rw[e] at this;cases this
theorem Inv.bs (I:Inv X Z Y H s):∀b o,X.base.get? b=lD o->s.heap.get? b=lD o/\H b=Ld:=fun b o e=>
 ⟨I.base.keep b o (I.ok.bs b o e).1 (I.ok.bs b o e).2 (I.ok.agH e) (I.ok.ZY b o e),I.base.free b o (I.ok.bs b o e).1 (I.ok.bs b o e).2 (I.ok.ZY b o e)⟩
theorem Inv.bk (I:Inv X Z Y H s):∀b o,X.base.get? b=lD o->s.heap.get? b=lD o:=fun b o e=>(I.bs b o e).1
theorem Inv.mod (I:Inv X Z Y H s):Mod X.K X.mg X.base:=I.ok.mod
theorem Inv.Xy (I:Inv X Z Y H s):X.K.In s.heap:=I.ok.mod.kin.keeps I.bk
theorem Inv.lt (I:Inv X Z Y H s):X.env.locals<s.heap.objs.size:=let⟨_,hn,_⟩:=I.loc;hn.lt
theorem Inv.sz (I:Inv X Z Y H s):X.s₀.heap.objs.size<=s.heap.objs.size:=RA I.ok.above (VH I.lt)
theorem Inv.ahf (I:Inv X Z Y H s) (h:s.heap.objs.size<=a):a∉X.fs:=fun e=>by obtain⟨_,o,b,_⟩:=I.ok.W5.mem e;exact absurd (Rb (Heap.lt_size b) (RA I.sz h)) (Su _)
theorem Inv.cne (I:Inv X Z Y H s):∀x c,X.env.cells.lookup x=lD c->c≠X.env.locals:=fun x c e z=>by obtain⟨v,o,f,g⟩:=I.cell x c e;obtain⟨m,⟨h,i,j,a,b,_⟩,_⟩:=I.loc;rw[z,a] at f;cases f;rw[b] at g;cases g
theorem Inv.W5 (I:Inv X Z Y H s):s.heap.FunFrames X.base X.outer:=by
 have all:∀(l:List Env),(∀b∈yZ l,b∈X.fs)->X.s₀.heap.FunFrames X.base l->s.heap.FunFrames X.base l:=by
  intro l
  induction l with
  |nil=>intro _ _;trivial
  |cons t r i=>intro h n;obtain⟨p,⟨L,o,a,hn,m,q⟩,j⟩:=n;have g:=h L (by unfold yZ;rw[Wr,a];exact QS);obtain⟨u,e⟩:=I.base.slot L o m (I.ok.frf L g) g fun z=>I.ok.ZW L z g;exact⟨p,⟨L,_,a,hn,e,q⟩,i (fun b f=>h b (by unfold yZ;rw[Wr,a];exact QV _ f)) j⟩
 exact all X.outer (fun _ f=>f) I.ok.W5
theorem Inv.stack (I:Inv X Z Y H s):s.heap.FunFrames X.base X.stack:=by
 rcases I.ok.stk with e|⟨e,hf⟩
 .rw[e];exact I.W5
 .rw[e];obtain⟨m,hn,_⟩:=I.loc;refine .cons (by rw[I.ok.kind];decide) hf hn ?_ I.W5;exact Heap.get?_none_of_le (RA I.ok.bsz I.ok.above)
theorem Inv.Yg (I:Inv X Z Y H s):∀b∈yZ X.stack,b∈X.env.locals::X.fs:=fun b a=>by
 rcases I.ok.stk with e|⟨e,hf⟩
 .rw[e] at a;exact QV _ a
 .rw[e] at a;unfold yZ at a;rw[Wr,hf] at a;exact a
theorem Inv.Yd (I:Inv X Z Y H s):∀b∈yZ X.stack,H b=Ld:=fun b a=>by
 rcases Rc.mp (I.Yg b a) with e|a
 .rw[e];exact I.free
 .obtain⟨_,o,f,_⟩:=I.ok.W5.mem a;exact I.base.free b o f (I.ok.frf b a) fun z=>I.ok.ZW b z a
theorem Inv.step {g':Array WU} {t':Nat} {d':aa3} {ch:List QN} (I:Inv X Z Y H s)
  (g:∀b∈ch,(b∈X.ex\/X.s₀.heap.objs.size<=b)/\b≠X.env.locals/\(∀x c,X.env.cells.lookup x=lD c->c≠b)/\∀p∈X.pn++Z,p.1≠b)
  (keep:∀b o,b≠X.env.locals->b∉X.fs->b∉ch->s.heap.get? b=lD o->H b=Ld->h'.get? b=lD o)
  (y:∀b o,b≠X.env.locals->b∈X.fs->b∉ch->s.heap.get? b=lD o->H b=Ld->∃sl,h'.get? b=lD {o with slots:=sl}) (free:∀b o,b∉ch->s.heap.get? b=lD o->H b=Ld->H' b=Ld)
  (A:∀b o,b∉ch->s.heap.get? b=lD o->∃o',h'.get? b=lD o')
  (XU:∀b xs,H b=lD (.tup xs)->H' b=lD (.tup xs)) (T:∀b o u,H b=lD (.frz o u)->H' b=lD (.frz o u)) (U:∀b ps,H b=lD (.tbl ps)->∃more,H' b=lD (.tbl (ps++more)))
  (N:∀m,s.heap.Ns X.env.locals m->h'.Ns X.env.locals m) (Sh:V1 X.prog X.w H' h') (R:AllBare g'):
  Inv X Z Y H' {s with heap:=h',gens:=g',drawn:=d',toks:=t'}:=by
 have E:∀b o,X.s₀.heap.get? b=lD o->b≠X.env.locals:=fun b o e=>Rg (Rb (Heap.lt_size e) I.ok.above);have j:∀b o,X.s₀.heap.get? b=lD o->b∉X.ex->b∉ch:=fun b o e a B=>by
  rcases(g b B).1 with z|z
  .exact a z
  .exact absurd (Rb (Heap.lt_size e) z) (Su _)
 have h:∀x c,X.env.cells.lookup x=lD c->∀v,s.heap.IsCell c v->h'.IsCell c v:=fun x c e v ⟨o,C,J⟩=>by
  have f:c∉ch:=fun z=>(g c z).2.2.1 x c e rfl;by_cases M:c∈X.fs
  .obtain⟨sl,q⟩:=y c o (I.cne x c e) M f C (I.VY x c e);exact⟨_,q,J⟩
  .exact⟨o,keep c o (I.cne x c e) M f C (I.VY x c e),J⟩
 refine⟨I.ok,I.os,R,⟨fun b o e n B a=> ?_,fun b o e n B a=> ?_,fun b o e n a=> ?_,fun b o e a=> ?_,fun b xs e=>XU b xs (I.base.XU b xs e),fun b o xs e=>T b o xs (I.base.Xv b o xs e),fun b ps e=> ?_⟩,?_,fun x c e=> ?_,?_,fun x c e=> ?_,fun p L=> ?_,Sh,I.len⟩
 .exact keep b o (E b o e) B (j b o e a) (I.base.keep b o e n B a) (I.base.free b o e n a)
 .obtain⟨sl,t⟩:=I.base.slot b o e n B a;obtain⟨G,F⟩:=y b _ (E b o e) B (j b o e a) t (I.base.free b o e n a);exact⟨G,F⟩
 .obtain⟨o',t⟩:=I.base.there b o e a;exact free b o' (j b o e a) t (I.base.free b o e n a)
 .obtain⟨o',t⟩:=I.base.there b o e a;exact A b o' (j b o e a) t
 .obtain⟨P,t⟩:=I.base.XX b ps e;obtain⟨O,F⟩:=U b _ t;exact⟨P++O,by rw[F,Array.append_assoc]⟩
 .obtain⟨m,hn,Q⟩:=I.loc
  refine⟨m,N m hn,fun i x v t F S=> ?_⟩;obtain⟨u,r,l⟩:=Q i x v t F S;refine⟨u,r,?_⟩;rcases l with l|⟨k,c,e,z⟩
  .exact .inl l
  .exact .inr ⟨k,c,e,h x c e _ z⟩
 .obtain⟨v,z⟩:=I.cell x c e;exact⟨v,h x c e v z⟩
 .obtain⟨m,⟨o,_,_,C,_⟩,_⟩:=I.loc;exact free _ o (fun z=>(g _ z).2.1 rfl) C I.free
 .obtain⟨v,o,C,J⟩:=I.cell x c e;exact free c o (fun z=>(g c z).2.2.1 x c e rfl) C (I.VY x c e)
 .obtain⟨e,n,ne,K,d⟩:=I.pin p L;have f:p.1∉ch:=fun z=>(g p.1 z).2.2.2 p L rfl;exact⟨keep p.1 p.2 ne K f e n,free p.1 p.2 f e n,ne,K,d⟩
theorem Inv.un {t':Nat} (I:Inv X Z Y H s) (u:Un X.fs [] H H' s.heap h') (Sh:V1 X.prog X.w H' h'):Inv X Z Y H' {s with heap:=h',toks:=t'}:=by obtain⟨m,⟨o,v,y,i,r⟩,_⟩:=id I.loc;obtain⟨p,l⟩:=u.any i I.free (by simp);exact I.step (g':=s.gens) (d':=s.drawn) (ch:=[]) (fun _ z=>nomatch z) (fun b o _ f _ e n=>u.keep b o e n f (by simp)) (fun b o _ f _ e n=>u.slot b o e n f (by simp)) (fun b o _ e n=>u.free b o e n (by simp)) (fun b o _ e=>u.there b o e (by simp)) u.XU u.Xv u.XX (fun t hm=>by obtain⟨q,g,h,a,j⟩:=hm;rw[i] at a;cases a;exact⟨_,g,h,l,j⟩) Sh I.bare
theorem Inv.call {g':Array WU} {t':Nat} {d':aa3} {ch:List QN} (I:Inv X Z Y H s) (u:Un (yZ X.stack) ch H H' s.heap h') (Sh:V1 X.prog X.w H' h') (t:AllBare g')
  (g:∀b∈ch,(b∈X.ex\/X.s₀.heap.objs.size<=b)/\b≠X.env.locals/\(∀x c,X.env.cells.lookup x=lD c->c≠b)/\∀p∈X.pn++Z,p.1≠b):
  Inv X Z Y H' {s with heap:=h',gens:=g',drawn:=d',toks:=t'}:=by
 obtain⟨m,⟨o,C,E,l,r⟩,_⟩:=id I.loc;obtain⟨y,h⟩:=u.any l I.free fun z=>(g _ z).2.1 rfl;exact I.step (ch:=ch) g (fun b o h v a e n=>u.keep b o e n (fun z=>(Rc.mp (I.Yg b z)).elim h v) a) (fun b o _ _ a e n=>u.any e n a) (fun b o a e n=>u.free b o e n a) (fun b o a e=>u.there b o e a) u.XU u.Xv u.XX (fun B hm=>by obtain⟨A,i,j,f,q⟩:=hm;rw[l] at f;cases f;exact⟨_,i,j,h,q⟩) Sh t
theorem Inv.turned {t':Nat} {it:QN} (I:Inv X Z Y H s) (k:∀b o,b≠it->s.heap.get? b=lD o->h'.get? b=lD o) (hn:H it=Ld) (g:it≠X.env.locals)
  (t:it∈X.ex\/X.s₀.heap.objs.size<=it) (l:∀x c,X.env.cells.lookup x=lD c->c≠it) (j:∀p∈X.pn++Z,p.1≠it):Inv X Z Y H {s with heap:=h',toks:=t'}:=by
 have f:∀b u,H b=lD u->b≠it:=fun b u e z=>by rw[z,hn] at e;cases e
 refine I.step (g':=s.gens) (d':=s.drawn) (ch:=[it]) (fun b i=> ?_) (fun b o _ _ a e _=>k b o (fun z=>a (by simp[z])) e) (fun b o _ _ a e _=>⟨o.slots,k b o (fun z=>a (by simp[z])) e⟩) (fun _ _ _ _ n=>n)
  (fun b o a e=>⟨o,k b o (fun z=>a (by simp[z])) e⟩) (fun _ _ e=>e) (fun _ _ _ e=>e) (fun b ps e=>⟨#[],by rw[e];simp⟩) (fun m hm=> ?_) (fun b u e=> ?_) I.bare
 .have e:b=it:=by simpa using i
  subst e;exact⟨t,g,l,j⟩
 .obtain⟨o,w,y,h,r⟩:=hm;exact⟨o,w,y,k _ o (Ne.symm g) h,r⟩
 .refine(I.Sh b u e).V7 (fun c v a q=>k c v ?_ q) (fun _ q=>q) fun _ _ q=>q
  rcases a with z|z
  .rw[z];exact f b u e
  .exact f c _ z
theorem Inv.tok (I:Inv X Z Y H s) (t:Nat):Inv X Z Y H {s with toks:=t}:=I.un Un.refl I.Sh
theorem Inv.kept {t':Nat} (I:Inv X Z Y H s) (k:∀b u,s.heap.get? b=lD u->h'.get? b=lD u):Inv X Z Y H {s with heap:=h',toks:=t'}:=I.un (Un.kept k) (I.Sh.kept k)
theorem Inv.laid {a:QN} {o:HO} {t':Nat} (I:Inv X Z Y H s) (k:∀b u,s.heap.get? b=lD u->h'.get? b=lD u) (e:s.heap.objs.size<=a) (new:ObjOk X.prog X.w (bC H a o) h' a o):
  Inv X Z Y (bC H a o) {s with heap:=h',toks:=t'}:=I.un (Un.laid k e (I.Sh.fresh e)) (I.Sh.laid k e new)
theorem Inv.write {x e:QN} {o:HO} {t':Nat} (I:Inv X Z Y H s) (f:Os (H x)) (g:e=x\/H e=lD (.own x)) (k:∀b u,b≠e->s.heap.get? b=lD u->h'.get? b=lD u) (a:∃u,h'.get? e=lD u)
  (new:ObjOk X.prog X.w (bC H x o) h' x o):Inv X Z Y (bC H x o) {s with heap:=h',toks:=t'}:=I.un (Un.write f g k a) (I.Sh.write f g k a new)
theorem Inv.ZE (I:Inv X Z Y H s) (h:∀p∈ad0,s.heap.get? p.1=lD p.2/\H p.1=Ld/\p.1≠X.env.locals/\p.1∉X.fs/\∀v,p.2.data≠ .cell v):Inv X ad0 Y H s:=
 ⟨I.ok,I.os,I.bare,I.base,I.loc,I.cell,I.free,I.VY,fun p a=>(Rq.mp a).elim (fun z=>I.pin p (R8 _ z)) (h p),I.Sh,I.len⟩
theorem wI {N:List Str} (e:N.Nodup) {i j:Nat} (a:N[i]? =lD x) (b:N[j]? =lD x):i=j:=by obtain⟨l,g⟩:=QM.mp a;obtain⟨h,f⟩:=QM.mp b;exact(List.getElem_inj e).mp (g.trans f.symm)
theorem sH {M:Model} {A:Rv} {E:QH->QP->Prop} {i:Nat} {x:Str} {v:V} {u:QH} {Q:Unit->QP->Prop} (I:Inv X Z Y H s) (hN:X.N.Nodup) (hi:X.N[i]? =lD x) (hx:N9 X.env.scope x) (r:RelV v u)
  (h:∀s',Inv X Z (Y.set i (lD v)) H s'->(∃a,Heap.SameBut a s.heap s'.heap/\(a=X.env.locals\/X.env.cells.lookup x=lD a))->Q () s') (hf:X.fn x=QJ\/X.env.scope.names.lookup x=lD .local:=by first|exact .inl rfl|exact .inr rfl|assumption):wpAny M A (storeName X.env x u) Q E s:=by
 obtain⟨m,hn,hl⟩:=id I.loc;have ahm:(X.env.scope.kind== .class||(X.env.scope.kind== .module&&X.env.locals !=X.env.globals))=QQ:=by rw[I.ok.kind];rfl
 have hiσ:i<Y.length:=by rw[I.len];exact(QM.mp hi).1
 have cne:=I.cne;have tracked:∀{a:QN} {h':Heap},(∃o,s.heap.get? a=lD o/\H a=Ld)->Heap.SameBut a s.heap h'->V1 X.prog X.w H h':=fun{a h'} ha hs b ob e=>by
  obtain⟨_,_,abF⟩:=ha;refine(I.Sh b ob e).V7 (fun c w' hc q=>(hs.2 c ?_).trans q) (fun _ q=>q) fun _ _ q=>q;rintro rfl;rcases hc with rfl|hc
  .rw[abF] at e;cases e
  .rw[abF] at hc;cases hc
 rcases hx with hk|hk
 .refine wpAny_storeName_local hk hn (fun h' hn' hs=> ?_) ahm
  obtain⟨oL,_,_,hoL,_⟩:=id hn;refine h _ ⟨I.ok,I.os,I.bare,⟨fun b o e n hb hx=> ?_,fun b o e n hb hx=> ?_,I.base.free,fun b o e hx=> ?_,I.base.XU,I.base.Xv,I.base.XX⟩,⟨_,hn',fun j y v' e1 e2 e3=> ?_⟩,fun y c e=> ?_,I.free,I.VY,fun p hp=> ?_,tracked ⟨oL,hoL,I.free⟩ hs,by simpa using I.len⟩ ⟨_,hs,.inl rfl⟩
  .exact(hs.2 b (Rg (Rb (Heap.lt_size e) I.ok.above))).trans (I.base.keep b o e n hb hx)
  .obtain⟨sl,e1⟩:=I.base.slot b o e n hb hx;exact⟨sl,(hs.2 b (Rg (Rb (Heap.lt_size e) I.ok.above))).trans e1⟩
  .obtain⟨o',e1⟩:=I.base.there b o e hx;exact⟨o',(hs.2 b (Rg (Rb (Heap.lt_size e) I.ok.above))).trans e1⟩
  .by_cases hj:j=i
   .subst hj;rw[hi] at e1;cases e1;rw[Sv hiσ] at e2;cases e2;exact⟨u,r,.inl ⟨hk,by simp⟩⟩
   .rw[R9 (Ne.symm hj)] at e2
    obtain⟨u',r',q⟩:=hl j y v' e1 e2 e3;refine⟨u',r',?_⟩;rcases q with⟨k,e⟩|⟨k,c,e,z⟩
    .refine .inl ⟨k,?_⟩;have:y≠x:=fun e=>hj (wI hN e1 (e▸hi));simp[this,e]
    .exact .inr ⟨k,c,e,z.sameBut hs (cne y c e)⟩
  .obtain⟨w',z⟩:=I.cell y c e;exact⟨w',z.sameBut hs (cne y c e)⟩
  .obtain⟨e,n,ne,nf,d⟩:=I.pin p hp;exact⟨(hs.2 p.1 ne).trans e,n,ne,nf,d⟩
 .have hfn:X.fn x=QJ:=by
   rcases hf with z|z
   .exact z
   .rw[z] at hk;cases hk
  obtain⟨c,hc⟩:=I.ok.has x (.inl hk);obtain⟨w',z⟩:=I.cell x c hc;refine wpAny_storeName_cell I.ok.kind hk hc z (fun h' YS hs=> ?_);obtain⟨oc,hoc,aho⟩:=id z;refine h {s with heap:=h'} ⟨I.ok,I.os,I.bare,⟨fun b o e n hb hx=> ?_,fun b o e n hb hx=> ?_,I.base.free,fun b o e hx=> ?_,I.base.XU,I.base.Xv,I.base.XX⟩,⟨m,hn.sameBut hs (Ne.symm (cne x c hc)),fun j y v' e1 e2 e3=> ?_⟩,fun y c' e=> ?_,I.free,I.VY,fun p hp=> ?_,tracked ⟨oc,hoc,I.VY x c hc⟩ hs,by simpa using I.len⟩ ⟨c,hs,.inr hc⟩
  .exact(hs.2 b (Rg (Rb (Heap.lt_size e) (I.ok.cab x c hfn hc)))).trans (I.base.keep b o e n hb hx)
  .obtain⟨sl,e1⟩:=I.base.slot b o e n hb hx;exact⟨sl,(hs.2 b (Rg (Rb (Heap.lt_size e) (I.ok.cab x c hfn hc)))).trans e1⟩
  .obtain⟨o',e1⟩:=I.base.there b o e hx;exact⟨o',(hs.2 b (Rg (Rb (Heap.lt_size e) (I.ok.cab x c hfn hc)))).trans e1⟩
  .by_cases hj:j=i
   .subst hj;rw[hi] at e1;cases e1;rw[Sv hiσ] at e2;cases e2;exact⟨u,r,.inr ⟨.inl hk,c,hc,YS⟩⟩
   .rw[R9 (Ne.symm hj)] at e2
    obtain⟨u',r',q⟩:=hl j y v' e1 e2 e3;refine⟨u',r',?_⟩;rcases q with q|⟨k,c',e,z'⟩
    .exact .inl q
    .refine .inr ⟨k,c',e,z'.sameBut hs ?_⟩;rintro rfl;exact hj (wI hN e1 (I.ok.inj _ _ _ e hc▸hi))
  .by_cases hcc:c'=c
   .subst hcc;exact⟨_,YS⟩
   .obtain⟨w2,z2⟩:=I.cell y c' e;exact⟨w2,z2.sameBut hs hcc⟩
  .obtain⟨e,n,ne,nf,d⟩:=I.pin p hp;refine⟨(hs.2 p.1 ?_).trans e,n,ne,nf,d⟩;intro q;rw[q,hoc] at e;have q':oc=p.2:=Ra e;exact d w' (by rw[<-q'];exact aho)
theorem pN {i:Nat} {v:V} {u:QH} {Q:Unit->QP->Prop} (I:Inv X Z Y H s) (hN:X.N.Nodup) (hi:X.N[i]? =lD x) (hx:N9 X.env.scope x) (r:RelV v u)
  (h:∀s',Inv X Z (Y.set i (lD v)) H s'->Q () s') (hf:X.fn x=QJ\/X.env.scope.names.lookup x=lD .local:=by first|exact .inl rfl|exact .inr rfl|assumption):wpAny M A (storeName X.env x u) Q E s:=
 sH I hN hi hx r (fun s' I' _=>h s' I') hf
theorem Inv.abS {a:QP} {ch:List QN} (I:Inv X Z Y H s) (h:a.os=s.os) (u:Un (yZ X.stack) ch H H' s.heap a.heap) (Sh:V1 X.prog X.w H' a.heap) (i:AllBare a.gens)
  (f:∀b∈ch,(b∈X.ex\/X.s₀.heap.objs.size<=b)/\b≠X.env.locals/\(∀x c,X.env.cells.lookup x=lD c->c≠b)/\∀p∈X.pn++Z,p.1≠b):Inv X Z Y H' a:=by
 obtain⟨h',g',d',t',g⟩:=a;have e:g=s.os:=h;subst e;exact I.call (g':=g') (t':=t') (d':=d') u Sh i f
end
abbrev XK:=QH->Option QN->Hp->Prop
abbrev St:=List (Option V)
abbrev VK:=V->Hp->Prop
abbrev TE:=St->Hp->VK->Prop
abbrev TT:=St->Hp->(Bool->Hp->Prop)->Prop
abbrev TA:=St->Hp->(List V->Hp->Prop)->Prop
structure Ends where
 nx:St->Hp->Prop
 rt:VK
 bk:St->Hp->Prop:=fun _ _=>False
 ct:St->Hp->Prop:=fun _ _=>False
abbrev TS:=Ends->St->Hp->Prop
def EP (X:Cx) (a:List (QN×Obj)) (b:St) (Q:VK) (u:QH) (e:QP):Prop:=∃v H',Inv X a b H' e/\RelV v u/\Q v H'
def TP (X:Cx) (a:List (QN×Obj)) (e:St) (Q:Bool->Hp->Prop) (b:Bool) (f:QP):Prop:=∃H',Inv X a e H' f/\Q b H'
def AP (X:Cx) (a:List (QN×Obj)) (b:St) (Q:List V->Hp->Prop) (us:List QH) (e:QP):Prop:=∃vs H',Inv X a b H' e/\Vals vs us/\Q vs H'
def SP (X:Cx) (a:List (QN×Obj)) (D:Ends) (f:Flow) (b:QP):Prop:=
 match f with
 | .next=>∃σ' H',Inv X a σ' H' b/\D.nx σ' H'
 | .brk=>∃σ' H',Inv X a σ' H' b/\D.bk σ' H'
 | .cont=>∃σ' H',Inv X a σ' H' b/\D.ct σ' H'
 | .ret u=>∃v σ' H',Inv X a σ' H' b/\RelV v u/\D.rt v H'
def PE (X:Cx) (e:RM) (t:TE):Prop:=
 ∀(a:List (QN×Obj)) (s:QP) (b:St) (H:Hp) (Q:VK),Inv X a b H s->t b H Q->wpAny (model X.prog X.w) X.A (eval e X.env) (EP X a b Q) X.xe s
def PT (X:Cx) (e:RM) (t:TT):Prop:=
 ∀(a:List (QN×Obj)) (s:QP) (b:St) (H:Hp) (Q:Bool->Hp->Prop),Inv X a b H s->t b H Q->wpAny (model X.prog X.w) X.A (isTrue e X.env (eval e X.env)) (TP X a b Q) X.xe s
def PW (X:Cx) (e:RM) (t:TT):Prop:=
 ∀(b:Sem QH) (a:List (QN×Obj)) (s:QP) (f:St) (H:Hp) (Q:Bool->Hp->Prop),Inv X a f H s->t f H Q->wpAny (model X.prog X.w) X.A (isTrue e X.env b) (TP X a f Q) X.xe s
theorem PW.pt (h:PW X e t):PT X e t:=h _
def PA (X:Cx) (es:List RM) (t:TA):Prop:=
 ∀(e:Pos) (a:List (QN×Obj)) (s:QP) (b:St) (H:Hp) (Q:List V->Hp->Prop),Inv X a b H s->t b H Q->wpAny (model X.prog X.w) X.A (spliced (backTo e (Rh es X.env))) (AP X a b Q) X.xe s
def PS (X:Cx) (st:Th) (t:TS):Prop:=
 ∀(a:List (QN×Obj)) (s:QP) (b:St) (H:Hp) (D:Ends),Inv X a b H s->t D b H->wpAny (model X.prog X.w) X.A (exec st X.env) (SP X a D) X.xe s
def Xa (X:Cx) (st:List Th) (t:TS):Prop:=
 ∀(a:List (QN×Obj)) (s:QP) (b:St) (H:Hp) (D:Ends),Inv X a b H s->t D b H->wpAny (model X.prog X.w) X.A (execs st X.env) (SP X a D) X.xe s
theorem cA {α:Type} {t:Sem α} {Q b:α->QP->Prop} {M:Model} {A:Rv} {E:QH->QP->Prop} {s:QP} (h:wpAny M A t Q E s) (e:∀a s,Q a s->b a s):wpAny M A t b E s:=wpAny_mono h e fun _ _ x=>x
section
variable {X:Cx}
def zh (i:Nat):TE:=fun a H Q=>∃v,a[i]? =lD (lD v)/\Q v H
def tC (v:V):TE:=fun _ H Q=>Q v H
theorem MQ (q:X.N[i]? =lD x) (o:Ps X.env.scope x) (hd:(x==("__debug__":Str))=QQ:=by decide) (t:(x==("__classdict__":Str))=QQ:=by decide):PE X (.Name x pos) (zh i):=by
 intro f s n H Q I h;obtain⟨v,e,h⟩:=h;obtain⟨m,hn,p⟩:=I.loc;obtain⟨u,r,l⟩:=p i x v q e o;have b:EP X f n Q u s:=⟨v,H,I,r,h⟩;rcases l with⟨a,hm⟩|⟨a,c,g,j⟩
 .exact abV (aa4 I.ok.kind a hn hm b) hd
 .rcases a with a|a
  .exact abV (abx I.ok.kind a g j b) hd
  .exact abV (wpAny_loadName_free I.ok.kind a g j b t) hd
theorem bv {i j pos}:PE X (.Constant (.int i) j pos) (tC (.int i)):=fun _ _ _ H _ I h=>abW ⟨.int i,H,I.tok _,⟨_,rfl⟩,h⟩
theorem JO {b j pos}:PE X (.Constant (.bool b) j pos) (tC (.bl b)):=fun _ _ _ H _ I h=>Constant_bool ⟨.bl b,H,I,rfl,h⟩
theorem lC {j pos}:PE X (.Constant .none j pos) (tC .TN):=fun _ _ _ H _ I h=>Constant_none ⟨.TN,H,I,rfl,h⟩
theorem fU {x j pos}:PE X (.Constant (.str x) j pos) (tC (.str x)):=fun _ _ _ H _ I h=>Calls.Constant_str ⟨.str x,H,I.tok _,⟨_,rfl⟩,h⟩
def Gl (X:Cx) (x:Str):Prop:=X.env.kindOf x=lD .globalImplicit
theorem mJ (I:Inv X pins σ H s) (a:Gl X x) (hm:X.mg x=lD u) (h:Q u s)
  (hd:(x==("__debug__":Str))=QQ:=by decide):wpAny (model X.prog X.w) X.A (eval (.Name x pos) X.env) Q E s:=
 Calls.Name_function_global I.ok.kind a (Calls.loadGlobal_global (by rw[I.ok.glob];exact I.mod.glob.keeps I.bk) hm h) hd
theorem lB (I:Inv X pins σ H s) (b:Gl X x) (hm:X.mg x=Ld) (a:Se x=lD u) (h:Q u s)
  (hn:x≠ "__name__":=by decide) (hd:(x==("__debug__":Str))=QQ:=by decide):wpAny (model X.prog X.w) X.A (eval (.Name x pos) X.env) Q E s:=by
 obtain⟨g,f,e⟩:=I.mod.blt;exact Calls.Name_function_global I.ok.kind b (Calls.loadGlobal_builtin (by rw[I.ok.glob];exact I.mod.glob.keeps I.bk) hm (by rw[I.ok.blt];exact f.keeps I.bk) ((e x hn).trans a) h) hd
theorem ve {x:Str} {v:V} {u:QH} {a:Pos} (b:Gl X x) (hm:X.mg x=lD u) (r:RelV v u) (hd:(x==("__debug__":Str))=QQ:=by decide):PE X (.Name x a) (tC v):=
 fun _ _ _ H _ I h=>mJ I b hm ⟨v,H,I,r,h⟩ hd
variable {a b:RM} {Y Z:TE} {pos:Pos}
def PC (X:Cx) (i:CmpOp) (a b:RM) (t:TE):Prop:=
 ∀(e:List (QN×Obj)) (s:QP) (h:St) (H:Hp) (Q:VK),Inv X e h H s->t h H Q->
  wpAny (model X.prog X.w) X.A (eval a X.env) (fun v g=>wpAny (model X.prog X.w) X.A (eval b X.env) (fun u f=>wpAny (model X.prog X.w) X.A (SH i v u) (EP X e h Q) X.xe f) X.xe g) X.xe s
def tB (t:TE):TT:=fun e H Q=>t e H fun x f=>∃c,x= .bl c/\Q c f
theorem yo (h:PC X op a b t) (f:behindInMarks op b=QQ:=by first|exact aek _ (by decide) (by decide)|rfl):PT X (.Compare a [op] [b] pos) (tB t):=by intro e s g H Q I l;refine aaQ (cA (h e s g H _ I l) fun v w f=>cA f fun u r m=>cA m fun c p ⟨x,o,n,i,j⟩=> ?_) f;obtain⟨d,rfl,q⟩:=j;cases i;exact SR ⟨o,n,q⟩
theorem FC {e:RM} {t:TE} (h:PE X e t) (m:∀whole,isTrue e X.env whole=(do let v<-whole;standAt e.pos;holding [v] (truthy v)):=by intro _;rfl):PT X e (tB t):=by intro f s g H Q I l;refine isTrue_plain (cA (h f s g H _ I l) fun v p ⟨x,o,n,i,j⟩=> ?_) (m _);obtain⟨d,rfl,q⟩:=j;cases i;exact SR ⟨o,n,q⟩
variable {T S:TT} {U:List RM}
def Lq (t u:TT):TT:=fun e H Q=>t e H fun c f=>if c=QJ then u e f Q else Q QQ f
def Qm (t u:TT):TT:=fun e H Q=>t e H fun c f=>if c=QJ then Q QJ f else u e f Q
def Nk (t:TT):TT:=fun e H Q=>t e H fun c f=>Q (!c) f
theorem vD (ha:PT X a T):PW X (.BoolOp .And [a] pos) T:=by
 intro i f s g H Q I h;refine isTrue_and (cA (ha f s g H Q I h) fun c j e=> ?_);cases c with
 |true=>exact isTrue_and_nil e
 |false=>exact e
theorem ME (ha:PT X a T):PW X (.BoolOp .Or [a] pos) T:=by
 intro i f s g H Q I h;refine isTrue_or (cA (ha f s g H Q I h) fun c j e=> ?_);cases c with
 |false=>exact isTrue_or_nil e
 |true=>exact e
theorem zu (ha:PT X a T) (n:PW X (.BoolOp .And (b::U) pos) S):PW X (.BoolOp .And (a::b::U) pos) (Lq T S):=by
 intro l e s f H Q I h;refine isTrue_and (cA (ha e s f H _ I h) fun c m ⟨j,i,g⟩=> ?_);cases c with
 |true=>exact n l e m f j Q i g
 |false=>exact⟨j,i,g⟩
theorem OG (ha:PT X a T) (n:PW X (.BoolOp .Or (b::U) pos) S):PW X (.BoolOp .Or (a::b::U) pos) (Qm T S):=by
 intro l e s f H Q I h;refine isTrue_or (cA (ha e s f H _ I h) fun c m ⟨j,i,g⟩=> ?_);cases c with
 |true=>exact⟨j,i,g⟩
 |false=>exact n l e m f j Q i g
theorem L5 (ha:PT X a T):PT X (.UnaryOp .Not a pos) (Nk T):=by intro e s f H Q I h;exact isTrue_not (ha e s f H (fun c g=>Q (!c) g) I h)
def FV (Y Z:TE):TE:=fun e H Q=>Y e H fun x f=>∃c,x= .bl c/\if c=QJ then Z e f Q else Q (.bl QQ) f
theorem EZ {op} (h:PE X a t):PE X (.BoolOp op [a] pos) t:=fun e s f H Q I g=>BoolOp_one (h e s f H Q I g)
theorem DW (ha:PE X a Y) (n:PE X (.BoolOp .And (b::U) pos) Z):PE X (.BoolOp .And (a::b::U) pos) (FV Y Z):=by
 intro e s g H Q I h;refine BoolOp_and (cA (ha e s g H _ I h) fun v l ⟨x,j,i,m,f⟩=> ?_);obtain⟨c,rfl,f⟩:=f;cases m;refine SR ?_;cases c with
 |true=>exact n e l g j Q i f
 |false=>exact⟨.bl QQ,j,i,rfl,f⟩
def Pj (t:TT) (Y Z:TE):TE:=fun e H Q=>t e H fun c f=>if c=QJ then Y e f Q else Z e f Q
theorem wL (m:PT X c T) (ha:PE X a Y) (n:PE X b Z):PE X (.IfExp c a b pos) (Pj T Y Z):=by
 intro e s f H Q I h;refine wpAny_IfExp (cA (m e s f H _ I h) fun d g ⟨l,j,i⟩=> ?_);cases d with
 |true=>exact ha e g f l Q j i
 |false=>exact n e g f l Q j i
end
def Ve (K:QF) (H:Hp) (a:QN) (xs:List V):Prop:=
 Rd H a (.lst xs)\/
  ∃(o:Obj) (b:Array QH) (n:Nat),K.lookup a=lD o/\o.cls= .type "list"/\o.dict=Ld/\o.data= .seq b n/\b.size<=QX/\Vals xs b.toList
def Vn (K:QF) (H:Hp) (a:QN) (xs:List V):Prop:=
 Rd H a (.tup xs)\/
  ∃(o:Obj) (b:Array QH) (n:Nat),K.lookup a=lD o/\(o.cls= .type "tuple"/\o.dict=Ld)/\o.data= .seq b n/\b.size<=QX/\Vals xs b.toList
def Pz:QH->Option V
 | .none=>lD .TN
 | .bool b=>lD (.bl b)
 | .int i _=>lD (.int i)
 | .str x _=>lD (.str x)
 | .bytes b _=>lD (.byt b)
 | .float b _=>lD (.flt b)
 | .ref a=>lD (.ref a)
 | .type n=>lD (.ty n)
 |_=>Ld
theorem RelV.abs (r:RelV x u):Pz u=lD x:=by
 cases x with
 |TN=>cases r;rfl
 |bl _=>cases r;rfl
 |int _=>obtain⟨t,rfl⟩:=r;rfl
 |str _=>obtain⟨t,rfl⟩:=r;rfl
 |byt _=>obtain⟨t,rfl⟩:=r;rfl
 |flt _=>obtain⟨t,rfl⟩:=r;rfl
 |ref _=>cases r;rfl
 |ty _=>cases r;rfl
theorem RelV.inj (r:RelV x u) (q:RelV y u):x=y:=Ra (r.abs.symm.trans q.abs)
theorem Vals.inj:∀{xs a:List V} {us:List QH},Vals xs us->Vals a us->xs=a
 |_,_,_,.nil,.nil=>rfl
 |_,_,_,.cons r t,.cons r' t'=>by rw[r.inj r',Vals.inj t t']
section
variable {X:Cx} {Z:List (QN×Obj)} {Y:St} {H:Hp} {s:QP} {a:QN} {xs U:List V}
theorem Ve.of {K:QF} (h:H a=lD (.lst xs)):Ve K H a xs:= .inl (.inl h)
theorem Vn.of {K:QF} (h:H a=lD (.tup xs)):Vn K H a xs:= .inl (.inl h)
theorem Inv.list (I:Inv X Z Y H s) (h:Ve X.K H a xs):∃RG:List QH,Vals xs RG/\PlainL s.heap a RG.toArray/\xs.length<=QX:=by
 rcases h with h|⟨o,RG,n,hk,hc,hd,hs,hz,r⟩
 .obtain⟨z,RG,n,r,e⟩:=h.ok I.Sh;exact⟨RG,r,⟨_,n,e,rfl,rfl,rfl⟩,z⟩
 .refine⟨RG.toList,r,⟨o,n,I.Xy a o hk,hc,hd,by simpa using hs⟩,?_⟩;have e:=r.length;simp only[RN] at e;omega
theorem Inv.tuple (I:Inv X Z Y H s) (h:Vn X.K H a xs):∃RG:List QH,Vals xs RG/\IsTup s.heap a RG.toArray/\xs.length<=QX:=by
 rcases h with h|⟨o,RG,n,hk,hc,hs,hz,r⟩
 .obtain⟨z,RG,r,p⟩:=h.ok I.Sh;exact⟨RG,r,p.tup,z⟩
 .refine⟨RG.toList,r,⟨o,I.Xy a o hk,hc.1,n,by simpa using hs⟩,?_⟩;have e:=r.length;simp only[RN] at e;omega
theorem Inv.aca (I:Inv X Z Y H s) (h:Vn X.K H a xs):∃RG:List QH,Vals xs RG/\Xj s.heap a RG.toArray/\xs.length<=QX:=by
 rcases h with h|⟨o,RG,n,hk,hc,hs,hz,r⟩
 .obtain⟨z,RG,r,p⟩:=h.ok I.Sh;exact⟨RG,r,p,z⟩
 .refine⟨RG.toList,r,⟨o,I.Xy a o hk,⟨hc.1,n,by simpa using hs⟩,hc.2⟩,?_⟩;have e:=r.length;simp only[RN] at e;omega
theorem Inv.aaP (I:Inv X Z Y H s) (h:Ve X.K H a xs) (h':Ve X.K H a U):xs=U:=by
 obtain⟨j,r,⟨o,n,e,_,_,d⟩,_⟩:=I.list h;obtain⟨i,g,⟨l,m,b,_,_,f⟩,_⟩:=I.list h';rw[e] at b;cases b;rw[d] at f;injection f with d1 _;have:j=i:=by simpa using congrArg abX d1
 subst this;exact r.inj g
theorem Inv.ZM (I:Inv X Z Y H s) (h:Vn X.K H a xs) (h':Vn X.K H a U):xs=U:=by
 obtain⟨j,r,⟨o,e,_,n,d⟩,_⟩:=I.tuple h;obtain⟨i,g,⟨l,b,_,m,f⟩,_⟩:=I.tuple h';rw[e] at b;cases b;rw[d] at f;injection f with d1 _;have:j=i:=by simpa using congrArg abX d1
 subst this;exact r.inj g
end
abbrev Cx.Xi (X:Cx) (E:QH->QP->Prop):Cx:={X with xe:=E}
abbrev Cx.nox (X:Cx):Cx:=X.Xi fun _ _=>False
theorem Cx.Ok.Xi {X:Cx} (ok:X.Ok) (E:QH->QP->Prop):(X.Xi E).Ok:=
 ⟨ok.mod,ok.kind,ok.glob,ok.blt,ok.above,ok.inj,ok.has,ok.cab,ok.hd,ok.frames,ok.stk,ok.exf,ok.bs,ok.bsz,ok.ZY,ok.ZW,ok.W5,ok.frf⟩
theorem Cx.Ok.Vr {X:Cx} (ok:(X.Xi E).Ok):X.Ok:=
 ⟨ok.mod,ok.kind,ok.glob,ok.blt,ok.above,ok.inj,ok.has,ok.cab,ok.hd,ok.frames,ok.stk,ok.exf,ok.bs,ok.bsz,ok.ZY,ok.ZW,ok.W5,ok.frf⟩
section
variable {X:Cx} {Z:List (QN×Obj)} {Y:St} {H:Hp} {s:QP} {E:QH->QP->Prop}
theorem Inv.Xi (I:Inv X Z Y H s) (E:QH->QP->Prop):Inv (X.Xi E) Z Y H s:=⟨I.ok.Xi E,I.os,I.bare,I.base,I.loc,I.cell,I.free,I.VY,I.pin,I.Sh,I.len⟩
theorem Inv.Vr (I:Inv (X.Xi E) Z Y H s):Inv X Z Y H s:=⟨I.ok.Vr,I.os,I.bare,I.base,I.loc,I.cell,I.free,I.VY,I.pin,I.Sh,I.len⟩
theorem SP.Vr (h:SP (X.Xi E) Z D f s'):SP X Z D f s':=by
 cases f with
 |next=>obtain⟨a,b,I,q⟩:=h;exact⟨a,b,I.Vr,q⟩
 |brk=>obtain⟨a,b,I,q⟩:=h;exact⟨a,b,I.Vr,q⟩
 |cont=>obtain⟨a,b,I,q⟩:=h;exact⟨a,b,I.Vr,q⟩
 |ret u=>obtain⟨v,a,b,I,r,q⟩:=h;exact⟨v,a,b,I.Vr,r,q⟩
theorem Xa.nox {st:List Th} (h:Xa X.nox st t):Xa X st t:=fun Z s Y H D I a=>
 wpAny_mono (h Z s Y H D (I.Xi _) a) (fun _ _ q=>q.Vr) fun _ _ z=>False.elim z
end
section
variable {X:Cx} {st:Th} {Y:List Th} {t u:TS} {e:RM} {Z:TE} {pos:Pos}
def GM:TS:=fun D a H=>D.nx a H
def HU (t u:TS):TS:=fun D a H=>t {D with nx:=u D} a H
theorem je:Xa X [] GM:=fun _ _ a H _ I h=>Ws ⟨a,H,I,h⟩
theorem aj (l:PS X st t) (j:Xa X Y u):Xa X (st::Y) (HU t u):=by
 intro a s g H D I h;refine adg (cA (l a s g H {D with nx:=u D} I h) fun f i q=> ?_);cases f with
 |next=>obtain⟨b,n,m,q⟩:=q;exact j a i b n D m q
 |ret v=>exact q
 |brk=>exact q
 |cont=>exact q
theorem aN (g:PS X st t):Xa X [st] t:=by
 intro a s b H D I h;refine adg (cA (g a s b H D I h) fun f i q=> ?_);cases f with
 |next=>exact Ws q
 |ret v=>exact q
 |brk=>exact q
 |cont=>exact q
theorem Inv.quiet {a:List (QN×Obj)} {b:St} {H:Hp} {s:QP} (I:Inv X a b H s):interactive X.env=QQ:=by simp[interactive,I.ok.kind]
def Bx (Z:TE):TS:=fun D a H=>Z a H fun _ b=>D.nx a b
theorem jf (i:PE X e Z) (g:Sy e Ld pos.line X.env=pure QQ:=by rfl):PS X (.Expr e pos) (Bx Z):=by intro a s b H D I h;exact wpAny_Expr_any (cA (i a s b H _ I h) fun v m ⟨x,l,j,n,f⟩=>⟨b,l,j,f⟩) I.quiet g
def Mr (Z:TE):TS:=fun D a H=>Z a H D.rt
theorem et (i:PE X e Z):PS X (.Return (lD e) pos) (Mr Z):=by intro a s b H D I h;exact wpAny_Return_some (cA (i a s b H _ I h) fun v m ⟨x,l,j,f,g⟩=>⟨x,b,l,j,f,g⟩)
def KJ:TS:=fun D _ H=>D.rt .TN H
theorem Jc:PS X (.Return Ld pos) KJ:=fun _ _ a H _ I h=>wpAny_Return_none ⟨.TN,a,H,I,rfl,h⟩
def Mz (c:TT) (t u:TS):TS:=fun D a H=>c a H fun b f=>if b=QJ then t D a f else u D a f
theorem qV (n:PT X c tc) (ha:Xa X a t) (o:Xa X b u):PS X (.If c a b pos) (Mz tc t u):=by
 intro f s g H D I h;refine wpAny_If (cA (n f s g H _ I h) fun d i ⟨m,l,j⟩=> ?_);cases d with
 |true=>exact ha f i g m D l j
 |false=>exact o f i g m D l j
end
abbrev TG:=V->St->Hp->(St->Hp->Prop)->Prop
abbrev Lf:=List V->St->Hp->(St->Hp->Prop)->Prop
def PG (X:Cx) (a:RM) (t:TG):Prop:=
 ∀(b:List (QN×Obj)) (s:QP) (e:St) (H:Hp) (v:V) (u:QH) (Q:St->Hp->Prop),Inv X b e H s->RelV v u->t v e H Q->
  wpAny (model X.prog X.w) X.A (assign a X.env u) (fun _ f=>∃σ' H',Inv X b σ' H' f/\Q σ' H') X.xe s
def O9 (X:Cx) (f:List RM) (t:Lf):Prop:=
 ∀(a:List (QN×Obj)) (s:QP) (b:St) (H:Hp) (vs:List V) (e:List QH) (Q:St->Hp->Prop),Inv X a b H s->Vals vs e->t vs b H Q->
  wpAny (model X.prog X.w) X.A (assignInOrder ((assignEach f X.env).map (·.2)) e) (fun _ g=>∃σ' H',Inv X a σ' H' g/\Q σ' H') X.xe s
abbrev P1:=V->V->Hp->VK->Prop
def PN (X:Cx) (e:Operator) (t:P1):Prop:=
 ∀(a:List (QN×Obj)) (s:QP) (b:St) (H:Hp) (x y:V) (v u:QH) (Q:VK),Inv X a b H s->RelV x v->RelV y u->t x y H Q->
  wpAny (model X.prog X.w) X.A (inplaceOp e v u) (EP X a b Q) X.xe s
section
variable {X:Cx} {pos:Pos}
def vX (i:Nat):TG:=fun v a H Q=>Q (a.set i (lD v)) H
theorem bM (hN:X.N.Nodup) (hi:X.N[i]? =lD x) (hx:N9 X.env.scope x) (hf:X.fn x=QJ\/X.env.scope.names.lookup x=lD .local:=by first|exact .inl rfl|exact .inr rfl|assumption):PG X (.Name x pos) (vX i):=by intro pins s σ H v u Q I r h;exact acG (pN I hN hi hx r (fun s' I'=>⟨_,H,I',h⟩) hf)
def KR:Lf:=fun vs a H Q=>vs=[]/\Q a H
def DF (t:TG) (u:Lf):Lf:=fun vs b H Q=>∃v r,vs=v::r/\t v b H fun a e=>u r a e Q
theorem pd:O9 X [] KR:=by intro a s b H vs f Q I r h;obtain⟨e,h⟩:=h;subst e;cases r;exact assignInOrder_nil ⟨b,H,I,h⟩
theorem g7 (n:PG X e t) (m:O9 X es u)
  (l:(assignEach (e::es) X.env).map (·.2)=assign e X.env::(assignEach es X.env).map (·.2):=by rfl):O9 X (e::es) (DF t u):=by
 intro a s f H vs y Q I r h;obtain⟨v,w,o,h⟩:=h;subst o;cases r with
 |cons r i=>rw[l];refine assignInOrder_cons (cA (n a s f H _ _ _ I r h) fun _ g ⟨b,q,p,j⟩=> ?_);exact m a g b q _ _ Q p i j
def Ni (K:QF) (n:Nat) (t:Lf):TG:=fun v b H Q=>∃a xs,v= .ref a/\Vn K H a xs/\xs.length=n/\t xs b H Q
theorem tU (q:X.calm=QJ) (h:O9 X es t)
  (hn:(assignEach es X.env).length=n:=by rfl) (ef:(assignEach es X.env).findIdx? (·.1)=Ld:=by rfl):PG X (.Tuple es k pos) (Ni X.K n t):=by
 intro f s i H v u Q I r g;obtain⟨a,xs,w,m,p,g⟩:=g;subst w;cases r;obtain⟨C,rv,l,A⟩:=I.tuple m;refine assign_Tuple_tuple (I.ok.hd q) l (by simp[hn,<-p,rv.length]) ef fun B j=> ?_;have y:=I.kept (t':=s.toks) fun b o e=>j b o (Rg (Heap.lt_size e)) e;exact h f _ i H xs _ Q y (by simpa using rv) g
def EL (b:TE) (g:TG):TS:=fun D a H=>b a H fun x e=>g x a e D.nx
theorem KQ (o:PE X e te) (n:PG X tg g) (m:swapsWithSole [tg] e pos.line X.env=pure QQ:=by rfl) (l:swappedStores [tg] e X.env=pure Ld:=by rfl)
  (p:(assignEach [tg] X.env).map (·.2)=[assign tg X.env]:=by rfl):PS X (.Assign [tg] e pos) (EL te g):=by
 intro a s b H D I h;refine wpAny_Assign_stores (cA (o a s b H _ I h) fun v f ⟨x,t,r,i,j⟩=> ?_) m l;rw[p];exact cA (n a f b t x v _ r i j) fun _ u q=>q
theorem dB {i:Nat} {x:Str} {e:RM} {te:TE} {pos':Pos} (hN:X.N.Nodup) (hi:X.N[i]? =lD x) (hx:N9 X.env.scope x) (he:PE X e te) (hs:Sy e (lD (.Name x pos')) pos.line X.env=pure QQ:=by rfl) (hf:X.fn x=QJ\/X.env.scope.names.lookup x=lD .local:=by first|exact .inl rfl|exact .inr rfl|assumption):
  PS X (.Assign [.Name x pos'] e pos) (EL te (vX i)):=by
 intro pins s σ H D I h;refine wpAny_Assign_Name (cA (he pins s σ H _ I h) fun v s1 ⟨y,H1,I1,r1,q1⟩=> ?_) hs;exact pN I1 hN hi hx r1 (fun s2 I2=>⟨_,H1,I2,q1⟩) hf
def OA (i:Nat) (e:TE) (b:P1):TS:=fun D a H=>∃x,a[i]? =lD (lD x)/\e a H fun y g=>b x y g fun z f=>D.nx (a.set i (lD z)) f
theorem K3 (hN:X.N.Nodup) (hi:X.N[i]? =lD x) (hx:N9 X.env.scope x) (he:PE X e te) (ho:PN X op ti) (hf:X.fn x=QJ\/X.env.scope.names.lookup x=lD .local:=by first|exact .inl rfl|exact .inr rfl|assumption):
  PS X (.AugAssign (.Name x pos') op e pos) (OA i te ti):=by
 intro pins s σ H D I h;obtain⟨v,e1,h⟩:=h;obtain⟨m,hn,hl⟩:=I.loc;have vis:Ps X.env.scope x:=by rcases hx with k|k;exact .inl k;exact .inr (.inl k)
 obtain⟨u,r,l⟩:=hl i x v hi e1 vis;refine wpAny_AugAssign_Name ?_;have go:wpAny (model X.prog X.w) X.A (eval e X.env) (fun w s₂=>wpAny (model X.prog X.w) X.A (inplaceOp op u w) (fun r s₃=>wpAny (model X.prog X.w) X.A (storeName X.env x r) (fun _=>SP X pins D .next) X.xe s₃) X.xe s₂) X.xe s:=by refine cA (he pins s σ H _ I h) fun w s1 ⟨y,H1,I1,r1,q1⟩=> ?_;refine cA (ho pins s1 σ H1 v y u w _ I1 r r1 q1) fun z s2 ⟨zv,H2,I2,r2,q2⟩=> ?_;exact pN I2 hN hi hx r2 (fun s3 I3=>⟨_,H2,I3,q2⟩) hf
 rcases l with⟨hk,hm⟩|⟨hk,c,hc,ZD⟩
 .exact aa4 I.ok.kind hk hn hm go
 .rcases hk with hk|hk
  .exact abx I.ok.kind hk hc ZD go
  .rcases hx with k|k
   .have:X.env.scope.names.lookup x=lD .free:=hk;rw[k] at this;cases this
   .have:X.env.scope.names.lookup x=lD .free:=hk;rw[k] at this;cases this
def Ql (f:Int->Int->Int):P1:=fun x y H Q=>∃i j,x= .int i/\y= .int j/\Q (.int (f i j)) H
theorem Mf:PN X .Add (Ql fun i j=>i+j):=by intro a s l H x y v u Q I e b h;obtain⟨i,j,g,f,q⟩:=h;subst g;subst f;obtain⟨t,rfl⟩:=e;obtain⟨m,rfl⟩:=b;exact iadd_int ⟨.int _,H,I.tok _,⟨_,rfl⟩,q⟩
end
section
variable {X:Cx} {pos:Pos}
def Eh (c:TT) (f:TS):TS:=fun D a H=>∃W:Nat->St->Hp->Prop,(∃m,W m a H)/\∀m a H,W m a H->
 c a H fun b e=>if b=QJ then∃N:St->Hp->Prop,(∀σ' H',N σ' H'->∃m',m'<m/\W m' σ' H')/\f {D with nx:=N,ct:=N,bk:=D.nx} a e else D.nx a e
theorem wT (r:V2 (model X.prog X.w) X.A X.env X.xe) (M:PT X c tc) (O:Xa X body tb):PS X (.While c body [] pos) (Eh tc tb):=by
 intro e s C H D I h;obtain⟨W,⟨L,F⟩,turn⟩:=h;refine wpAny_While (codeAny_whileLoop (fun n K=>∃σ' H',Inv X e σ' H' K/\W n σ' H') ?_ L ⟨C,H,I,F⟩);rintro n J ⟨g,B,P,E⟩;refine TB r (cA (M e J g B _ P (turn n g B E)) fun b G ⟨y,u,l⟩=> ?_);cases b with
 |true=>
  obtain⟨N,t,l⟩:=l;rw[if_pos rfl];refine TB r (cA (O e G g y _ u l) fun f Q j=> ?_);cases f with
  |next=>obtain⟨a,i,q,o⟩:=j;obtain⟨p,hm,m⟩:=t a i o;exact⟨p,hm,a,i,q,m⟩
  |cont=>obtain⟨a,i,q,o⟩:=j;obtain⟨p,hm,m⟩:=t a i o;exact⟨p,hm,a,i,q,m⟩
  |brk=>exact j
  |ret v=>exact j
 |false=>rw[if_neg Q8];exact Ws ⟨g,y,u,l⟩
end
structure It where
 go:Nat->Hp->Prop
 yld:Nat->Hp->V->Hp->Prop
 stop:Nat->Hp->Prop
def mn (X:Cx) (a:List (QN×Obj)) (H:Hp) (b:QN):Prop:=
 H b=Ld/\b≠X.env.locals/\b∉X.fs/\(b∈X.ex\/X.s₀.heap.objs.size<=b)/\(∀x c,X.env.cells.lookup x=lD c->c≠b)/\∀p∈X.pn++a,p.1≠b
theorem Inv.YH (I:Inv X pins σ H s) (a:s.heap.objs.size<=b) (hn:H' b=Ld):mn X pins H' b:=by
 refine⟨hn,Sa (Rb I.lt a),I.ahf a,.inr (RA I.sz a),fun x c e z=> ?_,fun p f z=> ?_⟩
 .obtain⟨v,q⟩:=I.cell x c e;exact absurd (Rb q.lt (by rw[z];exact a)) (Su _)
 .exact absurd (Rb (Heap.lt_size (I.pin p f).1) (by rw[z];exact a)) (Su _)
structure Turn (P:Rf) (w:RB) (K:QF) (tg:RM) (J:It) (fp:List QN) (it:QN) (tn:Nat->Heap->Prop):Prop where
 mem:it∈fp
 obj:∀i h,tn i h->∀b∈fp,∃o,h.get? b=lD o/\∀v,o.data≠ .cell v
 keep:∀i h h',tn i h->(∀b∈fp,∀o,h.get? b=lD o->h'.get? b=lD o)->tn i h'
 item:∀(X:Cx),X.prog=P->X.w=w->X.K=K->X.calm=QJ->∀(i:Nat) (pins:List (QN×Obj)) (s:QP) (σ:St) (H:Hp) (E:QH->QP->Prop),Inv X pins σ H s->(∀b∈fp,mn X pins H b)->tn i s.heap->J.go i H->
  wpAny (model P w) X.A (pyNext (.ref it)) (fun r s1=>∃u,r=lD u/\
   wpAny (model P w) X.A (letOwnedTupleGo tg (.ref it) u) (fun _ s2=>∃x H',Inv X pins σ H' s2/\RelV x u/\J.yld i H x H'/\tn (i+1) s2.heap/\∀b∈fp,H' b=Ld) E s1) E s
 done:∀(X:Cx),X.prog=P->X.w=w->X.K=K->X.calm=QJ->∀(i:Nat) (pins:List (QN×Obj)) (s:QP) (σ:St) (H:Hp) (E:QH->QP->Prop),Inv X pins σ H s->(∀b∈fp,mn X pins H b)->tn i s.heap->J.stop i H->
  wpAny (model P w) X.A (pyNext (.ref it)) (fun r s1=>r=Ld/\Inv X pins σ H s1) E s
 self:∀(A:Rv) (i:Nat) (s:QP) (Q:QH->QP->Prop) (E:QH->QP->Prop),tn i s.heap->Q (.ref it) s->wpAny (model P w) A (pyIter (.ref it)) Q E s
abbrev TI:=St->Hp->(It->Hp->Prop)->Prop
def Qg (X:Cx) (a:List (QN×Obj)) (l:St) (m:RM) (R:It->Hp->Prop) (e:QH) (h:QP):Prop:=
 ∃(i:QN) (j:List QN) (g:Nat->Heap->Prop) (J:It) (f:Hp),e= .ref i/\Inv X a l f h/\Turn X.prog X.w X.K m J j i g/\g 0 h.heap/\(∀b∈j,mn X a f b)/\R J f
def PI (X:Cx) (g b:RM) (f:TI):Prop:=
 ∀(a:List (QN×Obj)) (s:QP) (e:St) (H:Hp) (R:It->Hp->Prop),Inv X a e H s->f e H R->
  wpAny (model X.prog X.w) X.A (eval b X.env) (fun v h=>wpAny (model X.prog X.w) X.A (pyIter v) (Qg X a e g R) X.xe h) X.xe s
theorem FY {M:Model} {A:Rv} {E:QH->QP->Prop} {s:QP} {b:RM} {it:QN} {u:QH} {o:Obj} {n:String} {vs:Array QH} {Q:Unit->QP->Prop} (e:s.heap.get? it=lD o) (f:o.cls= .type n) (hd:o.data= .fields vs)
  (hn:["enumerate","zip","dict_itemiterator","dict_reverseitemiterator","odict_iterator","itertools.zip_longest","itertools.pairwise"].contains n=QQ) (a:Q () s):wpAny M A (letOwnedTupleGo b (.ref it) u) Q E s:=by
 unfold letOwnedTupleGo;cases b<;>first
  |exact QR a
  |(cases u<;>first
    |exact QR a
    |(refine QG (abY e ?_)
      rw[f,hd];show wpAny M A (if(["enumerate","zip","dict_itemiterator","dict_reverseitemiterator","odict_iterator","itertools.zip_longest","itertools.pairwise"].contains n&&vs[0]? ==lD (rawInt _))=QJ then _ else _) Q E s;rw[if_neg (by intro h;rw[hn,UU] at h;cases h)];exact QR a))
def PK (K:QF) (a:QN):It:=
 ⟨fun i H=>∃xs x,Ve K H a xs/\xs[i]? =lD x,fun i H x b=>b=H/\∀xs,Ve K H a xs->xs[i]? =lD x,fun i H=>∃xs,Ve K H a xs/\xs.length<=i⟩
def P6 (K:QF) (a:QN):It:=
 ⟨fun i H=>∃xs x,Vn K H a xs/\xs[i]? =lD x,fun i H x b=>b=H/\∀xs,Vn K H a xs->xs[i]? =lD x,fun i H=>∃xs,Vn K H a xs/\xs.length<=i⟩
def Pb (lo:Int) (n:Nat):It:=⟨fun i _=>i<n,fun i H x a=>a=H/\x= .int (lo+i),fun i _=>n<=i⟩
theorem CQ {K:QF} (a it:QN):Turn P w K tg (PK K a) [it] it (fun i h=>h.IsListIter it a i) where
 mem:=by simp
 obj:=fun i h f b g=>by
  have e:b=it:=by simpa using g
  subst e;obtain⟨o,e,c,d⟩:=f;exact⟨o,e,fun v z=>by rw[d] at z;cases z⟩
 keep:=fun i h M f k=>f.at fun o e=>k it (by simp) o e
 item:=by intro X y r A L i l s N H E I n f t;subst y r A;obtain⟨xs,x,m,q⟩:=t;obtain⟨Z,rv,p,R⟩:=I.list m;obtain⟨u,T,Q⟩:=rv.get q;obtain⟨J,G,U,F,C,B⟩:=n it (by simp);refine wpAny_pyNext_list_item f p.isList (by simpa using T) fun M j O=> ?_;have I1:=I.turned (t':=s.toks) (fun b o g e=>(O.2 b g).trans e) J G F C B;obtain⟨o,e,c,d⟩:=id j;exact⟨u,rfl,FY e c d (by decide) ⟨x,H,I1,Q,⟨rfl,fun ys S=>by rw[I.aaP S m];exact q⟩,j,fun b g=>(n b g).1⟩⟩
 done:=by intro X y r A L i l s N H E I n f t;subst y r A;obtain⟨xs,m,q⟩:=t;obtain⟨Z,rv,p,R⟩:=I.list m;obtain⟨J,G,U,F,C,B⟩:=n it (by simp);have hl:=rv.length;exact wpAny_pyNext_list_end (I.ok.hd L) f p.isList (by simp;omega) fun M Y=>⟨rfl,I.turned (fun b o g e=>Y b o g e) J G F C B⟩
 self:=fun _ _ _ _ _ f h=>wpAny_pyIter_listiter f h
theorem yP {K:QF} (a it:QN):Turn P w K tg (P6 K a) [it] it (fun i h=>h.IsTupleIter it a i) where
 mem:=by simp
 obj:=fun i h f b g=>by
  have e:b=it:=by simpa using g
  subst e;obtain⟨o,e,c,d⟩:=f;exact⟨o,e,fun v z=>by rw[d] at z;cases z⟩
 keep:=fun i h N f k=>f.at fun o e=>k it (by simp) o e
 item:=by intro X y r A M i l s O H E I n f t;subst y r A;obtain⟨xs,x,m,q⟩:=t;obtain⟨L,rv,p,S⟩:=I.tuple m;obtain⟨u,U,R⟩:=rv.get q;obtain⟨J,G,Y,F,C,B⟩:=n it (by simp);refine wpAny_pyNext_tuple_item f (show s.heap.IsTuple a L.toArray from p) (by simpa using U) fun N j Q=> ?_;have I1:=I.turned (t':=s.toks) (fun b o g e=>(Q.2 b g).trans e) J G F C B;obtain⟨o,e,c,d⟩:=id j;exact⟨u,rfl,FY e c d (by decide) ⟨x,H,I1,R,⟨rfl,fun ys T=>by rw[I.ZM T m];exact q⟩,j,fun b g=>(n b g).1⟩⟩
 done:=by intro X y r A M i l s O H E I n f t;subst y r A;obtain⟨xs,m,q⟩:=t;obtain⟨L,rv,p,S⟩:=I.tuple m;obtain⟨J,G,Y,F,C,B⟩:=n it (by simp);have hl:=rv.length;exact wpAny_pyNext_tuple_end (I.ok.hd M) f (show s.heap.IsTuple a L.toArray from p) (by simp;omega) fun N Z=>⟨rfl,I.turned (fun b o g e=>Z b o g e) J G F C B⟩
 self:=fun _ _ _ _ _ f h=>wpAny_pyIter_tupleiter f h
theorem yT {K:QF} (it:QN) (lo:Int) (n:Nat):Turn P w K tg (Pb lo n) [it] it (fun i h=>IsRangeIter h it (lo+(i:Nat)*1) ((n:Int) - (i:Nat)) 1) where
 mem:=by simp
 obj:=fun i h a b g=>by
  have e:b=it:=by simpa using g
  subst e;exact⟨_,a,fun v z=>by have L:=z;cases L⟩
 keep:=fun i h y a k=>k it (by simp) _ a
 item:=by intro X r m u q i f s J H E I l a p;subst r m u;obtain⟨G,F,Q,C,B,A⟩:=l it (by simp);have W:=Walks.range (prog:=X.prog) (w:=X.w) (I.ok.hd q) it lo 1 n;refine W.item i s _ _ p a fun v y M O j N=> ?_;obtain⟨t,rfl⟩:=O;have S:Inv X f J H {s with heap:=y,toks:=M}:=I.turned (fun b o g e=>N b o (by simpa using g) e) G F C B A;refine⟨_,rfl,FY j rfl rfl (by decide) ⟨.int (lo+i),H,S,⟨t,?_⟩,⟨rfl,rfl⟩,j,fun b g=>(l b g).1⟩⟩;rw[Int.mul_one]
 done:=by intro X r m u q i f s J H E I l a p;subst r m u;obtain⟨G,F,Q,C,B,A⟩:=l it (by simp);exact wpAny_pyNext_range_end (I.ok.hd q) a (by have:n<=i:=p;omega) fun y R=>⟨rfl,I.turned (fun b o g e=>R b o g e) G F C B A⟩
 self:=fun _ _ _ _ _ a h=>wpAny_pyIter_rangeiter a h
section
variable {X:Cx} {Z:RM}
theorem Db {a:List (QN×Obj)} {f:St} {H:Hp} {s:QP} {R:It->Hp->Prop} {E:QH->QP->Prop} {lo hi:Int} {t u v:Tok} {g:Nat} (I:Inv X a f H s) (n: -(2^62)<=lo) (m:lo<2^62) (l: -(2^62)<=hi) (j:hi<2^62)
  (q:R (Pb lo (hi - lo).toNat) H):wpAny (model X.prog X.w) X.A (pyIter (.ref s.heap.objs.size)) (Qg X a f Z R) E {s with heap:=s.heap.push {cls:= .type "range",data:= .fields #[.int lo t,.int hi u,.int 1 v]},toks:=g}:=by
 refine wpAny_pyIter_range (IsRange.new ..) (small_one n m l j) ?_;have h:Inv X a f H {s with heap:=s.heap.push {cls:= .type "range",data:= .fields #[.int lo t,.int hi u,.int 1 v]},toks:=g}:=I.kept fun b o e=>Heap.get?_push_of_some _ e;refine⟨(s.heap.push {cls:= .type "range",data:= .fields #[.int lo t,.int hi u,.int 1 v]}).objs.size,[(s.heap.push {cls:= .type "range",data:= .fields #[.int lo t,.int hi u,.int 1 v]}).objs.size],_,_,H,rfl,
  h.kept (t':=g) fun b o e=>Heap.get?_push_of_some _ e,yT _ lo (hi - lo).toNat,?_,fun b i=> ?_,q⟩
 .have r:lo+((0:Nat):Int)*1=lo:=by simp
  have p:(((hi - lo).toNat:Nat):Int) - ((0:Nat):Int)=Builtin.Range.rangeSize lo hi 1:=by rw[rangeSize_one];split<;>omega
  show IsRangeIter _ _ (lo+((0:Nat):Int)*1) ((((hi - lo).toNat:Nat):Int) - ((0:Nat):Int)) 1;rw[r,p];exact Heap.get?_push_size _ rfl
 .have e:b=(s.heap.push {cls:= .type "range",data:= .fields #[.int lo t,.int hi u,.int 1 v]}).objs.size:=by simpa using i
  subst e;exact h.YH (QU _) (h.Sh.fresh (QU _))
def KB (b:TA):TI:=fun a H R=>b a H fun vs e=>∃j:Int,vs=[.int j]/\ -(2^62)<=j/\j<2^62/\R (Pb 0 j.toNat) e
theorem eJ (o:Gl X "range") (hm:X.mg "range"=Ld) (ha:PA X [a] ta) (n:Rh [a] X.env=[(QQ,eval a X.env)]:=by rfl):PI X Z (.Call (.Name "range" p) [a] [] pos) (KB ta):=by
 intro b s g H R I h;refine Call_ (lB I o hm boot_range (SG (cA (ha pos b s g H _ I h) fun v w ⟨vs,y,u,l,f⟩=> ?_) n rfl));obtain⟨j,e,f,m,q⟩:=f;subst e;cases l with
 |cons r i=>cases i;obtain⟨t,rfl⟩:=r;exact call_range_1 (Db u (by omega) (by omega) f m (by simpa using q))
def KY (e:TI) (g:TG) (f:TS):TS:=fun D a H=>e a H fun J j=>∃W:Nat->Nat->St->Hp->Prop,(∃m,W 0 m a j)/\∀i m a H,W i m a H->
 (J.stop i H/\D.nx a H)\/(J.go i H/\∃N:St->Hp->Prop,(∀σ' H',N σ' H'->∃m',m'<m/\W (i+1) m' σ' H')/\∀x H',J.yld i H x H'->g x a H' fun b h=>f {D with nx:=N,ct:=N,bk:=D.nx} b h)
def pP (fp:List QN) (h:Heap):List (QN×Obj):=fp.filterMap fun b=>(h.get? b).map fun o=>(b,o)
theorem jg (a:b∈fp) (e:h.get? b=lD o):(b,o)∈pP fp h:=UW.mpr ⟨b,a,by rw[e];rfl⟩
theorem BX (a:p∈pP fp h):p.1∈fp/\h.get? p.1=lD p.2:=by
 obtain⟨b,f,e⟩:=UW.mp a;cases q:h.get? b with
 |none=>rw[q] at e;cases e
 |some o=>rw[q] at e;have g:=Ra e;subst g;exact⟨f,q⟩
theorem Inv.pinned (I:Inv X pins σ H s) (i:∀b∈fp,mn X pins H b) (h:∀b∈fp,∃o,s.heap.get? b=lD o/\∀v,o.data≠ .cell v):Inv X (pins++pP fp s.heap) σ H s:=
 I.ZE fun p g=>(Rq.mp g).elim (fun z=>I.pin p (Rr _ z)) fun z=>by obtain⟨a,e⟩:=BX z;obtain⟨m,l,j,_⟩:=i p.1 a;obtain⟨o,f,d⟩:=h p.1 a;rw[e] at f;cases f;exact⟨e,m,l,j,d⟩
theorem Inv.WG (I:Inv X (pins++pl) σ H s):Inv X pins σ H s:=I.ZE fun p a=>I.pin p (Rr _ (R8 _ a))
theorem qX (M:V2 (model X.prog X.w) X.A X.env X.xe) (hc:X.calm=QJ) (hi:PI X Z iter wi) (hg:PG X Z g) (p:Xa X body tb)
  (hs:∀x,foldedSetIterable iter X.env x=pure x:=by intro _;rfl):PS X (.For Z iter body [] pos) (KY wi g tb):=by
 intro j s σ H D I h;refine wpAny_For (cA (hi j s σ H _ I h) fun v s1 h1=>cA h1 fun itv s2 h2=> ?_) hs;obtain⟨it,P,tn,J,H2,e,I2,T,S,f2,W,⟨m0,w0⟩,turn⟩:=h2;subst e;have F:∀{B:Hp},(∀b∈P,B b=Ld)->∀b∈P,mn X j B b:=fun hn b p=>⟨hn b p,(f2 b p).2⟩;refine codeAny_forLoop_any (fun n s'=>∃i σ' B,Inv X j σ' B s'/\tn i s'.heap/\(∀b∈P,B b=Ld)/\W i n σ' B) ?_ m0 ⟨0,σ,H2,I2,S,fun b p=>(f2 b p).1,w0⟩;rintro n s3 ⟨i,l,Q,I3,K,O,w3⟩;rcases turn i n l Q w3 with⟨G,qn⟩|⟨go,N,hN,step⟩
 .refine TB M (cA (T.done X rfl rfl rfl hc i j s3 l Q X.xe I3 (F O) K G) fun r s4 ⟨Y,I4⟩=> ?_);subst Y;exact Ws ⟨l,Q,I4,qn⟩
 .refine TB M (cA (T.item X rfl rfl rfl hc i j s3 l Q X.xe I3 (F O) K go) fun r s4 ⟨u,Y,h4⟩=> ?_)
  subst Y;refine TB M (cA h4 fun _ s5 ⟨x,H5,I5,r5,y5,E,fr5⟩=> ?_);have I5':=I5.pinned (F fr5) (T.obj _ _ E);refine TB M (cA (hg _ s5 l H5 x u _ I5' r5 (step x H5 y5)) fun _ s6 ⟨R,H6,I6,q6⟩=> ?_);refine TB M (cA (p _ s6 R H6 _ I6 q6) fun f U C=> ?_);have q:∀{a:St} {y:Hp},Inv X (j++pP P s5.heap) a y U->N a y->∃m,m<n/\∃i σ' B,Inv X j σ' B U/\tn i U.heap/\(∀b∈P,B b=Ld)/\W i m σ' B:=fun{a y} t L=>by obtain⟨m',hm,w7⟩:=hN a y L;refine⟨m',hm,i+1,a,y,t.WG,T.keep _ _ _ E fun b p o e=>(t.pin (b,o) (Rr _ (Rr _ (jg p e)))).1,fun b p=> ?_,w7⟩;obtain⟨o,e,d⟩:=T.obj _ _ E b p;exact(t.pin (b,o) (Rr _ (Rr _ (jg p e)))).2.1
  cases f with
  |next=>obtain⟨a,y,t,L⟩:=C;exact q t L
  |cont=>obtain⟨a,y,t,L⟩:=C;exact q t L
  |brk=>obtain⟨a,y,t,C⟩:=C;exact⟨a,y,t.WG,C⟩
  |ret v=>obtain⟨x7,a,y,t,r7,C⟩:=C;exact⟨x7,a,y,t.WG,r7,C⟩
end
abbrev R2:=V->V->Hp->VK->Prop
def OpR (X:Cx) (f:QH->QH->Sem QH) (r:R2):Prop:=
 ∀(a:List (QN×Obj)) (s:QP) (b:St) (H:Hp) (x y:V) (v u:QH) (Q:VK),Inv X a b H s->RelV x v->RelV y u->r x y H Q->
  wpAny (model X.prog X.w) X.A (f v u) (EP X a b Q) X.xe s
def Ub (X:Cx) (f:QH) (r:List V->Hp->VK->Prop):Prop:=
 ∀(a:List (QN×Obj)) (s:QP) (b:St) (H:Hp) (xs:List V) (e:List QH) (Q:VK),Inv X a b H s->Vals xs e->r xs H Q->
  wpAny (model X.prog X.w) X.A (call f e) (EP X a b Q) X.xe s
def LI (r:R2) (e b:TE):TE:=fun a H Q=>e a H fun x g=>b a g fun y f=>r x y f Q
def rI (C:Int->Int->Prop) (g:Int->Int->V):R2:=fun x y H Q=>∃i j,x= .int i/\y= .int j/\C i j/\Q (g i j) H
def vS (g:Int->Int->V):R2:=fun x y H Q=>∃i j,x= .int i/\y= .int j/\Q (g i j) H
section
variable {X:Cx} {a b c:RM} {Y Z tc:TE} {pos:Pos}
theorem LZ (ha:PE X a Y) (n:PE X b Z) {R:V->V->Hp->Prop} (I:Inv X pins σ H s)
  (h:Y σ H fun x H1=>Z σ H1 fun y H2=>R x y H2) {f:QH->QH->Sem QH}
  (m:∀v u s2 x y H2,Inv X pins σ H2 s2->RelV x v->RelV y u->R x y H2->wpAny (model X.prog X.w) X.A (f v u) Q X.xe s2):
  wpAny (model X.prog X.w) X.A (eval a X.env) (fun v s₁=>wpAny (model X.prog X.w) X.A (eval b X.env) (fun u s₂=>wpAny (model X.prog X.w) X.A (f v u) Q X.xe s₂) X.xe s₁) X.xe s:=by
 refine cA (ha pins s σ H _ I h) fun v e ⟨x,H1,p,i,l⟩=> ?_;refine cA (n pins e σ H1 _ p l) fun u s2 ⟨y,H2,o,g,j⟩=> ?_;exact m v u s2 x y H2 o i g j
theorem mF (l:OpR X (SY op) r) (ha:PE X a Y) (m:PE X b Z):PE X (.BinOp a op b pos) (LI r Y Z):=by intro e s f H Q I h;exact wpAny_BinOp (LZ ha m I h fun v u g x y o n j i q=>l e g f o x y v u Q n j i q)
theorem Ov {g:Int->Int->Int}
  (e:∀(i j:Int) (t u:Tok) (s:QP) (Q:QH->QP->Prop) (E:QH->QP->Prop),C i j->Q (.int (g i j) s.toks) {s with toks:=s.toks+1}->wpAny (model X.prog X.w) X.A (f (.int i t) (.int j u)) Q E s):
  OpR X f (rI C fun i j=> .int (g i j)):=by
 intro l s r H x y v u Q I o n h;obtain⟨i,j,rfl,rfl,p,q⟩:=h;obtain⟨t,rfl⟩:=o;obtain⟨m,rfl⟩:=n;exact e i j t m s _ _ p ⟨.int (g i j),H,I.tok _,⟨_,rfl⟩,q⟩
theorem K4 {g:Int->Int->Int}
  (e:∀(i j:Int) (t u:Tok) (s:QP) (Q:QH->QP->Prop) (E:QH->QP->Prop),Q (.int (g i j) s.toks) {s with toks:=s.toks+1}->wpAny (model X.prog X.w) X.A (f (.int i t) (.int j u)) Q E s):
  OpR X f (vS fun i j=> .int (g i j)):=by
 intro l s p H x y v u Q I o n h;obtain⟨i,j,rfl,rfl,q⟩:=h;obtain⟨t,rfl⟩:=o;obtain⟨m,rfl⟩:=n;exact e i j t m s _ _ ⟨.int (g i j),H,I.tok _,⟨_,rfl⟩,q⟩
theorem GV {g:Int->Int->Bool}
  (e:∀(i j:Int) (t u:Tok) (s:QP) (Q:QH->QP->Prop) (E:QH->QP->Prop),Q (.bool (g i j)) s->wpAny (model X.prog X.w) X.A (f (.int i t) (.int j u)) Q E s):
  OpR X f (vS fun i j=> .bl (g i j)):=by
 intro l s p H x y v u Q I o n h;obtain⟨i,j,rfl,rfl,q⟩:=h;obtain⟨t,rfl⟩:=o;obtain⟨m,rfl⟩:=n;exact e i j t m s _ _ ⟨.bl (g i j),H,I,rfl,q⟩
def Ml (i j:Int):Prop:=0<=j/\j<=1000000/\i.natAbs<2^64
def abi (i j:Int):Prop:=(-(2^64)<i/\i<2^64)\/(-(2^64)<j/\j<2^64)
theorem abi.ok (h:abi i j):IntMulOk i j:=by
 rcases h with⟨f,e⟩|⟨f,e⟩
 .exact .of_left (ahx f e)
 .exact .of_right (ahx f e)
theorem two_pow_nn (k:Nat):(0:Int)<=2^k:=by rw[two_pow_cast];exact Int.natCast_nonneg _
theorem MA:OpR X (SY .Add) (vS fun i j=> .int (i+j)):=K4 fun _ _ _ _ _ _ _ q=>add_int q
theorem NG:OpR X (SY .Sub) (vS fun i j=> .int (i - j)):=K4 fun _ _ _ _ _ _ _ q=>sub_int q
theorem Mj:OpR X (SY .Mult) (rI abi fun i j=> .int (i*j)):=Ov fun _ _ _ _ _ _ _ e q=>mul_int q e.ok
theorem My:OpR X (SY .Mod) (rI (fun _ j=>0<j) fun i j=> .int (i % j)):=Ov fun i j _ _ _ _ _ e q=>by have f:(0:Int)<j:=e;exact mod_int' (by omega) (by rw[Int.fmod_eq_emod_of_nonneg i (by omega)];exact q)
theorem Me:OpR X (SY .Pow) (rI Ml fun i j=> .int (i^j.toNat)):=Ov fun _ _ _ _ _ _ _ e q=>pow_int_small e.1 e.2.1 e.2.2 q
theorem Dz:OpR X (SY .RShift) (rI (fun _ j=>0<=j) fun i j=> .int (i/2^j.toNat)):=Ov fun i j _ _ _ _ _ e q=>
 rshift_int e (by rw[X6 i (two_pow_nn _)];exact q)
theorem Gu:OpR X (SY .BitAnd) (vS fun i j=> .int (Builtin.bitAnd i j)):=K4 fun _ _ _ _ _ _ _ q=>and_int q
end
section
variable {X:Cx} {a b c:RM} {Y Z U:TE} {pos:Pos}
theorem Gj (I:Inv X pins σ H s) (q:Q (.bl k) H) (e:k=k'):EP X pins σ Q (.bool k') s:=by subst e;exact⟨.bl k,H,I,rfl,q⟩
theorem Dm:OpR X (SH .Lt) (vS fun i j=> .bl (decide (i<j))):=GV fun _ _ _ _ _ _ _ q=>lt_int q
theorem OE:OpR X (SH .LtE) (vS fun i j=> .bl (decide (i<=j))):=GV fun _ _ _ _ _ _ _ q=>le_int q
theorem Kz:OpR X (SH .Gt) (vS fun i j=> .bl (decide (j<i))):=GV fun _ _ _ _ _ _ _ q=>gt_int q
theorem Km:OpR X (SH .GtE) (vS fun i j=> .bl (decide (j<=i))):=GV fun _ _ _ _ _ _ _ q=>ge_int q
theorem K9:OpR X (SH .Is) (fun x y H Q=>y= .TN/\Q (.bl (decide (x= .TN))) H):=by
 intro f s i H x y v u Q I e g h;obtain⟨rfl,q⟩:=h;cases g;refine is_none_gen (Gj I q ?_);cases x<;>first
  |(cases e;rfl)
  |(obtain⟨t,rfl⟩:=e;rfl)
theorem uP:OpR X (SH .IsNot) (fun x y H Q=>y= .TN/\Q (.bl (!decide (x= .TN))) H):=by
 intro f s i H x y v u Q I e g h;obtain⟨rfl,q⟩:=h;cases g;refine isnot_none_gen (Gj I q ?_);cases x<;>first
  |(cases e;rfl)
  |(obtain⟨t,rfl⟩:=e;rfl)
theorem fX (b:RM) (h:op≠ .In:=by decide) (e:op≠ .NotIn:=by decide):behindInMarks op b=QQ:=by
 have g:(op==CmpOp.In)=QQ:=by cases op<;>first|rfl|exact absurd rfl h
 have f:(op==CmpOp.NotIn)=QQ:=by cases op<;>first|rfl|exact absurd rfl e
 cases b<;>simp[behindInMarks,g,f]
theorem mK {f:CmpOp} {r:R2} (m:OpR X (SH f) r) (ha:PE X a Y) (n:PE X b Z) (hm:behindInMarks f b=QQ):PE X (.Compare a [f] [b] pos) (LI r Y Z):=by intro e s g H Q I h;exact wpAny_Compare1 (LZ ha n I h fun v u i x y p o l j q=>m e i g p x y v u Q o l j q) hm
def A2 (t:TE):TT:=fun e H Q=>t e H fun x f=>∃k,x= .bl k/\Q k f
theorem d9 (t:OpR X (SH op) r) (ha:PE X a Y) (w:PE X b Z) (hm:behindInMarks op b=QQ):PT X (.Compare a [op] [b] pos) (A2 (LI r Y Z)):=by
 intro f s g H Q I h;refine aaQ (cA (ha f s g H _ I h) fun v j ⟨x,G,C,n,q⟩=>cA (w f j g G _ C q) fun u i ⟨y,F,B,m,p⟩=>
  cA (t f i g F x y v u _ B n m p) fun c J ⟨z,E,A,l,k,e,o⟩=> ?_) hm
 subst e;cases l;exact SR ⟨E,A,o⟩
def Gc (r h:R2) (Y Z U:TE):TE:=fun e H Q=>Y e H fun x l=>Z e l fun y j=>r x y j fun z f=>∃k,z= .bl k/\
 (if k=QJ then U e f fun g i=>h y g i Q else Q (.bl QQ) f)
theorem Gh (N:OpR X (SH op) r) (i:OpR X (SH op') r') (ha:PE X a Y) (P:PE X b Z) (O:PE X c U)
  (hm:lastMarks [op,op'] [b,c]=QQ:=by with_unfolding_all rfl):PT X (.Compare a [op,op'] [b,c] pos) (A2 (Gc r r' Y Z U)):=by
 intro f s g H Q I h;refine isTrue_chain (cA (ha f s g H _ I h) fun v A ⟨x,H1,I1,F,L⟩=>test_link (cA (P f A g H1 _ I1 L) fun u w ⟨y,H2,I2,j,K⟩=>
  cA (N f w g H2 x y v u _ I2 F j K) fun d t ⟨z,n,m,E,k,e,l⟩=> ?_)) hm
 subst e;cases E;refine SR ?_;cases k with
 |false=>obtain⟨k',S,M⟩:=l;cases S;exact ite_ff ⟨n,m,M⟩
 |true=>refine ite_tt (test_last (cA (O f t g n _ m l) fun p q ⟨o,H4,I4,C,J⟩=>cA (i f q g H4 y o u p _ I4 j C J) fun d' s5 ⟨z2,H5,T,B,k2,R,G⟩=> ?_));subst R;cases B;exact SR ⟨H5,T,G⟩
theorem vv:(QX:Nat)<2^63:=by rw[Tt];decide
theorem zr:OpR X (SY .Add) (fun x y H Q=>∃i j,x= .str i/\y= .str j/\i.length+j.length<=QX/\Q (.str (i++j)) H):=by intro e s n H x y v u Q I l g h;obtain⟨i,j,rfl,rfl,m,q⟩:=h;obtain⟨t,rfl⟩:=l;obtain⟨f,rfl⟩:=g;exact add_str (fun f o=>⟨.str (i++j),H,I.tok _,⟨_,rfl⟩,q⟩) m
theorem jM (r:Vals [x] us):∃u,us=[u]/\RelV x u:=by
 cases r with
 |cons f e=>cases e;exact⟨_,rfl,f⟩
theorem Dn (r:Vals [x,y] us):∃u w',us=[u,w']/\RelV x u/\RelV y w':=by
 cases r with
 |cons h g=>
  cases g with
  |cons f e=>cases e;exact⟨_,_,rfl,h,f⟩
theorem CP (g:X.calm=QJ):Ub X (.builtin "max") (fun xs H Q=>∃i j,xs=[.int i,.int j]/\Q (.int (if j>i then j else i)) H):=by
 intro f s l H xs n Q I r h;obtain⟨i,j,rfl,q⟩:=h;obtain⟨u,m,rfl,⟨t,rfl⟩,⟨p,rfl⟩⟩:=Dn r;refine max_two_ints (I.ok.hd g) fun v o k=>⟨_,H,I.kept k,?_,q⟩;by_cases e:j>i
 .rw[if_pos e,if_pos e];exact⟨_,rfl⟩
 .rw[if_neg e,if_neg e];exact⟨_,rfl⟩
def K1 (K:QF) (x:V) (H:Hp) (n:Nat):Prop:=
 match x with
 | .str y=>y.length<=QX/\n=y.length
 | .byt y=>y.size<=QX/\n=y.size
 | .ref p=>(∃xs,Ve K H p xs/\n=xs.length)\/∃xs,Vn K H p xs/\n=xs.length
 |_=>False
theorem fH:Ub X (.builtin "len") (fun xs H Q=>∃x n,xs=[x]/\K1 X.K x H n/\Q (.int n) H):=by
 intro m s A H xs B Q I r h;obtain⟨x,n,rfl,e,q⟩:=h;obtain⟨u,rfl,i⟩:=jM r;have E:=vv;have C:=Tt;cases x with
 |str y=>obtain⟨t,rfl⟩:=i;obtain⟨v,g⟩:=e;subst g;exact len_str (by omega) ⟨.int _,H,I.tok _,⟨_,rfl⟩,q⟩
 |byt y=>obtain⟨t,rfl⟩:=i;obtain⟨v,g⟩:=e;subst g;exact PySem.W.len_bytes (by omega) ⟨.int _,H,I.tok _,⟨_,rfl⟩,q⟩
 |ref p=>
  cases i;have g:=e;rcases g with⟨xs,l,g⟩|⟨xs,l,g⟩
  .subst g;obtain⟨w,j,pl,o⟩:=I.list l;have f:=j.length;exact Calls.call_len_list pl.isList (by simp only[QZ];omega) ⟨.int xs.length,H,I.tok _,⟨_,by simp only[QZ];rw[f]⟩,q⟩
  .subst g;obtain⟨w,j,pl,o⟩:=I.tuple l;have f:=j.length;exact len_tuple pl (by simp only[QZ];omega) ⟨.int xs.length,H,I.tok _,⟨_,by simp only[QZ];rw[f]⟩,q⟩
 |_=>exact(show False from e).elim
end
structure Zk (h:Heap) (x dx C:QN) (mA:Str->Option QH):Prop where
 obj:h.get? x=lD (S2 C dx)
 ns:h.Ns1 dx mA
 ne:dx≠x
theorem CY {h:Heap} (n:h.Ns1 dx mA):∃od,h.get? dx=lD od/\∀name,VI name od=lD (mA name):=by
 obtain⟨o,f,p,i,l,j,_,hm⟩:=n;refine⟨o,i,fun name=> ?_⟩;have e:=hm name;unfold nsFind findBy at e;rw[<-ZH] at e;unfold VI;rw[l];dsimp only;split
 .rename_i y q;rw[q] at e;exact congrArg lD e
 .rename_i q
  rw[q] at e;have a:f.toList.any (·.refKey)=QQ:=by rw[List.any_eq_false];intro y g;obtain⟨z,t,b⟩:=j y (Array.mem_toList_iff.mp g);simp[Um.refKey,b]
  have m:¬f.toList.any (·.refKey)=QJ:=by rw[a];exact Q8
  rw[if_neg m];exact congrArg lD e
theorem Zk.look (I:Zk h x dx C mA):∃od,PySem.W.InstAt h x (S2 C dx) C (lD od)/\∀name,VI name od=lD (mA name):=
 let⟨od,ho,hl⟩:=CY I.ns
 ⟨od,⟨I.obj,rfl,rfl,ho⟩,hl⟩
section
variable {prog:Rf} {w:RB} {A:Rv} {E:QH->QP->Prop} {s:QP} {K:QF} {x dx C f:QN} {Z:Str->Option QH} {name:Str} {v:QH}
theorem HZ (X:K.In s.heap) (I:Zk s.heap x dx C Z) (i:Ui K C name=QJ) (g:UX K C=QJ)
  (ha:RI K (.ref C) name=lD Ld) (b:Z name=lD v) (a:ZI v=QJ) (h:Q v {s with toks:=s.toks+1}):
  wpAny (model prog w) A (getAttr (.ref x) name expr) Q E s:=by
 obtain⟨j,J,e⟩:=I.look;exact PySem.W.get_value X J (V3 i).1 (PySem.W.findObj_own g ha rfl (by rw[e,b])) a h
theorem EG (X:K.In s.heap) (I:Zk s.heap x dx C Z) (a:Ui K C name=QJ)
  (j:RI K (.ref C) name=lD (lD (.ref f))) (g:TF K (.ref f)=QJ) (e:Z name=Ld) (h:Q (.ref f,[.ref x]) s):
  wpAny (model prog w) A (getMethod (.ref x) name pl) Q E s:=by
 obtain⟨b,J,i⟩:=I.look;exact PySem.W.method_fn X J (V3 a).1 (V3 a).2 j (beq_iff_eq.mp g) (by show(VI name b).map (·.isSome)=lD QQ;rw[i,e];rfl) h
theorem Jr (X:K.In s.heap) (I:Zk s.heap x dx C Z)
  (p:RI K (.ref C) "__setattr__"=lD (lD (.builtin "object.__setattr__"))) (q:Wz K C=QJ) (o:Xb K C name=lD Ld) (r:UX K C=QJ)
  (n:Yv Z ns) (hsz:ns.length<=QX)
  (h:∀h',Zk h' x dx C (fun y=>if y=name then lD v else Z y)->Heap.SameBut dx s.heap h'->Q () {s with heap:=h',toks:=s.toks+2}):
  wpAny (model prog w) A (setAttr (.ref x) name v) Q E s:=by
 obtain⟨F,J,H⟩:=I.look;refine PySem.W.set_plain X J p (PySem.W.osa_open X J q o fun b=> ?_);obtain⟨L,t,i⟩:=PySem.W.any_some r;have m:=I.obj;refine QG (QR (QG (QG (afu m (QG (adh (PySem.W.looks_clsIn X t) ?_))))));rw[i];refine QR (QG (QR (QG ?_)));refine wpAny_nsSet1 I.ns fun h' a l=> ?_;obtain⟨G,u,B,e,g,j⟩:=a.count (aeo name v n);refine QG (adi e (by rw[g];exact adj (RA j (by rw[Q5];omega))) ?_);exact QR (h _ ⟨(l.2 _ (Ne.symm I.ne)).trans I.obj,a,I.ne⟩ l)
theorem F0 {R:WW->QP->Prop} {vs:List QH} {b:List (Str×QH)} (X:K.In s.heap) (hm:Xd K C=QJ)
  (hi:RI K (.ref C) "__init__"=lD (lD (.ref f))) (e:aai K (.ref f)=lD (.type "function"))
  (h:codeAny (model prog w) (A.under (.builtin "type.__call__" ⟨.ref C::vs,b⟩)) (.call (.ref f) ⟨.ref (s.heap.objs.size+1)::vs,b⟩) (PySem.W.InitBack (s.heap.objs.size+1) R)
   {s with heap:=(s.heap.push Sq).push (S2 C s.heap.objs.size)}):
  codeAny (model prog w) A (.call (.ref C) ⟨vs,b⟩) R s:=by
 obtain⟨j,g,d,t,i⟩:=s;exact PySem.W.make_core (PySem.W.makes_of X hm) (PySem.W.looks_findIn X hi) (fun a=>PySem.W.bind_fn X a e) (.inl rfl) h
end
def iq (f:Str) (v:V):List (Str×V)->List (Str×V)
 |[]=>[(f,v)]
 |(g,x)::r=>if g=f then(g,v)::r else(g,x)::iq f v r
theorem on (f g:Str) (v:V):∀fs:List (Str×V),(iq f v fs).lookup g=if g=f then lD v else fs.lookup g
 |[]=>by
  show Tq g [(f,v)]=_;by_cases h:g=f
  .have a:=beq_iff_eq.mpr h;simp only[Tq,a,if_pos h]
  .have a:=beq_eq_false_iff_ne.mpr h;simp only[Tq,a,if_neg h]
 |(k,x)::r=>by
  have i:=on f g v r;rw[show iq f v ((k,x)::r)=(if k=f then(k,v)::r else(k,x)::iq f v r) from rfl];by_cases b:k=f
  .rw[if_pos b]
   by_cases h:g=k
   .have a:=beq_iff_eq.mpr h;simp only[Tq,a,if_pos (h.trans b)]
   .have a:=beq_eq_false_iff_ne.mpr h;simp only[Tq,a,if_neg (fun e:g=f=>h (e.trans b.symm))]
  .rw[if_neg b]
   by_cases h:g=k
   .have a:=beq_iff_eq.mpr h;simp only[Tq,a,if_neg (fun e:g=f=>b (h.symm.trans e))]
   .have a:=beq_eq_false_iff_ne.mpr h;simp only[Tq,a];exact i
theorem nu (f:Str) (v:V):∀fs:List (Str×V),f∈(iq f v fs).map (·.1)/\∀g,g∈fs.map (·.1)->g∈(iq f v fs).map (·.1)
 |[]=>⟨by simp[iq],fun g h=>by simp at h⟩
 |(k,x)::r=>by
  obtain⟨i,b⟩:=nu f v r;rw[show iq f v ((k,x)::r)=(if k=f then(k,v)::r else(k,x)::iq f v r) from rfl];by_cases a:k=f
  .rw[if_pos a];subst a;exact⟨by simp,fun g h=>by simpa using h⟩
  .rw[if_neg a]
   refine⟨?_,fun g h=> ?_⟩
   .rw[Q3];exact QV _ i
   .rw[Q3] at h⊢
    rcases Rc.mp h with e|e
    .exact Rc.mpr (.inl e)
    .exact QV _ (b g e)
theorem oj (f:Str) (v:V):∀fs:List (Str×V),(iq f v fs).length<=fs.length+1
 |[]=>by simp[iq]
 |(k,x)::r=>by
  have b:=oj f v r;rw[show iq f v ((k,x)::r)=(if k=f then(k,v)::r else(k,x)::iq f v r) from rfl];by_cases a:k=f
  .rw[if_pos a,Q5,Q5];omega
  .rw[if_neg a,Q5,Q5];omega
theorem Vg.some_of (r:Vg (lD v) o):∃u,o=lD u/\RelV v u:=by
 cases o with
 |none=>exact(show False from r).elim
 |some u=>exact⟨u,rfl,r⟩
theorem Vg.none_of (r:Vg Ld o):o=Ld:=by
 cases o with
 |none=>rfl
 |some u=>exact(show False from r).elim
theorem Ch (r:RelV v u):ZI u=QJ:=by
 cases v with
 |TN=>cases(show u=QH.none from r);rfl
 |bl b=>cases(show u=QH.bool b from r);rfl
 |int i=>obtain⟨t,e⟩:=(show∃t,u=QH.int i t from r);cases e;rfl
 |str x=>obtain⟨t,e⟩:=(show∃t,u=QH.str x t from r);cases e;rfl
 |byt b=>obtain⟨t,e⟩:=(show∃t,u=QH.bytes b t from r);cases e;rfl
 |flt b=>obtain⟨t,e⟩:=(show∃t,u=QH.float b t from r);cases e;rfl
 |ref a=>cases(show u=QH.ref a from r);rfl
 |ty n=>cases(show u=QH.type n from r);rfl
section
variable {P:Rf} {w:RB} {H H':Hp} {h h':Heap} {a C dx:QN} {fs fs':List (Str×V)}
theorem uK (Sh:V1 P w H h) (e:H a=lD (.ins C dx fs)):∃mA,Zk h a dx C mA/\(∀f,Vg (fs.lookup f) (mA f))/\Yv mA (fs.map (·.1))/\fs.length<=1000/\H dx=lD (.own a):=by obtain⟨d,z,ne,b,mA,n,r,q⟩:=(show ObjOk P w H h a (.ins C dx fs) from Sh a _ e);exact⟨mA,⟨b,n,ne⟩,r,q,z,d⟩
end
structure Zp (K:QF) (C:QN):Prop where
 pg:Ui K C Str.empty=QJ
 hd:UX K C=QJ
 po:Wz K C=QJ
 sa:RI K (.ref C) "__setattr__"=lD (lD (.builtin "object.__setattr__"))
theorem Zp.get {K:QF} (c:Zp K C) (f:Str):Ui K C f=QJ:=c.pg
def U4 (K:QF) (C:QN) (f:Str):Prop:=RI K (.ref C) f=lD Ld
theorem U4.adF {K:QF} (n:U4 K C f):Xb K C f=lD Ld:=by unfold Xb;rw[show RI K (.ref C) f=lD Ld from n];rfl
structure Con (K:QF) (C:QN) (f:Str) (v:V) (u:QH):Prop where
 at_:RI K (.ref C) f=lD (lD u)
 rel:RelV v u
 get:T7 K u "__get__"=lD Ld
 cp:PySem.W.copiedNames.contains f=QQ
structure Meth (K:QF) (C:QN) (m:Str) (f:QN):Prop where
 at_:RI K (.ref C) m=lD (lD (.ref f))
 fn:TF K (.ref f)=QJ
 kp:SD K (.ref f)=QJ
section
variable {X:Cx} {Z:List (QN×Obj)} {Y:St} {H:Hp} {s:QP} {a C dx:QN} {fs:List (Str×V)} {f:Str} {v:V} {A:Rv} {E:QH->QP->Prop}
theorem yK (I:Inv X Z Y H s) (e:H a=lD (.ins C dx fs)) (c:Zp X.K C) (n:U4 X.K C f) (l:fs.lookup f=lD v)
  (h:∀u s',Inv X Z Y H s'->RelV v u->Q u s'):wpAny (model X.prog X.w) A (getAttr (.ref a) f b) Q E s:=by
 obtain⟨j,O,r,_,_,_⟩:=uK I.Sh e;obtain⟨u,i,g⟩:=Vg.some_of (by rw[<-l];exact r f);exact HZ I.Xy O (c.get f) c.hd n i (Ch g) (h u _ (I.tok _) g)
theorem qO (I:Inv X Z Y H s) (e:H a=lD (.ins C dx fs)) (c:Zp X.K C) (k:Meth X.K C m g) (l:fs.lookup m=Ld)
  (h:Q (.ref g,[.ref a]) s):wpAny (model X.prog X.w) A (getMethod (.ref a) m pl) Q E s:=by
 obtain⟨b,O,r,_,_,_⟩:=uK I.Sh e;have hn:=Vg.none_of (by rw[<-l];exact r m);exact EG I.Xy O (c.get m) k.at_ k.fn hn h
theorem zC (I:Inv X Z Y H s) (e:H a=lD (.ins C dx fs)) (c:Zp X.K C) (n:U4 X.K C f) (M:fs.length<1000) (t:RelV y u)
  (h:∀s',Inv X Z Y (bC H a (.ins C dx (iq f y fs))) s'->Q () s'):wpAny (model X.prog X.w) A (setAttr (.ref a) f u) Q E s:=by
 obtain⟨l,O,r,j,_,m⟩:=uK I.Sh e;have B:(fs.map (·.1)).length<=QX:=by rw[QI,Tt];omega
 refine Jr I.Xy O c.sa c.po n.adF c.hd j B fun L i p=>h _ ?_;have G:∃o,L.get? dx=lD o:=let⟨o,_,_,e',_⟩:=i.ns;⟨o,e'⟩
 refine I.write (by rw[e];exact True.intro) (.inr m) (fun b q J z=>(p.2 b J).trans z) G ?_;refine⟨by rw[az O.ne];exact m,?_,O.ne,i.obj,_,i.ns,fun g=> ?_,fun g F=> ?_⟩
 .have:=oj f y fs;omega
 .show Vg ((iq f y fs).lookup g) (if g=f then lD u else l g)
  rw[on];by_cases q:g=f
  .rw[if_pos q,if_pos q];exact t
  .rw[if_neg q,if_neg q];exact r g
 .by_cases q:g=f
  .rw[q];exact(nu f y fs).1
  .refine(nu f y fs).2 g (j g fun z=>F ?_);show(if g=f then lD u else l g)=Ld;rw[if_neg q];exact z
theorem Inv.made (I:Inv X Z Y H s):Inv X Z Y (bC (bC H s.heap.objs.size (.own (s.heap.objs.size+1))) (s.heap.objs.size+1) (.ins C s.heap.objs.size []))
  {s with heap:=(s.heap.push Sq).push (S2 C s.heap.objs.size)}:=by
 have g:(s.heap.push Sq).get? s.heap.objs.size=lD Sq:=Heap.get?_push_size s.heap rfl;have l:((s.heap.push Sq).push (S2 C s.heap.objs.size)).get? (s.heap.objs.size+1)=lD (S2 C s.heap.objs.size):=by have:=Heap.get?_push_size (s.heap.push Sq) (o:=S2 C s.heap.objs.size) rfl;rwa [Heap.size_push] at this
 have j:(s.heap.push Sq).Ns s.heap.objs.size (fun _=>Ld):=⟨Sq,#[],_,g,rfl,(fun e i=>absurd i (by simp)),fun _=>rfl⟩;have m:=I.laid (a:=s.heap.objs.size) (o:= .own (s.heap.objs.size+1)) (h':=s.heap.push Sq) (t':=s.toks) (fun b u q=>Heap.get?_push_of_some _ q) (QU _) ⟨_,g⟩;refine m.laid (a:=s.heap.objs.size+1) (o:= .ins C s.heap.objs.size []) (t':=s.toks) (fun b u q=>Heap.get?_push_of_some _ q) (adk (Heap.size_push _ _)) ?_;have ne:s.heap.objs.size≠s.heap.objs.size+1:=Rg (Uz _);refine⟨by rw[az ne,aH],Rp _,ne,l,fun _=>Ld,(Heap.Ns1.of_empty j).at fun o q=>Heap.get?_push_of_some _ q,fun _=>True.intro,fun y h=>absurd rfl h⟩
theorem GX {prog:Rf} {w:RB} {env:Env} {e:RM} {f:Str} {b:Pos} {s:QP} {Q:QH->QP->Prop} (g:attributeBase e f env (eval e env)=eval e env)
  (h:wpAny (model prog w) A (eval e env) (fun o s₁=>wpAny (model prog w) A (getAttr o f QJ) Q E s₁) E s):wpAny (model prog w) A (eval (.Attribute e f b) env) Q E s:=
 Attribute_any_ h (by rw[arm_eval_Attribute,g])
end
def KP (K:QF) (g:TE) (f:Str):TE:=fun e H Q=>g e H fun x b=>∃a C dx fs v,x= .ref a/\b a=lD (.ins C dx fs)/\Zp K C/\U4 K C f/\fs.lookup f=lD v/\Q v b
def LG (K:QF) (h g:TE) (f:Str):TS:=fun D b H=>g b H fun y i=>h b i fun x e=>∃a C dx fs,x= .ref a/\e a=lD (.ins C dx fs)/\Zp K C/\U4 K C f/\fs.length<1000/\
 D.nx b (bC e a (.ins C dx (iq f y fs)))
section
variable {X:Cx} {o e Z:RM} {f:Str} {pos Y af4:Pos} {U tv:TE}
theorem cS (m:PE X e U) (p:attributeBase e f X.env (eval e X.env)=eval e X.env):PE X (.Attribute e f pos) (KP X.K U f):=by intro b s g H Q I h;refine GX p (cA (m b s g H _ I h) fun u F ⟨x,A,y,i,a,C,dx,fs,v,r,t,c,n,l,q⟩=> ?_);subst r;obtain rfl:=i;exact yK y t c n l fun B E w j=>⟨v,A,w,j,q⟩
theorem na (ha:PE X o U) (r:PE X Z tv) (t:Sy Z (lD (.Attribute o f Y)) pos.line X.env=pure QQ):PS X (.Assign [.Attribute o f Y] Z pos) (LG X.K U tv f):=by intro b s g H D I h;refine XY (cA (r b s g H _ I h) fun u i ⟨y,F,E,j,q⟩=>cA (ha b i g F _ E q) fun L J ⟨x,M,B,m,a,C,dx,fs,v,w,c,n,l,p⟩=> ?_) t;subst v;obtain rfl:=m;exact zC B w c n l j fun G A=>⟨g,_,A,p⟩
end
section
variable {X:Cx} {pins:List (QN×Obj)} {σ:St} {H:Hp} {s:QP} {A:Rv} {E:QH->QP->Prop} {Q:QH->QP->Prop} {c:QH} {b:Bool}
inductive Xz (K:QF) (H:Hp):V->QH->Prop where
 |TN:Xz K H .TN (.type "NoneType")
 |bl (x:Bool):Xz K H (.bl x) (.type "bool")
 |int (i:Int):Xz K H (.int i) (.type "int")
 |str (x:Str):Xz K H (.str x) (.type "str")
 |flt (x:UInt64):Xz K H (.flt x) (.type "float")
 |lst {a:QN} {xs:List V} (e:H a=lD (.lst xs)):Xz K H (.ref a) (.type "list")
 |frz {a:QN} {o:Obj} {xs:List V} (e:H a=lD (.frz o (.lst xs))):Xz K H (.ref a) (.type "list")
 |tup {a:QN} {xs:List V} (e:H a=lD (.tup xs)):Xz K H (.ref a) (.type "tuple")
 |dK {a:QN} {Rj:List (cE×V)} (e:H a=lD (.dK Rj)):Xz K H (.ref a) (.type "dict")
 |dT {a:QN} {Rj:List (List cE×V)} (e:H a=lD (.dT Rj)):Xz K H (.ref a) (.type "dict")
 |ins {a C dx:QN} {fs:List (Str×V)} (e:H a=lD (.ins C dx fs)) (cl:Zp K C) (ha:RI K (.ref C) "__class__"=lD (lD (.builtin "object.__class__")))
   (hn:T7 K (.builtin "object.__class__") "__get__"=lD (lD (.builtin "getset_descriptor.__get__"))) (htk:PySem.W.takesIn K (.builtin "object.__class__")=lD QJ)
   (hm:PySem.W.mroIn K C (.type "object")=lD QJ):Xz K H (.ref a) (.ref C)
end
structure Td (k:Nat) (A:Rv):Prop where
 hd:A.handled=Ld
 dp:A.depth+3*k+5<recursionLimit
 un:A.units+16*k+200<cLine
theorem Td.mono (r:Td k A) (h:j<=k):Td j A:=⟨r.hd,by have:=r.dp;omega,by have:=r.un;omega⟩
theorem Td.deeper (r:Td (k+1) A) (env:Env):Td k (A.deeper env):=
 ⟨r.hd,by have:=r.dp;show A.depth+1+3*k+5<_;omega,by have:=r.un;show A.units+3+16*k+200<_;omega⟩
theorem ze {A:Rv}:(A.under (.builtin "type.__call__" ⟨.ref C::us,kw⟩)).depth=A.depth+1:=by
 first|rfl|simp[Rv.under,YU.weight,YU.isCreation,YU.isGuard,YU.isCaller,YU.frames,YU.isFrame,guardIds]
theorem zl {A:Rv}:(A.under (.builtin "type.__call__" ⟨.ref C::us,kw⟩)).units=A.units+1:=by
 first|rfl|simp[Rv.under,YU.cUnits,YU.frames,YU.isFrame]
theorem Td.make (r:Td (k+1) A) (C:QN) (us:List QH) (a:List (Str×QH)):Td k (A.under (.builtin "type.__call__" ⟨.ref C::us,a⟩)):=
 ⟨r.hd,by have:=r.dp;rw[ze];omega,by have:=r.un;rw[zl];omega⟩
theorem Td.depth (r:Td k A):A.depth<recursionLimit:=by have:=r.dp;omega
theorem Td.units (r:Td k A):A.units+64<cLine:=by have:=r.un;omega
def qC:TA:=fun _ H Q=>Q [] H
def mO (e:TE) (b:TA):TA:=fun a H Q=>e a H fun x g=>b a g fun xs f=>Q (x::xs) f
section
variable {X:Cx} {e:RM} {es:List RM} {te:TE} {t:TA} {pos:Pos}
theorem aI:PA X [] qC:=fun _ _ _ _ H Q I h=>Calls.spliced_nil ⟨[],H,I,.nil,h⟩
theorem am (ha:PE X e te) (n:PA X es t) (m:Rh (e::es) X.env=(QQ,eval e X.env)::Rh es X.env:=by rfl):PA X (e::es) (mO te t):=by intro pos a s b H Q I h;rw[m];refine Calls.spliced_cons (cA (ha a s b H _ I h) fun u f ⟨x,r,p,i,l⟩=> ?_);exact cA (n pos a f b r _ p l) fun v w ⟨xs,q,o,g,j⟩=>⟨x::xs,q,o,.cons i g,j⟩
def LN (t:TA):TE:=fun b H Q=>t b H fun xs a=>xs.length<=QX/\∀p,a p=Ld->Q (.ref p) (bC a p (.tup xs))
def NW (t:TA):TE:=fun b H Q=>t b H fun xs a=>xs.length<=QX/\∀p,a p=Ld->Q (.ref p) (bC a p (.lst xs))
theorem gB {x1} (h:PA X es t):PE X (.Tuple es x1 pos) (LN t):=by intro a s i H Q I l;refine wpAny_Tuple_spliced (cA (h pos a s i H _ I l) fun j f ⟨xs,n,g,r,z,q⟩=>⟨by rw[<-r.length];exact z,?_⟩);have m:=g.Sh.fresh (QU _);refine⟨.ref f.heap.objs.size,bC n f.heap.objs.size (.tup xs),g.laid (fun b u e=>Heap.get?_push_of_some _ e) (QU _) ?_,rfl,q _ m⟩;exact⟨z,j,r,⟨_,Heap.get?_push_size _ rfl,⟨rfl,_,rfl⟩,rfl⟩⟩
theorem rJ (h:PA X es t):PE X (.List es pos) (NW t):=by intro a s i H Q I l;refine wpAny_List_spliced (cA (h pos a s i H _ I l) fun j f ⟨xs,n,g,r,z,q⟩=>⟨by rw[<-r.length];exact z,?_⟩);have m:=g.Sh.fresh (QU _);refine⟨.ref f.heap.objs.size,bC n f.heap.objs.size (.lst xs),g.laid (fun b u e=>Heap.get?_push_of_some _ e) (QU _) ?_,rfl,q _ m⟩;exact⟨z,j,0,r,Heap.get?_push_size _ rfl⟩
end
abbrev Sp:=List V->Hp->VK->XK->Prop
abbrev ul:=List Env->Hp->QP->XK->QH->QP->Prop
structure Env0 (P:Rf) (w:RB) (K:QF) (mg:Str->Option QH) (base:Heap) (A:Rv) (outer:List Env) (s:QP) (H:Hp):Prop where
 frames:A.frames=lD outer
 mod:Mod K mg base
 bs:∀b o,base.get? b=lD o->s.heap.get? b=lD o/\H b=Ld
 bsz:base.objs.size<=s.heap.objs.size
 W5:s.heap.FunFrames base outer
 frf:∀b∈yZ outer,H b=Ld
 Sh:V1 P w H s.heap
 bare:AllBare s.gens
def CE (outer:List Env) (P:Rf) (w:RB) (H:Hp) (s:QP) (Q:VK) (u:QH) (a:QP):Prop:=
 ∃v H',a.os=s.os/\AllBare a.gens/\Un (yZ outer) [] H H' s.heap a.heap/\V1 P w H' a.heap/\RelV v u/\Q v H'
def CR (b:ul) (outer:List Env) (P:Rf) (w:RB) (H:Hp) (s:QP) (Q:VK) (E:XK) (r:WW) (a:QP):Prop:=
 match r with
 | .ok (.ret u)=>CE outer P w H s Q u a
 | .ok _=>False
 | .error e=>b outer H s E e a
structure FnOk (P:Rf) (w:RB) (K:QF) (mg:Str->Option QH) (base:Heap) (CX:ul) (k:Nat) (f:QN) (fd:RZ) (ps:List Str) (sp:Sp):Prop where
 len:∀vs H Q E,sp vs H Q E->vs.length=ps.length
 run:∀(A:Rv) (outer:List Env) (s:QP) (H:Hp) (args:Args) (us:List QH) (vs:List V) (Q:VK) (E:XK),Td k A->Env0 P w K mg base A outer s H->Wd s fd args (ps.zip us)->Vals vs us->sp vs H Q E->
  codeAny (model P w) A (.call (.ref f) args) (CR CX outer P w H s Q E) s
theorem FnOk.imp {P:Rf} {w:RB} {K:QF} {mg:Str->Option QH} {base:Heap} {g:ul} {k:Nat} {f:QN} {fd:RZ} {ps:List Str} {sp b:Sp} (F:FnOk P w K mg base g k f fd ps sp)
  (h:∀vs H Q E,b vs H Q E->sp vs H Q E):FnOk P w K mg base g k f fd ps b:=
 ⟨fun vs H Q E q=>F.len vs H Q E (h _ _ _ _ q),fun A a s H e i vs Q E m n o j l=>F.run A a s H e i vs Q E m n o j (h _ _ _ _ l)⟩
theorem Env0.make {K:QF} (e:Env0 P w K mg base A outer s H) (C:QN) (us:List QH) (a:List (Str×QH)):
  Env0 P w K mg base (A.under (.builtin "type.__call__" ⟨.ref C::us,a⟩)) outer s H:=⟨by first|exact e.frames|(simpa [Rv.under,YU.envs,YU.isFrame,pushEnvs] using e.frames),e.mod,e.bs,e.bsz,e.W5,e.frf,e.Sh,e.bare⟩
section
variable {X:Cx} {Z:List (QN×Obj)} {Y:St} {H:Hp} {s U:QP}
theorem Inv.aco (I:Inv X Z Y H s):Env0 X.prog X.w X.K X.mg X.base X.A X.stack s H:=
 ⟨I.ok.frames,I.ok.mod,I.bs,RA I.ok.bsz I.sz,I.stack,I.Yd,I.Sh,I.bare⟩
theorem Inv.after {Q:VK} {u:QH} (I:Inv X Z Y H s) (h:CE X.stack X.prog X.w H s Q u U):EP X Z Y Q u U:=by obtain⟨v,j,f,a,un,Sh,r,q⟩:=h;obtain⟨i,g,d,t,e⟩:=U;obtain rfl:e=s.os:=f;exact⟨v,j,I.call (h':=i) (g':=g) (d':=d) (t':=t) (ch:=[]) un Sh a (fun b z=>absurd z (by simp)),r,q⟩
end
def mB (sp:Sp) (dvs:List V) (E:XK) (t:TA):TE:=fun a H Q=>t a H fun vs b=>sp (vs++dvs) b Q E
def sG (C:QN) (m:Str) (sp:Sp) (dvs:List V) (E:XK) (f:TE) (t:TA):TE:=fun b H Q=>f b H fun x e=>∃a dx fs,x= .ref a/\e a=lD (.ins C dx fs)/\fs.lookup m=Ld/\
 t b e fun vs g=>sp (x::(vs++dvs)) g Q E
def xt (C:QN) (sp:Sp) (dvs:List V) (E:XK) (t:TA):TE:=fun b H Q=>t b H fun vs a=>∀x dx,a x=Ld->a dx=Ld->dx≠x->
 sp (.ref x::(vs++dvs)) (bC (bC a dx (.own x)) x (.ins C dx [])) (fun v e=>v= .TN/\Q (.ref x) e) E
def Binds (K:QF) (fd:RZ) (ps:List Str) (ds:List QH):Prop:=
 ∀(s:QP) (a:List QH),K.In s.heap->(a++ds).length=ps.length->Wd s fd ⟨a,[]⟩ (ps.zip (a++ds))
theorem Binds.all {K:QF} {fd:RZ} {ps:List Str} (h:∀us:List QH,us.length=ps.length->bindArgs fd ⟨us,[]⟩=pure (ps.zip us)):Binds K fd ps []:=fun s us _ a=>by rw[RF] at a⊢;exact .of_eq (h us a)
def gf (g:ul) (X:Cx) (E:XK):Prop:=∀(a:List (QN×Obj)) (f:St) (H:Hp) (s:QP) (e:QH) (b:QP),Inv X a f H s->g X.stack H s E e b->X.xe e b
section
variable {X:Cx} {Y:ul} {k:Nat} {f C:QN} {fd:RZ} {ps:List Str} {sp:Sp} {dvs:List V} {ds:List QH} {E:XK} {x m:Str} {p pos Z:Pos} {e o:RM} {es:List RM} {U:TE} {t:TA}
theorem zy {a:List (QN×Obj)} {g:St} {H:Hp} {s:QP} {Q:VK} {us:List QH} {vs:List V} (F:FnOk X.prog X.w X.K X.mg X.base Y k f fd ps sp) (n:Td k X.A) (v:Binds X.K fd ps ds) (hd:Vals dvs ds) (l:gf Y X E)
  (I:Inv X a g H s) (r:Vals vs us) (h:sp (vs++dvs) H Q E):wpAny (model X.prog X.w) X.A (call (.ref f) us) (EP X a g Q) X.xe s:=by
 have i:Vals (vs++dvs) (us++ds):=r.append hd;have q:(us++ds).length=ps.length:=by rw[<-i.length];exact F.len _ _ _ _ h
 refine We (Wf (F.run X.A X.stack s H ⟨us,[]⟩ (us++ds) (vs++dvs) Q E n I.aco (v s us I.Xy q) i h) fun r j b=> ?_);cases r with
 |error e=>exact l a g H s e j I b
 |ok y=>
  cases y with
  |ret u=>exact I.after b
  |next=>exact False.elim b
  |brk=>exact False.elim b
  |cont=>exact False.elim b
theorem zN (F:FnOk X.prog X.w X.K X.mg X.base Y k f fd ps sp) (j:Td k X.A) (n:Gl X x) (hm:X.mg x=lD (.ref f)) (l:SD X.K (.ref f)=QJ) (v:Binds X.K fd ps ds) (hd:Vals dvs ds) (i:gf Y X E)
  (ha:PA X (e::es) t) (y:(x==("__debug__":Str))=QQ:=by decide) (u:Rh (e::es) X.env=(QQ,eval e X.env)::Rh es X.env:=by rfl) (B:(backTo pos (Rh es X.env)).any (·.1)=QQ:=by rfl):
  PE X (.Call (.Name x p) (e::es) [] pos) (mB sp dvs E t):=by
 intro a s g H Q I h;refine S9 (mJ I n hm ?_ y);refine Wg I.ok.mod.kin l (cA (ha pos a s g H _ I h) fun G J ⟨vs,L,b,r,q⟩=>⟨b.Xy,?_⟩) u B;exact zy F j v hd i b r q
theorem Jt {pl:Sem Bool} (L:PE X o U) (c:Zp X.K C) (hm:Meth X.K C m f) (F:FnOk X.prog X.w X.K X.mg X.base Y k f fd ps sp) (J:Td k X.A) (M:Binds X.K fd ps ds) (hd:Vals dvs ds) (B:gf Y X E) (ha:PA X (e::es) t)
  (ef:Rh (e::es) X.env=(QQ,eval e X.env)::Rh es X.env:=by rfl) (P:(backTo pos (Rh es X.env)).any (·.1)=QQ:=by rfl)
  (G:eval (.Call (.Attribute o m Z) (e::es) [] pos) X.env=(do
   let ov<-eval o X.env
   standAt Z.atName
   let(f,first)<-holding [ov] (getMethod ov m pl)
   callWith pos f first (backTo pos (Rh (e::es) X.env)) (backToKw pos (keywordEach [] X.env))):=by rfl):
  PE X (.Call (.Attribute o m Z) (e::es) [] pos) (sG C m sp dvs E U t):=by
 intro b s g H Q I h;refine Vy (pl:=pl) (cA (L b s g H _ I h) fun u n ⟨x,R,j,v,a,dx,fs,N,O,l,q⟩=> ?_) G;subst N;obtain rfl:u=QH.ref a:=v;refine qO j O c hm l ?_;refine Wg (first:=[.ref a]) (h₀:=X.base) I.ok.mod.kin hm.kp (cA (ha pos b n g R _ j q) fun us S ⟨vs,T,i,r,y⟩=>⟨i.Xy,?_⟩) ef P;exact zy (us:= .ref a::us) (vs:= .ref a::vs) F J M hd B i (.cons rfl r) y
theorem DY {pl:Sem Bool} (y:PE X o U) (c:Zp X.K C) (hm:Meth X.K C m f) (F:FnOk X.prog X.w X.K X.mg X.base Y k f fd ps sp) (v:Td k X.A) (B:Binds X.K fd ps ds) (hd:Vals dvs ds) (n:gf Y X E)
  (r:eval (.Call (.Attribute o m Z) [] [] pos) X.env=(do
   let ov<-eval o X.env
   standAt Z.atName
   let(f,first)<-holding [ov] (getMethod ov m pl)
   callWith pos f first (backTo pos (Rh [] X.env)) (backToKw pos (keywordEach [] X.env))):=by rfl):
  PE X (.Call (.Attribute o m Z) [] [] pos) (sG C m sp dvs E U qC):=by
 intro b s i H Q I h;refine Vy (pl:=pl) (cA (y b s i H _ I h) fun u L ⟨x,M,g,j,a,dx,fs,G,J,l,q⟩=> ?_) r;subst G;obtain rfl:u=QH.ref a:=j;refine qO g J c hm l ?_;exact PySem.W.callWith_K0 (first:=[.ref a]) g.Xy hm.kp (zy (us:=[.ref a]) (vs:=[.ref a]) F v B hd n g (.cons rfl .nil) q)
structure Mk (K:QF) (C f:QN):Prop where
 makes:Xd K C=QJ
 init:RI K (.ref C) "__init__"=lD (lD (.ref f))
 fn:TF K (.ref f)=QJ
 kp:SD K (.ref C)=QJ
theorem GI (M:Mk X.K C f) (F:FnOk X.prog X.w X.K X.mg X.base Y k f fd ps sp) (q:Td (k+1) X.A) (B:Binds X.K fd ps ds) (hd:Vals dvs ds)
  (n:gf Y X E) (I:Inv X pins σ H s) (r:Vals vs us)
  (h:∀x dx,H x=Ld->H dx=Ld->dx≠x->sp (.ref x::(vs++dvs)) (bC (bC H dx (.own x)) x (.ins C dx [])) (fun v H2=>v= .TN/\Q (.ref x) H2) E):
  wpAny (model X.prog X.w) X.A (call (.ref C) us) (EP X pins σ Q) X.xe s:=by
 have i:=h (s.heap.objs.size+1) s.heap.objs.size (I.Sh.fresh (Vh _)) (I.Sh.fresh (QU _)) (Rg (Uz _));have b:=Inv.made (C:=C) I;have g:Vals (V.ref (s.heap.objs.size+1)::(vs++dvs)) (QH.ref (s.heap.objs.size+1)::(us++ds)):= .cons rfl (r.append hd);have y:(QH.ref (s.heap.objs.size+1)::us++ds).length=ps.length:=by have e:=g.length;rw[F.len _ _ _ _ i] at e;exact e.symm
 refine We (F0 I.Xy M.makes M.init (beq_iff_eq.mp M.fn) (Wf (F.run _ X.stack _ _ ⟨QH.ref (s.heap.objs.size+1)::us,[]⟩ (QH.ref (s.heap.objs.size+1)::(us++ds)) _ _ E (q.make C us [])
  (b.aco.make C us []) (B _ (QH.ref (s.heap.objs.size+1)::us) b.Xy y) g i) fun r j a=> ?_))
 cases r with
 |error e=>exact n pins σ _ _ e j b a
 |ok G=>
  cases G with
  |ret u=>obtain⟨v,L,J,rv,ev,l⟩:=b.after a;subst ev;exact⟨rv,⟨V.ref (s.heap.objs.size+1),L,J,rfl,l⟩⟩
  |next=>exact False.elim a
  |brk=>exact False.elim a
  |cont=>exact False.elim a
theorem IM (M:Mk X.K C f) (F:FnOk X.prog X.w X.K X.mg X.base Y k f fd ps sp) (j:Td (k+1) X.A) (l:Gl X x) (hm:X.mg x=lD (.ref C)) (u:Binds X.K fd ps ds) (hd:Vals dvs ds) (i:gf Y X E)
  (ha:PA X (e::es) t) (v:(x==("__debug__":Str))=QQ:=by decide) (n:Rh (e::es) X.env=(QQ,eval e X.env)::Rh es X.env:=by rfl) (y:(backTo pos (Rh es X.env)).any (·.1)=QQ:=by rfl):
  PE X (.Call (.Name x p) (e::es) [] pos) (xt C sp dvs E t):=by
 intro a s g H Q I h;refine S9 (mJ I l hm ?_ v);refine Wg I.ok.mod.kin M.kp (cA (ha pos a s g H _ I h) fun B G ⟨vs,J,b,r,q⟩=>⟨b.Xy,?_⟩) n y;exact GI M F j u hd i b r q
end
section
variable {X:Cx} {CX:ul} {k:Nat} {f C:QN} {fd:RZ} {ps ks:List Str} {sp:Sp} {E:XK} {x m:Str} {p pos apos akI:Pos} {e o:RM} {es:List RM} {kws:List XM} {te ta:TE} {t tk:TA} {nm:Option Str}
structure af9 (K:QF) (fd:RZ) (ps ks:List Str) (g:List QH->List QH->List QH) (gV:List V->List V->List V):Prop where
 to:∀(s:QP) (us ws:List QH),K.In s.heap->(g us ws).length=ps.length->Wd s fd ⟨us,ks.zip ws⟩ (ps.zip (g us ws))
 rel:∀{vs:List V} {us:List QH} {zs:List V} {ws:List QH},Vals vs us->Vals zs ws->Vals (gV vs zs) (g us ws)
variable {g:List QH->List QH->List QH} {gV:List V->List V->List V}
end
structure TK (N P:List Str) (sc:Uy):Prop where
 kind:sc.kind= .function
 co:sc.isCoroutine=QQ
 gen:sc.isGenerator=QQ
 nd:N.Nodup
 pre:N.take P.length=P
 par:∀x∈P,sc.names.lookup x=lD .local\/sc.names.lookup x=lD .cell
 acC:∀y∈sc.names,y.2≠ .free
theorem sC {a:Str->Option Rx}:∀{binds:List (Str×QH)} {m:Str->Option QH},(∀v,(x,v)∉binds)->bindL a binds m x=m x
 |[],_,_=>rfl
 |(n,v)::r,m,h=>by
  unfold bindL;rw[sC fun w b=>h w (QV _ b)];split
  .have:x≠n:=by rintro rfl;exact h v QS
   simp[this]
  .rfl
theorem sS {a:Str->Option Rx}:∀{binds:List (Str×QH)} {m:Str->Option QH},(∀v,(x,v)∉binds)->bindC a binds m x=m x
 |[],_,_=>rfl
 |(n,v)::r,m,h=>by
  unfold bindC;rw[sS fun w b=>h w (QV _ b)];split
  .rfl
  .have:x≠n:=by rintro rfl;exact h v QS
   simp[this]
theorem tj {kindOf:Str->Option Rx}:∀{P:List Str} {vs:List QH} {i:Nat} {m:Str->Option QH},P.Nodup->P[i]? =lD x->vs[i]? =lD v->kindOf x=lD .local->
  bindL kindOf (P.zip vs) m x=lD v
 |[],_,_,_,_,h,_,_=>by simp at h
 |_::_,[],_,_,_,_,h,_=>by simp at h
 |p::P,w::vs,0,m,nd,h1,h2,hk=>by simp at h1 h2;subst h1;subst h2;show bindL kindOf ((p,w)::P.zip vs) m p=_;unfold bindL;rw[sC fun v hv=>(Sw.mp nd).1 (T4 hv).1,if_pos hk];simp
 |p::P,w::vs,i+1,m,nd,h1,h2,hk=>by unfold bindL;exact tj (Sw.mp nd).2 (by simpa using h1) (by simpa using h2) hk
theorem tE {kindOf:Str->Option Rx}:∀{P:List Str} {vs:List QH} {i:Nat} {m:Str->Option QH},P.Nodup->P[i]? =lD x->vs[i]? =lD v->kindOf x≠lD .local->
  bindC kindOf (P.zip vs) m x=lD v
 |[],_,_,_,_,h,_,_=>by simp at h
 |_::_,[],_,_,_,_,h,_=>by simp at h
 |p::P,w::vs,0,m,nd,h1,h2,hk=>by simp at h1 h2;subst h1;subst h2;show bindC kindOf ((p,w)::P.zip vs) m p=_;unfold bindC;rw[sS fun v hv=>(Sw.mp nd).1 (T4 hv).1,if_neg hk];simp
 |p::P,w::vs,i+1,m,nd,h1,h2,hk=>by unfold bindC;exact tE (Sw.mp nd).2 (by simpa using h1) (by simpa using h2) hk
def start (N:List Str) (vs:List V):St:=vs.map lD++QT (N.length - vs.length) Ld
def fT (i:ul) (P:Rf) (w:RB) (K:QF) (mg:Str->Option QH) (base:Heap) (N:List Str) (b:Str) (a:Uy) (f:QN) (h:QH) (A:Rv) (outer:List Env) (s:QP) (H:Hp) (E:XK):Cx where
 prog:=P
 w:=w
 K:=K
 mg:=mg
 base:=base
 A:=A.deeper (envOfC b a s.heap.objs.size f h)
 N:=N
 s₀:=s
 H₀:=H
 env:=envOfC b a s.heap.objs.size f h
 outer:=outer
 stack:=envOfC b a s.heap.objs.size f h::outer
 ex:=[]
 calm:=QJ
 fn:=fun _=>QJ
 pn:=[]
 xe:=fun e j=>wpAny (model P w) (A.deeper (envOfC b a s.heap.objs.size f h)) (leaving (envOfC b a s.heap.objs.size f h) e) (fun _ g=>i outer H s E e g) (fun l g=>i outer H s E l g) j
theorem xC {a:Uy} (h:a.names.lookup x=lD .cell):∃c,(S4 n a.names []).lookup x=lD c:=by have q:=T8 a.names n [] (.inl h);exact XZ.mp q
theorem CN {K:QF}
  (S:TK N ps scope) (hd:A.handled=Ld) (e0:Env0 P w K mg base A outer s H) (F:vs.length=ps.length) (r:Vals vs us)
  (x:InCallC s s.heap.objs.size (bindL (envOfC qual scope s.heap.objs.size f cd).kindOf (ps.zip us) fun _=>Ld) (S4 (s.heap.objs.size+1) scope.names []) (bindC (envOfC qual scope s.heap.objs.size f cd).kindOf (ps.zip us) fun _=>Ld) s1):
  Inv (fT CX P w K mg base N qual scope f cd A outer s H E) [] (start N vs) H s1:=by
 have I:ps.length<=N.length:=by have:=congrArg U9 S.pre;rw[Sl] at this;omega
 obtain⟨o,C,rfl,B⟩:=x.done;have j:∀b:QN,b∉(fT CX P w K mg base N qual scope f cd A outer s H E).ex:=fun b z=>absurd (show b∈([]:List QN) from z) (by simp);refine⟨⟨e0.mod,S.kind,rfl,rfl,QU _,fun y z c o g=> ?_,fun y l=> ?_,fun y c _ h=> ?_,fun _=>hd,Rv.frames_deeper e0.frames,.inr ⟨rfl,rfl⟩,fun b z=>absurd z (j b),e0.bs,e0.bsz,fun b _ _=>j b,fun b z=>absurd z (j b),e0.W5,e0.frf⟩,
  rfl,e0.bare,Un.kept B,⟨_,x.toInCall.ns,fun i y v o g G=> ?_⟩,fun y c h=>⟨_,x.cell y c h⟩,e0.Sh.fresh (QU _),fun y c h=> ?_,fun p n=>absurd (show p∈([]:List (QN×Obj)) from n) (by simp),e0.Sh.kept B,?_⟩
 .exact name_of_addr x.apart (SM o) (SM g)
 .have l:=l
  rcases l with l|l
  .exact xC l
  .exact absurd rfl (S.acC _ (SM l))
 .exact VH (x.above y c (SM h))
 .have hi:i<vs.length:=by
   unfold start at g;by_cases hi:i<vs.length
   .exact hi
   .rw[Ro (by simpa using hi)] at g;rw[Ti] at g;split at g<;>cases g
  have ha:vs[i]? =lD v:=by
   unfold start at g;rw[Q1 (by simpa using hi),QW] at g;cases e:vs[i]? with
   |none=>rw[e] at g;cases g
   |some a=>rw[e] at g;cases g;rfl
  obtain⟨u,t,rv⟩:=r.get ha;have n:ps[i]? =lD y:=by rw[<-S.pre,List.getElem?_take_of_lt (by omega)];exact o
  have m:ps.Nodup:=by rw[<-S.pre];exact S.nd.sublist (List.take_sublist _ _)
  refine⟨u,rv,?_⟩;rcases S.par y (Ry n) with k|k
  .exact .inl ⟨k,tj m n t k⟩
  .obtain⟨c,e⟩:=xC k;refine .inr ⟨.inl k,c,e,?_⟩;have q:=x.cell y c e;rw[tE m n t (by show scope.names.lookup y≠_;rw[k];decide)] at q;exact q
 .exact e0.Sh.fresh (VH (x.above y c (SM h)))
 .unfold start;show _=N.length;rw[QO,QI,Rt];omega
theorem DC {CX:ul} {P:Rf} {w:RB} {K:QF} {mg:Str->Option QH} {base:Heap} {k:Nat} {f:QN} {name qual:Str} {params:Arguments} {body:List Th} {scope:Uy} {dV kV doc pm So ct oc:QH} {an od:Option QN}
  {YR:Array (Option QH)} {N ps:List Str} {sp:Sp} (lk:K.lookup f=lD ⟨oc,od,.func (Sr name qual params body scope dV kV doc pm an So ct),YR⟩) (YE:UK K So qual=QJ) (S:TK N ps scope)
  (len:∀vs H Q E,sp vs H Q E->vs.length=ps.length)
  (TX:∀(A:Rv) (outer:List Env) (s:QP) (H:Hp) (vs:List V) (Q:VK) (E:XK),Td k (A.deeper (envOfC qual scope s.heap.objs.size f So))->sp vs H Q E->
   ∃t,Xa (fT CX P w K mg base N qual scope f So A outer s H E) body t/\t {nx:=fun _ H'=>Q .TN H',rt:=Q} (start N vs) H):
  FnOk P w K mg base CX (k+1) f (Sr name qual params body scope dV kV doc pm an So ct) ps sp:=by
 refine⟨len,fun A outer s H args us vs Q E hr e0 hb r hsp=> ?_⟩;have hl:=len _ _ _ _ hsp;have KX:K.In s.heap:=e0.mod.kin.keeps fun b o e=>(e0.bs b o e).1;have lim:s.heap.NoLimit:=e0.mod.nolimit.keeps fun b o e=>(e0.bs b o e).1;have UY:∀y∈ps.zip us,scope.names.lookup y.1=lD .local\/(scope.names.lookup y.1=lD .cell/\((S4 (s.heap.objs.size+1) scope.names []).lookup y.1).isSome=QJ):=fun⟨n,v⟩ hy=>by
  rcases S.par n (T4 hy).1 with q|q
  .exact .inl q
  .exact .inr ⟨q,T8 _ _ _ (.inl q)⟩
 refine codeAny_call_function hr.depth (KX _ _ lk) rfl S.co S.gen rfl (PySem.W.codeRec_of KX YE) (hb _ _ _ _ ?_);refine wpAny_newFunctionEnv_cells S.kind UY fun env he s1 x=> ?_;subst he;refine⟨lim.keeps x.toInCall.keep,codeAny_func ?_⟩;obtain⟨t,ht,hq⟩:=TX A outer s H vs Q E (hr.deeper _) hsp;have I:Inv (fT CX P w K mg base N qual scope f So A outer s H E) [] (start N vs) H s1:=CN S hr.hd e0 hl r x;refine wpAny_mono (ht [] s1 (start N vs) H _ I hq) (fun fl s' hs=> ?_) fun e s' hs=>hs
 have fin:∀{σ':St} {H':Hp} {v:V} {u:QH},Inv (fT CX P w K mg base N qual scope f So A outer s H E) [] σ' H' s'->RelV v u->Q v H'->CE outer P w H s Q u s':=
  fun{σ' H' v u} J rv q=>⟨v,H',J.os,J.bare,J.base,J.Sh,rv,q⟩
 cases fl with
 |ret u=>obtain⟨v,σ',H',J,rv,q⟩:=hs;exact fin J rv q
 |next=>obtain⟨σ',H',J,q⟩:=hs;exact fin (v:=V.TN) (u:=QH.none) J rfl q
 |brk=>obtain⟨_,_,_,q⟩:=hs;exact False.elim q
 |cont=>obtain⟨_,_,_,q⟩:=hs;exact False.elim q
section
variable {X:Cx} {x:Str} {p pos:Pos} {e:RM} {es:List RM} {t:TA} {id T:String} {r:List V->Hp->VK->Prop}
def Kf (r:List V->Hp->VK->Prop) (t:TA):TE:=fun a H Q=>t a H fun vs b=>r vs b Q
theorem eG (o:Ub X (.builtin id) r) (m:Gl X x) (hm:X.mg x=Ld) (l:Se x=lD (.builtin id)) (ha:PA X (e::es) t) (hn:x≠ "__name__":=by decide) (q:(x==("__debug__":Str))=QQ:=by decide)
  (n:Rh (e::es) X.env=(QQ,eval e X.env)::Rh es X.env:=by rfl) (u:(backTo pos (Rh es X.env)).any (·.1)=QQ:=by rfl):PE X (.Call (.Name x p) (e::es) [] pos) (Kf r t):=by
 intro a s b H Q I h;refine S9 (lB I m hm l ?_ hn q);exact aep (cA (ha pos a s b H _ I h) fun f g ⟨vs,w,v,i,j⟩=>o a g b w vs f Q v i j) n u
theorem gR (o:Ub X (.type T) r) (m:Gl X x) (hm:X.mg x=Ld) (l:Se x=lD (.type T)) (ha:PA X (e::es) t) (hn:x≠ "__name__":=by decide) (q:(x==("__debug__":Str))=QQ:=by decide)
  (n:Rh (e::es) X.env=(QQ,eval e X.env)::Rh es X.env:=by rfl) (u:(backTo pos (Rh es X.env)).any (·.1)=QQ:=by rfl):PE X (.Call (.Name x p) (e::es) [] pos) (Kf r t):=by
 intro a s b H Q I h;refine S9 (lB I m hm l ?_ hn q);exact SG (cA (ha pos a s b H _ I h) fun f g ⟨vs,w,v,i,j⟩=>o a g b w vs f Q v i j) n u
end
end L2
namespace HT
open PySem PyProof.Rows
section
open PySem.SeqAt
open PySem.AutoSeq1 (wpAny_loadPart')
open PySem.MeetsSeq PySem.MeetsSeq2 PySem.MeetsSeq3
end
section
variable {prog:Rf} {w:RB} {A:Rv} {E:QH->QP->Prop} {s:QP}
theorem cat_tup {t b:QN} {vs ws:List QH} {Q:QH->QP->Prop} (v:IsTup s.heap t vs.toArray) (y:IsTup s.heap b ws.toArray) (p:vs≠[])
  (C:ws=[]->Q (.ref t) s) (B:ws≠[]->Q (.ref s.heap.objs.size) {s with heap:=s.heap.push {cls:= .type "tuple",data:= .seq (vs++ws).toArray}})
  (hsz:vs.length+ws.length<=QX):wpAny (model prog w) A (SY .Add (.ref t) (.ref b)) Q E s:=by
 obtain⟨⟨cls,dd,data,m⟩,j,r,n,q⟩:=id v;obtain⟨⟨F,h,l,u⟩,a,g,o,f⟩:=id y;simp only at r q g f;subst r q g f;have e:vs.toArray++ws.toArray=(vs++ws).toArray:=by simp
 by_cases i:ws=[]
 .exact concat_meets ⟨_,j,rfl⟩ ⟨_,a,rfl⟩ adl ahy X7 X0 (XN _ _)
   (tuple_addW1 t b vs.toArray ws.toArray n o dd h m u (by simpa using p) (by simp[i])) ⟨j,a,C i⟩
 .refine concat_meets ⟨_,j,rfl⟩ ⟨_,a,rfl⟩ adl ahy X7 X0 (XN _ _)
   (tuple_addW2 t b vs.toArray ws.toArray n o dd h m u (by simpa using p) (by simpa using i) (by rw[QZ,QZ];exact hsz)) ⟨j,a,?_⟩
  rw[e];exact B i
def sIx (n d:Nat):Option Int->Nat
 |none=>d
 |some v=>if v<0 then(v+(n:Int)).toNat else min v.toNat n
theorem sIx_none (n d:Nat):sIx n d Ld=d:=rfl
theorem sIx_nat (n d k:Nat):sIx n d (lD (k:Int))=min k n:=by show(if(k:Int)<0 then((k:Int)+(n:Int)).toNat else min (k:Int).toNat n)=min k n;rw[if_neg (by omega),RY]
theorem LU (n d:Nat) (hd:d<=n) (o:Option Int):sIx n d o<=n:=by
 cases o with
 |none=>exact hd
 |some v=>
  show(if v<0 then(v+(n:Int)).toNat else min v.toNat n)<=n;by_cases a:v<0
  .rw[if_pos a];omega
  .rw[if_neg a];exact Xo _ _
theorem z5 (v:Int) (n d:Nat):(if v<0 then max (v+(n:Int)) 0 else min v (n:Int))=((sIx n d (lD v):Nat):Int):=by
 show(if v<0 then max (v+(n:Int)) 0 else min v (n:Int))=(((if v<0 then(v+(n:Int)).toNat else min v.toNat n):Nat):Int);by_cases a:v<0
 .simp only[if_pos a];omega
 .simp only[if_neg a];omega
theorem yG (lo hi:Option Int) (n:Nat):Builtin.Slice.sliceAdjust lo hi 1 (n:Int)=(((sIx n 0 lo:Nat):Int),((sIx n n hi:Nat):Int)):=by
 have a:¬((1:Int)<0):=by omega
 unfold Builtin.Slice.sliceAdjust;simp only[a,if_false];refine Prod.ext ?_ ?_
 .cases lo with
  |none=>rfl
  |some v=>exact z5 v n 0
 .cases hi with
  |none=>rfl
  |some v=>exact z5 v n n
theorem yy (i j:Nat):Builtin.Slice.slicePlaces (i:Int) (j:Int) 1=j - i:=by
 unfold Builtin.Slice.slicePlaces;have a:(1:Int)>0:=by omega
 simp only[a,if_true,Int.ediv_one];split<;>omega
theorem qQ (p:WX v o) (h:Q o s):wpAny (model prog w) A (Builtin.Slice.slicePartIndex v) Q E s:=by
 cases p with
 |none=>exact slicePart_none h
 |int i t=>exact slicePart_int h
theorem iU {lo hi:Option Int} {Q:Int×Int×Nat->QP->Prop} (f:s.heap.IsSliceOf sl vl vu .none) (pl:WX vl lo) (e:WX vu hi)
  (h:Q (((sIx n 0 lo:Nat):Int),1,sIx n n hi - sIx n 0 lo) s):wpAny (model prog w) A (Builtin.Slice.sliceApplied (.ref sl) (pure (n:Int))) Q E s:=by
 obtain⟨i,a,g,b⟩:=id f;unfold Builtin.Slice.sliceApplied Builtin.Slice.sliceFields;refine QG (QG (RU a b rfl (QG (RU a b rfl (QG (RU a b rfl (QR ?_)))))));refine QG (slicePart_none ?_);rw[if_neg (by decide)];refine QG (qQ pl (QG (qQ e (QG (QR ?_)))));show wpAny _ _ (match Builtin.Slice.sliceAdjust lo hi 1 (n:Int) with|(lo,hi)=>pure (lo,(1:Int),Builtin.Slice.slicePlaces lo hi 1)) _ _ s;rw[yG lo hi n];show wpAny _ _ (pure (((sIx n 0 lo:Nat):Int),(1:Int),Builtin.Slice.slicePlaces ((sIx n 0 lo:Nat):Int) ((sIx n n hi:Nat):Int) 1)) _ _ s;rw[yy];exact QR h
theorem Ea (xs:Array QH) (i k:Nat):((Q0 k).filterMap fun(m:Nat)=>xs[((i:Int)+(m:Int)*1).toNat]?).toArray=((xs.toList.drop i).take k).toArray:=by
 have e:(fun(m:Nat)=>xs[((i:Int)+(m:Int)*1).toNat]?)=fun m=>xs[i+m]? :=by
  funext m;have:((i:Int)+(m:Int)*1).toNat=i+m:=by omega
  rw[this]
 rw[e];have:=pick_run xs i k;rw[List.filterMap_map] at this;have a:((fun x=>xs[x]?)∘fun x=>i+x)=fun m=>xs[i+m]? :=rfl;rw[a] at this;rw[this]
theorem getItem_tuple_cut {lo hi:Option Int} (a:IsTup s.heap t items) (j:s.heap.IsSliceOf sl vl vu .none) (pl:WX vl lo) (l:WX vu hi)
  (n:¬(sIx items.size 0 lo=0/\sIx items.size items.size hi=items.size))
  (h:Q (.ref s.heap.objs.size) {s with heap:=s.heap.push {cls:= .type "tuple",data:= .seq ((items.toList.drop (sIx items.size 0 lo)).take (sIx items.size items.size hi - sIx items.size 0 lo)).toArray}})
  (hsz:items.size<=QX):wpAny (model prog w) A (getItem (.ref t) (.ref sl)) Q E s:=by
 have b:sizeOk (.seq ((items.toList.drop (sIx items.size 0 lo)).take (sIx items.size items.size hi - sIx items.size 0 lo)).toArray):=by show((items.toList.drop (sIx items.size 0 lo)).take (sIx items.size items.size hi - sIx items.size 0 lo)).toArray.size<=QX;rw[QZ,Sl,TR,RN];omega
 have u:sIx items.size items.size hi<=items.size:=LU _ _ (QU _) hi;obtain⟨m,e,g,o⟩:=id j;have i:s.TypeIs (.ref sl) "slice":=⟨m,e,g⟩;unfold getItem
 try specialize Sx ?_
 first|refine QG (QR ?_)|skip
 refine QG (acH a.typeIs (by decide) ?_);refine QG (SS a.typeIs Sb
  (S5 Sb a.typeIs entry_tuple_getitem ?_ (args_tuple_getitem _ _)))
 show wpAny _ _ (Builtin.Tuple.tupleItemsOf (.ref t)>>=_) _ _ s;refine QG (tupleItemsOf_ a ?_);refine QG (UA i ?_);rw[if_pos (by decide)];refine QG (iU j pl l ?_);have f:¬((((sIx items.size 0 lo:Nat):Int)==0&&(1:Int)==1&&(sIx items.size items.size hi - sIx items.size 0 lo)==items.size)=QJ):=by intro q;rw[Q6,Q6] at q;have r:=eq_of_beq q.1.1;have p:=eq_of_beq q.2;exact n ⟨by omega,by omega⟩
 show wpAny _ _ (if(((sIx items.size 0 lo:Nat):Int)==0&&(1:Int)==1&&(sIx items.size items.size hi - sIx items.size 0 lo)==items.size)=QJ then _ else _) _ _ s;rw[if_neg f,Ea]
 first
  |exact QG (Sf (QR ⟨_,rfl,QR h⟩) b)
  |exact QG (Sf (QG (QR (QR ⟨_,rfl,QR h⟩))) b)
  |exact QG (QG (Sf (QR (QR ⟨_,rfl,QR h⟩)) b))
  |exact QG (QG (Sf (QR ⟨_,rfl,QR h⟩) b))
end
end HT
namespace L2
open PySem PySem.Spec PyProof.Rows
abbrev TO:=St->Hp->(Option Int->Hp->Prop)->Prop
def PO (X:Cx) (e:Option RM) (t:TO):Prop:=
 ∀(a:List (QN×Obj)) (s:QP) (b:St) (H:Hp) (Q:Option Int->Hp->Prop),Inv X a b H s->t b H Q->
  wpAny (model X.prog X.w) X.A (evalPart e X.env) (fun u f=>∃o H',Inv X a b H' f/\WX u o/\Q o H') X.xe s
def zM:TO:=fun _ H Q=>Q Ld H
def JL (t:TE):TO:=fun a H Q=>t a H fun x b=>∃i,x= .int i/\Q (lD i) b
theorem lG:∀{us:List QH},Vals (ns.map V.int) us->IntsAre us ns:=by
 induction ns with
 |nil=>intro us r;rw[UO] at r;cases r;exact .nil
 |cons n ns f=>
  intro us r;rw[Q3] at r;cases r with
  |cons b a=>obtain⟨t,e⟩:=b;subst e;exact .cons n t (f a)
section
variable {X:Cx} {e:RM} {U:TE} {Z Y:Option RM} {S R:TO} {pos P:Pos}
theorem IV:PO X Ld zM:=by intro a s b H Q I h;rw[ahz];exact QR ⟨Ld,H,I,.none,h⟩
theorem vA (h:PE X e U):PO X (lD e) (JL U):=by intro a s b H Q I j;rw[evalPart_some];refine cA (h a s b H _ I j) fun u n ⟨x,m,l,f,g⟩=> ?_;obtain⟨i,rfl,q⟩:=g;obtain⟨t,rfl⟩:=f;exact⟨lD i,m,l,.int i t,q⟩
def L7 (X:Cx) (r:V->Option Int->Option Int->Hp->VK->Prop):Prop:=
 ∀(a:List (QN×Obj)) (s:QP) (b:St) (H:Hp) (x:V) (v g f:QH) (Z Y:Option Int) (h:QN) (Q:VK),Inv X a b H s->RelV x v->s.heap.IsSliceOf h g f .none->WX g Z->WX f Y->r x Z Y H Q->
  ∃T id,typeLookup (.type T) "__getitem__"=pure (lD (.builtin id))/\s.TypeIs v T/\wpAny (model X.prog X.w) X.A (getItem v (.ref h)) (EP X a b Q) X.xe s
def Qc (r:V->Option Int->Option Int->Hp->VK->Prop) (U:TE) (S R:TO):TE:=fun a H Q=>U a H fun x g=>S a g fun l f=>R a f fun u b=>r x l u b Q
theorem wz {r:V->Option Int->Option Int->Hp->VK->Prop} (G:L7 X r) (L:PE X e U) (J:PO X Z S) (E:PO X Y R):PE X (.Subscript e (.Slice Z Y Ld P) pos) (Qc r U S R):=by intro a s g H Q I h;refine Subscript_ (cA (L a s g H _ I h) fun v o ⟨x,H1,I1,p,B⟩=> ?_);refine wpAny_Slice (cA (J a o g H1 _ I1 B) fun j n ⟨l,H2,I2,pl,y⟩=>cA (E a n g H2 _ I2 y) fun i f ⟨u,m,O,C,t⟩=> ?_);rw[ahz];refine QR ?_;have N:Inv X a g m {f with heap:=f.heap.push {cls:= .type "slice",data:= .fields #[j,i,.none]}}:=O.kept (t':=f.toks) fun b ob q=>Heap.get?_push_of_some _ q;obtain⟨T,id,M,F,K⟩:=G a {f with heap:=f.heap.push {cls:= .type "slice",data:= .fields #[j,i,.none]}} g m x v j i l u f.heap.objs.size Q N p (Heap.IsSliceOf.new ..) pl C t;show wpAny (model X.prog X.w) X.A (subscriptTail e (.Slice Z Y Ld P) v (.ref f.heap.objs.size)) (EP X a g Q) X.xe {f with heap:=f.heap.push {cls:= .type "slice",data:= .fields #[j,i,.none]}};exact tail_any (ops:=[.ref f.heap.objs.size,v]) F M K (by with_unfolding_all rfl)
def BW (xs:List V) (Z Y:Option Int):List V:=(xs.drop (HT.sIx xs.length 0 Z)).take (HT.sIx xs.length xs.length Y - HT.sIx xs.length 0 Z)
theorem nW (xs:List V) (Z Y:Option Int):(BW xs Z Y).length<=xs.length:=by unfold BW;rw[Sl,TR];omega
def OB (K:QF):V->Option Int->Option Int->Hp->VK->Prop:=fun x Z Y H Q=>∃a xs,x= .ref a/\Vn K H a xs/\
 ¬(HT.sIx xs.length 0 Z=0/\HT.sIx xs.length xs.length Y=xs.length)/\∀p,H p=Ld->Q (.ref p) (bC H p (.tup (BW xs Z Y)))
theorem Mg:L7 X (OB X.K):=by
 intro g s u H x v y w Z Y A Q I l p pl m h;obtain⟨a,xs,rfl,n,o,q⟩:=h;cases l;obtain⟨t,r,j,i⟩:=I.tuple n;have f:t.toArray.size=xs.length:=by rw[QZ];exact r.length.symm
 refine⟨"tuple",_,Sb.lookup,j.typeIs,?_⟩;refine HT.getItem_tuple_cut j p pl m (by rw[f];exact o) ?_ (by rw[f];exact i);rw[f];refine⟨.ref s.heap.objs.size,_,I.laid (fun b B q=>Heap.get?_push_of_some _ q) (QU _) ?_,rfl,q _ (I.Sh.fresh (QU _))⟩;exact⟨RA (nW xs Z Y) i,_,(r.drop (HT.sIx xs.length 0 Z)).take (HT.sIx xs.length xs.length Y - HT.sIx xs.length 0 Z),Xj.new _ _⟩
def Kx (K:QF):R2:=fun x y H Q=>∃a b xs ys,x= .ref a/\y= .ref b/\Vn K H a xs/\Vn K H b ys/\xs≠[]/\xs.length+ys.length<=QX/\
 (ys=[]->Q (.ref a) H)/\(ys≠[]->∀p,H p=Ld->Q (.ref p) (bC H p (.tup (xs++ys))))
theorem Vals.Yf (r:Vals xs us):us=[]↔xs=[]:=by
 cases r with
 |nil=>simp
 |cons _ _=>simp
theorem Jh:OpR X (SY .Add) (Kx X.K):=by intro i s A H x y v u Q I m l h;obtain⟨a,b,xs,B,rfl,rfl,ha,t,r,j,o,n⟩:=h;cases m;cases l;obtain⟨F,g,p,_⟩:=I.tuple ha;obtain⟨E,f,P,_⟩:=I.tuple t;refine HT.cat_tup p P (fun z=>r (g.Yf.mp z)) (fun z=>⟨.ref a,H,I,rfl,o (f.Yf.mp z)⟩) (fun z=> ?_) (by rw[<-g.length,<-f.length];exact j);refine⟨.ref s.heap.objs.size,_,I.laid (fun b C q=>Heap.get?_push_of_some _ q) (QU _) ?_,rfl,n (fun w=>z (f.Yf.mpr w)) _ (I.Sh.fresh (QU _))⟩;exact⟨by rw[QO];exact j,_,g.append f,Xj.new _ _⟩
end
def J7 (n:Nat) (i:Int):Option Nat:=if 0<=i then(if i<n then lD i.toNat else Ld) else if -(n:Int)<=i then lD (i+n).toNat else Ld
def lL (xs:List α) (i:Int):Option α:=(J7 xs.length i).bind fun j=>xs[j]?
theorem HW (h:J7 n i=lD j):seqIndex? i n=lD j/\j<n/\ -(n:Int)<=i/\i<n:=by
 unfold J7 at h;by_cases b:0<=i
 .rw[if_pos b] at h
  by_cases a:i<n
  .rw[if_pos a] at h;have e:=Ra h;exact⟨by rw[seqIndex_of b a,e],by omega,by omega,a⟩
  .rw[if_neg a] at h;cases h
 .rw[if_neg b] at h
  by_cases a: -(n:Int)<=i
  .rw[if_pos a] at h;have e:=Ra h;exact⟨by rw[seqIndex_neg (by omega) a,e],by omega,a,by omega⟩
  .rw[if_neg a] at h;cases h
theorem tL (h:lL xs i=lD v):∃j,seqIndex? i xs.length=lD j/\xs[j]? =lD v/\j<xs.length/\ -(xs.length:Int)<=i/\i<xs.length:=by
 unfold lL at h;cases e:J7 xs.length i with
 |none=>rw[e] at h;cases h
 |some j=>rw[e] at h;obtain⟨g,f,b,a⟩:=HW e;exact⟨j,g,h,f,b,a⟩
theorem AH {j:Nat} (h:xs[j]? =lD v):lL xs (j:Int)=lD v:=by
 have a:=(QM.mp h).1;have e:J7 xs.length (j:Int)=lD j:=by unfold J7;rw[if_pos (by omega),if_pos (by omega)];simp
 unfold lL;rw[e];exact h
def G4 (b:RM):Prop:=∀o i,subscripted b QQ o i=operate [o,i] (getItem o i)
def IxR (X:Cx) (r:R2):Prop:=
 ∀(e a:RM) (b:List (QN×Obj)) (s:QP) (f:St) (H:Hp) (x y:V) (v u:QH) (Q:VK),Inv X b f H s->RelV x v->RelV y u->r x y H Q->
  subscripted a QQ v u=operate [v,u] (getItem v u)->wpAny (model X.prog X.w) X.A (subscriptTail e a v u) (EP X b f Q) X.xe s
def Pm (X:Cx) (f:String) (r:V->List V->Hp->VK->Prop):Prop:=
 ∀(a:List (QN×Obj)) (s:QP) (b:St) (H:Hp) (x:V) (xs:List V) (v:QH) (e:List QH) (Q:VK),Inv X a b H s->RelV x v->Vals xs e->r x xs H Q->
  wpAny (model X.prog X.w) X.A (call (.builtin f) (v::e)) (EP X a b Q) X.xe s
section
variable {X:Cx} {a b:RM} {ta tb:TE} {pos:Pos}
theorem IxR.or (h:IxR X r) (h':IxR X r'):IxR X (fun x y H Q=>r x y H Q\/r' x y H Q):=by
 intro e f g s i H x y v u Q I l j q m;rcases q with q|q
 .exact h e f g s i H x y v u Q I l j q m
 .exact h' e f g s i H x y v u Q I l j q m
theorem cM {r:R2} (m:IxR X r) (ha:PE X a ta) (n:PE X b tb) (l:G4 b):PE X (.Subscript a b pos) (LI r ta tb):=by intro e s f H Q I h;exact Subscript_ (LZ ha n I h fun v u g x y p o j i q=>m a b e g f p x y v u Q o j i q (l _ _))
def Oc (K:QF):R2:=fun x y H Q=>∃p xs i v,x= .ref p/\y= .int i/\Ve K H p xs/\lL xs i=lD v/\Q v H
def Oe (K:QF):R2:=fun x y H Q=>∃p xs i v,x= .ref p/\y= .int i/\Vn K H p xs/\lL xs i=lD v/\Q v H
def Oa:R2:=fun x y H Q=>∃z i c,x= .str z/\y= .int i/\z.length<=QX/\lL z.cps.toList i=lD c/\Q (.str ⟨#[c]⟩) H
theorem Jz:IxR X (Oc X.K):=by
 intro l m e s C H x y v u Q I F E h o;obtain⟨p,xs,i,z,rfl,rfl,G,L,q⟩:=h;cases F;obtain⟨t,rfl⟩:=E;obtain⟨R,r,pl,S⟩:=I.list G;obtain⟨j,g,O,T,N,M⟩:=tL L;obtain⟨w,B,P⟩:=r.get O;have J:=r.length;have hn:=vv;have f:EP X e C Q w s:=⟨z,H,I,P,q⟩;by_cases A:0<=i
 .have n:i.toNat=j:=by
   rw[seqIndex_of A M] at g;exact Ra g
  exact item_listR pl.isList A (by omega) (by rw[n];simpa using B) f o
 .have n:(i+(R.toArray.size:Int)).toNat=j:=by
   rw[seqIndex_neg (by omega) N] at g;rw[QZ,<-J];exact Ra g
  exact subscriptTail_builtinR pl.isList.typeIs acI.lookup
   (wpAny_getItem_list_neg pl.isList (by omega) (by rw[QZ]<;>omega) (by omega) (by rw[n];simpa using B) ⟨rfl,f⟩) o
theorem Mu:IxR X (Oe X.K):=by
 intro f g e s m H x y v u Q I o n h A;obtain⟨p,xs,i,z,rfl,rfl,B,E,q⟩:=h;cases o;obtain⟨t,rfl⟩:=n;obtain⟨R,r,pl,M⟩:=I.tuple B;obtain⟨j,G,F,P,O,N⟩:=tL E;obtain⟨w,J,L⟩:=r.get F;have C:=r.length;have hn:=vv;have l:EP X e m Q w s:=⟨z,H,I,L,q⟩;exact subscriptTail_builtinR pl.typeIs slot_tuple_getitem.lookup
  (getItem_tuple pl (by omega) (by omega) (by rw[QZ,<-C];exact G) (by simpa using J) ⟨rfl,l⟩) A
theorem Mq:IxR X Oa:=by
 intro e f g s F H x y v u Q I n m h o;obtain⟨z,i,c,rfl,rfl,J,r,q⟩:=h;obtain⟨t,rfl⟩:=n;obtain⟨G,rfl⟩:=m;obtain⟨j,l,B,K,A,w⟩:=tL r;have p:z.cps.toList.length=z.length:=by simp[Str.length]
 rw[p] at l A w;have hn:=vv;exact tail_any (YV s z t) slot_str_getitem.lookup (getItem_str (by have E:decide (i< -(2^63:Int))=QQ:=decide_eq_false (by omega);have C:decide (i≥2^63)=QQ:=decide_eq_false (by omega);rw[E,C,Yn]) (by rw[l];simpa using B) ⟨.str ⟨#[c]⟩,H,I.tok _,⟨_,rfl⟩,q⟩) o
def Pa (K:QF):R2:=fun x y H Q=>Oc K x y H Q\/Oe K x y H Q\/Oa x y H Q
theorem b3:IxR X (Pa X.K):=Jz.or (Mu.or Mq)
theorem t6 (lo hi:Option Int) (n:Nat):(sliceBounds lo hi Ld n).1=((HT.sIx n 0 lo:Nat):Int)/\(sliceBounds lo hi Ld n).2.1=((HT.sIx n n hi:Nat):Int)/\(sliceBounds lo hi Ld n).2.2=1:=by
 refine⟨?_,?_,rfl⟩
 .cases lo with
  |none=>simp[sliceBounds,HT.sIx]
  |some i=>
   simp only[sliceBounds,HT.sIx,ZZ,show(1:Int)>0 by decide,if_true];by_cases h:i<0
   .simp only[h,if_true]<;>omega
   .simp only[h,if_false]<;>omega
 .cases hi with
  |none=>simp[sliceBounds,HT.sIx]
  |some i=>
   simp only[sliceBounds,HT.sIx,ZZ,show(1:Int)>0 by decide,if_true];by_cases h:i<0
   .simp only[h,if_true]<;>omega
   .simp only[h,if_false]<;>omega
theorem rX (e:List QH) (lo hi:Option Int):slicePick e.toArray lo hi Ld=((e.drop (HT.sIx e.length 0 lo)).take (HT.sIx e.length e.length hi - HT.sIx e.length 0 lo)).toArray:=by obtain⟨h,g,f⟩:=t6 lo hi e.toArray.size;unfold slicePick;rw[h,g,f];simp only[sliceRange_one,pick_run,QZ]<;>rfl
def Ot (K:QF):V->Option Int->Option Int->Hp->VK->Prop:=fun x lo hi H Q=>∃a xs,x= .ref a/\Ve K H a xs/\∀p,H p=Ld->Q (.ref p) (bC H p (.lst (BW xs lo hi)))
theorem Ir:L7 X (Ot X.K):=by intro f s o H x v t p lo hi u Q I i n pl j h;obtain⟨a,xs,rfl,m,q⟩:=h;cases i;obtain⟨y,r,g,l⟩:=I.list m;have e:=r.length;refine⟨"list",_,acI.lookup,g.isList.typeIs,?_⟩;refine wpAny_getItem_list_slice g.isList n pl j .none (by simp) ?_ (by rw[QZ]<;>omega);rw[rX,<-e];refine⟨.ref s.heap.objs.size,_,I.laid (fun b w q=>Heap.get?_push_of_some _ q) (QU _) ?_,rfl,q _ (I.Sh.fresh (QU _))⟩;exact⟨RA (nW xs lo hi) l,_,0,(r.drop (HT.sIx xs.length 0 lo)).take (HT.sIx xs.length xs.length hi - HT.sIx xs.length 0 lo),Heap.get?_push_size _ rfl⟩
theorem Ub.or (h:Ub X f r) (h':Ub X f r'):Ub X f (fun xs H Q=>r xs H Q\/r' xs H Q):=by
 intro e s g H xs i Q I j q;rcases q with q|q
 .exact h e s g H xs i Q I j q
 .exact h' e s g H xs i Q I j q
theorem vp:Ub X (.type "list") (fun xs H Q=>∃p ys,xs=[.ref p]/\(Ve X.K H p ys\/Vn X.K H p ys)/\∀l,H l=Ld->Q (.ref l) (bC H l (.lst ys))):=by
 intro m s G H xs L Q I r h;obtain⟨p,ys,rfl,y,q⟩:=h;obtain⟨u,rfl,J⟩:=jM r;cases J
 have B:∀(g:List QH),Vals ys g->ys.length<=QX->∀(f:Heap) (j:Nat),(∀b o',s.heap.get? b=lD o'->f.get? b=lD o')->
   f.get? s.heap.objs.size=lD {cls:= .type "list",dict:=Ld,data:= .seq g.toArray j,slots:= #[]}->EP X m G Q (.ref s.heap.objs.size) {s with heap:=f}:=fun g i v f j t e=>
  ⟨.ref s.heap.objs.size,_,I.laid t (QU _) (show ObjOk X.prog X.w _ f _ (.lst ys) from⟨v,g,j,i,e⟩),rfl,q _ (I.Sh.fresh (QU _))⟩
 rcases y with y|y
 .obtain⟨g,i,pl,v⟩:=I.list y;have A:=i.length;obtain⟨o,C,F,n,E⟩:=pl.isList;exact ahA p (.inl rfl) C F E (fun f j t e=>B g i v f j t e) (by simp only[QZ]<;>omega)
 .obtain⟨g,i,pl,v⟩:=I.tuple y;have A:=i.length;obtain⟨o,C,F,n,E⟩:=pl;exact ahA p (.inr rfl) C F E (fun f j t e=>B g i v f j t e) (by simp only[QZ]<;>omega)
theorem eY:Ub X (.type "tuple") (fun xs H Q=>∃p ys,xs=[.ref p]/\((Ve X.K H p ys/\∀l,H l=Ld->Q (.ref l) (bC H l (.tup ys)))\/(Vn X.K H p ys/\Q (.ref p) H))):=by
 intro i s C H xs E Q I r h;obtain⟨p,ys,rfl,h⟩:=h;obtain⟨u,rfl,v⟩:=jM r;cases v;rcases h with⟨g,q⟩|⟨g,q⟩
 .obtain⟨n,f,pl,j⟩:=I.list g
  have m:=f.length;refine call_tuple_list pl.isList (fun A y=> ?_) (by simp only[QZ]<;>omega);have t:=I.kept (t':=s.toks) y
  have B:=
   t.laid (t':=s.toks) (fun b o e=>Heap.get?_push_of_some _ e) (QU _) (show ObjOk X.prog X.w _ _ _ (.tup ys) from⟨j,n,f,Xj.new _ _⟩)
  exact⟨.ref A.objs.size,_,B,rfl,q _ (t.Sh.fresh (QU _))⟩
 .obtain⟨n,f,pl,j⟩:=I.tuple g;exact call_tuple_same pl ⟨.ref p,H,I,rfl,q⟩
def PY (K:QF) (T:String) (x:V) (H:Hp):Prop:=match x with
 | .str _=>T= "str"
 | .int _=>T= "int"
 | .ref p=>(T= "list"/\∃xs,Ve K H p xs)\/(T= "tuple"/\∃o,K.lookup p=lD o/\o.cls= .type "tuple"/\o.dict=Ld)\/
   (T= "dict"/\((∃Rj,H p=lD (.dK Rj))\/∃Rj,H p=lD (.dT Rj)))\/(T= "set"/\∃S n,H p=lD (.set S n))
 |_=>False
theorem Fj (I:Inv X pins σ H s) (r:RelV x v) (ty:PY X.K T x H):
  s.TypeIs v T/\∀a,v= .ref a->∃ob,s.heap.get? a=lD ob/\ob.dict=Ld:=by
 cases x with
 |str z=>obtain⟨t,rfl⟩:=r;cases(show T= "str" from ty);exact⟨YV s z t,fun _ e=>nomatch e⟩
 |int i=>obtain⟨t,rfl⟩:=r;cases(show T= "int" from ty);exact⟨Xp s i t,fun _ e=>nomatch e⟩
 |ref p=>
  cases r;rcases ty with⟨rfl,xs,l⟩|⟨rfl,o,f,m,h⟩|⟨rfl,f⟩|⟨rfl,S,n,f⟩
  .obtain⟨q,_,pl,_⟩:=I.list l;refine⟨pl.isList.typeIs,fun a e=> ?_⟩;cases e;obtain⟨o,n,e,c,h,_⟩:=pl;exact⟨o,e,h⟩
  .refine⟨⟨o,I.Xy p o f,m⟩,fun a e=> ?_⟩;cases e;exact⟨o,I.Xy _ o f,h⟩
  .have z:∃o,s.heap.get? p=lD o/\o.ExactDict:=by
    rcases f with⟨Rj,f⟩|⟨Rj,f⟩
    .obtain⟨_,_,_,_,o,_,_,e,g,_⟩:=I.Sh p _ f;exact⟨o,e,g⟩
    .obtain⟨_,_,_,_,o,_,_,e,g,_⟩:=I.Sh p _ f;exact⟨o,e,g⟩
   obtain⟨o,e,g⟩:=z;refine⟨⟨o,e,g.1⟩,fun a j=> ?_⟩;cases j;exact⟨o,e,g.2.1⟩
  .obtain⟨o,_,_,_,e,g,_⟩:=I.Sh p _ f;refine⟨⟨o,e,g.1⟩,fun a j=> ?_⟩;cases j;exact⟨o,e,g.2.1⟩
 |_=>exact False.elim ty
def On (K:QF) (T:String) (r:V->List V->Hp->VK->Prop) (to:TE):TE:=fun f H Q=>to f H fun x e=>PY K T x e/\r x [] e Q
def Py (K:QF) (T:String) (r:V->List V->Hp->VK->Prop) (to:TE) (t:TA):TE:=fun e H Q=>to e H fun x f=>PY K T x f/\t e f fun xs g=>r x xs g Q
variable {o e:RM} {es:List RM} {to:TE} {t:TA} {name:Str} {Z Y:Pos} {T U:String} {r:V->List V->Hp->VK->Prop}
theorem Ep (pa:PlainAttrs T) (g:Slot T name U) (i:typeOf (.builtin U)=pure (.type "method_descriptor")) (hm:Pm X U r) (u:PE X o to)
  (A:attributeBase o name X.env (eval o X.env)=eval o X.env:=by rfl) (j:(Z.endLine==Y.line)=QJ:=by rfl):PE X (.Call (.Attribute o name Z) [] [] Y) (On X.K T r to):=by
 intro f s l H Q I h;refine wpAny_Call_method0_late A j (cA (u f s l H _ I h) fun v p ⟨x,B,n,m,ty,q⟩=> ?_);obtain⟨y,w⟩:=Fj n m ty;exact⟨T,U,pa,g,i,y,w,Calls.callWith_builtin rfl (PySem.evalArgs_none (hm f p l B x [] v [] Q n m .nil q))⟩
theorem xi (pa:PlainAttrs T) (g:Slot T name U) (j:typeOf (.builtin U)=pure (.type "method_descriptor")) (hm:Pm X U r) (F:PE X o to) (ha:PA X (e::es) t)
  (M:attributeBase o name X.env (eval o X.env)=eval o X.env:=by rfl)
  (l:((backTo Y (Rh (e::es) X.env)).all (fun x=> !x.1)&&(backToKw Y (keywordEach [] X.env)).all (fun x=>x.1.isSome)
   &&decide ((e::es).length+([]:List XM).length+(if([]:List XM).isEmpty then 0 else 1)<30))=QJ:=by rfl)
  (m:(Z.endLine==Y.line)=QJ:=by rfl) (E:Rh (e::es) X.env=(QQ,eval e X.env)::Rh es X.env:=by rfl) (L:(backTo Y (Rh es X.env)).any (·.1)=QQ:=by rfl):
  PE X (.Call (.Attribute o name Z) (e::es) [] Y) (Py X.K T r to t):=by
 intro f s i H Q I h;refine wpAny_Call_method_late M l m rfl (cA (F f s i H _ I h) fun v y ⟨x,P,q,n,ty,C⟩=> ?_);obtain⟨J,G⟩:=Fj q n ty;refine⟨T,U,pa,g,j,J,G,?_⟩;have p:=ha Y f y i P _ q C;rw[E] at p⊢;refine Calls.callWith_builtin (by show(QQ||(backTo Y (Rh es X.env)).any (·.1))=QQ;rw[L]<;>rfl) (Calls.evalArgs_plain ?_);exact cA p fun u w ⟨vs,O,N,A,B⟩=>hm f w i O x vs v u Q N n A B
end
def Qx (X:Cx) (f:String) (r:V->List V->Hp->VK->Prop):Prop:=
 ∀(a:List (QN×Obj)) (s:QP) (b:St) (H:Hp) (x:V) (xs:List V) (v:QH) (e:List QH) (Q:VK),Inv X a b H s->RelV x v->Vals xs e->r x xs H Q->
  wpAny (model X.prog X.w) X.A (call (.builtin f) (v::e)) (EP X a b Q) X.xe s
theorem Vals.one:∀{x:V} {us:List QH},Vals [x] us->∃u,us=[u]/\RelV x u
 |_,_,.cons r .nil=>⟨_,rfl,r⟩
theorem Vals.rep (h:Vals xs us):∀k:Nat,Vals (QT k xs).flatten (QT k us).flatten
 |0=> .nil
 |k+1=>by rw[RP,RP,SI,SI];exact Vals.append h (Vals.rep h k)
theorem nU (b:List QH):∀(k:Nat) (a:List QH),
  VD (fun x1 x2=>x1++x2) a.toArray (QT k b.toArray)=(a++(QT k b).flatten).toArray
 |0,a=>by simp
 |k+1,a=>by
  have e:a.toArray++b.toArray=(a++b).toArray:=by simp
  have f:(a++b)++(QT k b).flatten=a++(QT (k+1) b).flatten:=by rw[RP,SI,RD]
  rw[<-f,<-nU b k (a++b),<-e,RP,VJ]
section
variable {X:Cx} {Z:List (QN×Obj)} {Y:St} {H:Hp} {s:QP} {l b:QN} {xs U zs:List V}
theorem Inv.agi {g a:List QH} (I:Inv X Z Y H s) (o:H l=lD (.lst xs))
  (e:s.heap.get? l=lD {cls:= .type "list",data:= .seq g.toArray n}) (j:f g.toArray=a.toArray) (h:Vals U a) (hz:U.length<=QX):
  Inv X Z Y (bC H l (.lst U)) {s with heap:=s.heap.update l (Obj.mapSeq f),toks:=t'}:=by
 have q:=aiR e f;rw[j] at q;refine I.write (by rw[o];exact trivial) (.inl rfl) (fun p u m i=>(Heap.get?_update_other s.heap (Obj.mapSeq f) (Ne.symm m)).trans i) ⟨_,q⟩ ?_;exact⟨hz,a,_,h,q⟩
theorem Inv.adX (I:Inv X Z Y H s) (a:Vals U RG) (hz:U.length<=QX):
  Inv X Z Y (bC H s.heap.objs.size (.lst U)) {s with heap:=s.heap.push {cls:= .type "list",data:= .seq RG.toArray},toks:=t'}:=
 I.laid (fun _ _ q=>Heap.get?_push_of_some _ q) (QU _) ⟨hz,RG,0,a,Heap.get?_push_size _ rfl⟩
theorem Inv.fresh (I:Inv X Z Y H s):H s.heap.objs.size=Ld:=I.Sh.fresh (QU _)
theorem Inv.aeb (I:Inv X Z Y H s) (f:H l=lD (.lst xs)):xs.length<=QX/\∃(a:List QH) (n:Nat),Vals xs a/\xs.length=a.length/\s.heap.get? l=lD {cls:= .type "list",data:= .seq a.toArray n}:=by obtain⟨z,a,n,r,e⟩:=I.Sh l _ f;exact⟨z,a,n,r,r.length,e⟩
theorem Fp (h:n<=QX):Builtin.List.listTooLong n=QQ:=by unfold Builtin.List.listTooLong;exact decide_eq_false (by omega)
end
section
variable {X:Cx}
def uF:V->List V->Hp->VK->Prop:=fun x vs H Q=>∃l xs y,x= .ref l/\vs=[y]/\H l=lD (.lst xs)/\xs.length<QX/\Q .TN (bC H l (.lst (xs++[y])))
theorem kG:Qx X "list.append" uF:=by intro a s j H x vs v m Q I f rv h;obtain⟨l,xs,y,rfl,rfl,b,o,q⟩:=h;cases f;obtain⟨u,rfl,g⟩:=rv.one;obtain⟨z,i,n,r,p,e⟩:=I.aeb b;refine Vp F.slot_list_append ⟨_,e,rfl⟩ F.entry_list_append (F.args_list_append_2 _ _) (PySem.list_append l i.toArray n u (by rw[QZ];omega)) ⟨e,?_⟩;refine⟨.TN,_,I.agi b e (by simp) (r.append (.cons g .nil)) ?_,rfl,q⟩;rw[QO,Ut];omega
theorem Bu (xs:List α) (k:Nat):(QT k xs).flatten.length=k*xs.length:=by
 induction k with
 |zero=>simp
 |succ k a=>rw[RP,SI,QO,a,adm,YW]
end
section
variable {prog:Rf} {w:RB} {A:Rv} {E:QH->QP->Prop} {s:QP}
set_option maxRecDepth 100000 in
end
end L2
namespace Att
open PySem PySem.W PySem.Calls PyProof.Rows
theorem oG:∀(e:List Int) (vs:List QH),WellAll P h vs (e.map WData.int)->IntsAre vs e:=by
 intro e
 induction e with
 |nil=>intro vs w;rw[UO] at w;cases w;exact .nil
 |cons n e f=>
  intro vs w;rw[Q3] at w;cases w with
  |cons a b=>cases a;exact .cons _ _ (f _ b)
theorem CT {l:OpenLaw} (hn:l.most=lD n)
  (e:l.row.toRowW.claim.pre args=QJ) (i:WellAll P h vals args):
  ∃a vs ns,vals=[QH.ref a]/\args=[WData.list (ns.map WData.int)]/\h.get? a=lD {cls:= .type "list",data:= .seq vs.toArray}/\IntsAre vs ns/\ns.length<=n:=by
 have j:=(pre_splitW e).1;have o:l.pre.holds [] {args:=args}=QJ:=(pre_splitW e).2;obtain⟨d,r,rfl,A,y⟩:=hasAllW_cons j;obtain rfl:=hasAllW_nil y;obtain⟨xs,rfl,w⟩:=hasW_list A;obtain⟨ns,rfl⟩:=items_int w;have b:ns.length<=n:=by
  unfold OpenLaw.pre at o;have g:(WTm.not (.lt (.lit (.int (n:Int))) (.len (.arg 0)))).holds [] {args:=[.list (ns.map .int)]}=QJ:=by have g:=(holds_andW o).1;rw[hn] at g;exact g
  have f:=condW_of g (w_not (w_lt w_lit (w_len_list (w_arg rfl))));rw[QI] at f;refine Nat.le_of_not_lt fun q=> ?_;have u:(n:Int)<((ns.length:Nat):Int):=by omega
  first
   |(rw[decide_eq_true u] at f;exact absurd f (by decide))
   |(simp at f;omega)
 cases i with
 |cons t p=>
  cases p;cases t with
  |list v m=>exact⟨_,_,ns,rfl,rfl,v,oG ns _ m,b⟩
theorem Ct (l:OpenLaw) (args:List WData):l.row.toRowW.claim.post args (.bool QJ) args=QJ:=
 postW_of
  (show WShape.has [] (.bool QJ) .bool=QJ by first|rfl|decide|simp[WShape.has,WShape.arms,WShape.armsAll])
  (show(WTm.eq .res (.lit (.bool QJ))).value [] {args:=args,res:=lD (.bool QJ),after:=args}=lD (.bool (QJ==QJ)) from w_eq_bool (w_res rfl) w_lit) rfl
theorem attach_call {l:OpenLaw} {n:Nat} {q:Rf} {e:List Str} {I:(Str->Option QH)->Heap->Prop} {H:RB->Heap->Prop} {d:DefRec}
  (hn:l.most=lD n) (y:d.params.defaults=[])
  (call:∀(w:RB) (s₀ b:QP) (mg t:Str->Option QH) (fa:QN) (o:Obj) (p m h:QH) (a:QN) (vs:List QH) (j:List Int),
   Ground q e [] I w s₀ mg t b.heap->H w b.heap->
   b.heap.get? fa=lD o->o.data= .func (docDef d.name d.params d.body d.scope p m h)->b.heap.CodeRec m d.name->mg d.name=lD (.ref fa)->
   b.heap.get? a=lD {cls:= .type "list",data:= .seq vs.toArray}->IntsAre vs j->j.length<=n->b.gens= #[]->
   codeAny (model l.prog w) callerA (.call (.ref fa) ⟨[.ref a],[]⟩) (fun r s'=>r= .ok (.ret (.bool QJ))/\OldK b.heap s'.heap/\s'.os=b.os/\AllBare s'.gens) b):
  WalkO q e I H l.row.toRowW d [] (fun f vs=>adn f vs):=by
 intro w s₀ b mg t G Y fa o p m h dV kV L O T E v N F C U B S J u M;obtain rfl:dV= .none:=Dflts.none E y;obtain rfl:kV= .none:=Dflts.noKw E;obtain⟨a,vs,j,rfl,rfl,A,g,i⟩:=CT hn B u;refine enter_call (Wf (call w s₀ b mg t fa o p m h a vs j G Y L (fd_plain O) T v A g i N) fun r s' K=> ?_);obtain⟨rfl,R,Q,P⟩:=K;exact⟨.inl ⟨.bool QJ,.bool QJ,[],rfl,fun _=>rfl,.bool QJ,Ct l _,fun _=>⟨VN,fun _ hm=>(nomatch hm)⟩⟩,R,Q,P⟩
end Att
namespace L2
open PySem PySem.Spec PyProof.Rows
theorem iO:∀{vs:List QH} {a:List Int},IntsAre vs a->Vals (a.map V.int) vs
 |_,_,.nil=> .nil
 |_,_,.cons n t h=> .cons ⟨t,rfl⟩ (iO h)
def Om (H:Hp):Prop:=∀b,H b=Ld\/∃o xs,H b=lD (.frz o (.lst xs))
theorem Fw {P:Rf} {w:RB} {K:QF} {mg G:Str->Option QH} {CX:ul} {k:Nat} {fa a:QN} {fd:RZ} {x:Str} {sp:Sp} {f:QP} {vs:List QH} {p:List Int}
  (Z:K.In f.heap) (t:f.heap.Ns Q4 mg) (g:f.heap.Ns builtinsNs G) (J:∀x:Str,x≠ "__name__"->G x=Se x) (Q:f.heap.NoLimit) (hg:f.gens= #[])
  (ha:f.heap.get? a=lD {cls:= .type "list",data:= .seq vs.toArray}) (hi:IntsAre vs p) (S:p.length<=QX) (hr:Td k callerA)
  (F:∀base:Heap,K.In base->base.Ns Q4 mg->FnOk P w K mg base CX k fa fd [x] sp) (R:∀(s:QP) (u:QH),Wd s fd ⟨[u],[]⟩ [(x,u)])
  (I:∀H:Hp,Om H->Ve K H a (p.map V.int)->sp [.ref a] H (fun v _=>v= .bl QJ) fun _ _ _=>False)
  (L:∀H e s',CX [] H f (fun _ _ _=>False) e s'->False):
  codeAny (model P w) callerA (.call (.ref fa) ⟨[.ref a],[]⟩) (fun r s'=>r= .ok (.ret (.bool QJ))/\OldK f.heap s'.heap/\s'.os=f.os/\AllBare s'.gens) f:=by
 have rv:=iO hi;have N:=hi.length
 have j:∀H:Hp,Om H->Ve K H a (p.map V.int)->V1 P w H f.heap->(∀b,H b≠Ld->b=a)->(H a≠Ld->K.lookup a=Ld)->
   codeAny (model P w) callerA (.call (.ref fa) ⟨[.ref a],[]⟩) (fun r s'=>r= .ok (.ret (.bool QJ))/\OldK f.heap s'.heap/\s'.os=f.os/\AllBare s'.gens) f:=by
  intro H T hS Sh U hK;have Y:∀{b:QN} {o:Obj},f.heap.get? b=lD o->H b=Ld->(uj f.heap H).get? b=lD o:=fun e n=>Ef e n;have E:∀{b:QN} {o:Obj} {A:Array Um} {B:Nat},f.heap.get? b=lD o->o.data= .dict A B->H b=Ld:=fun{b o A B} e d=>by
   cases q:H b with
   |none=>rfl
   |some u=>have M:b=a:=U b (by rw[q];simp);subst M;rw[ha] at e;cases e;have d':Data.seq vs.toArray _=Data.dict A B:=d;cases d'
  have i:∀{b:QN} {m:Str->Option QH},f.heap.Ns b m->(uj f.heap H).Ns b m:=fun{b m} ⟨o,A,B,e,d,r⟩=>⟨o,A,B,Y e (E e d),d,r⟩;have y:K.In (uj f.heap H):=fun b o e=>Y (Z b o e) (by
   cases q:H b with
   |none=>rfl
   |some u=>have M:b=a:=U b (by rw[q];simp);subst M;rw[hK (by rw[q];simp)] at e;cases e)
  have hM:Mod K mg (uj f.heap H):=⟨y,i t,⟨G,i g,J⟩,let⟨mc,h1,h2⟩:=Q;⟨mc,i h1,h2⟩⟩;have e0:Env0 P w K mg (uj f.heap H) callerA [] f H:=⟨rfl,hM,fun b o e=>G6 e,adk (BZ _ _),trivial,fun b g=>absurd (show b∈([]:List QN) from g) (by simp),Sh,.of_eq hg⟩;refine Wf ((F _ y (i t)).run callerA [] f H ⟨[.ref a],[]⟩ [.ref a] [.ref a] _ _ hr e0 (R f (.ref a)) (.cons rfl .nil) (I H T hS)) fun r s' h=> ?_;cases r with
  |error e=>exact(L H e s' h).elim
  |ok fl=>
   cases fl with
   |next=>exact False.elim h
   |brk=>exact False.elim h
   |cont=>exact False.elim h
   |ret u=>
    obtain⟨v,H',os,C,un,O,r',q⟩:=h;have q':v= .bl QJ:=q;subst q';obtain rfl:u=QH.bool QJ:=r';refine⟨rfl,OldK.of_keep fun b o e=> ?_,os,C⟩;cases q:H b with
    |none=>exact un.keep b o e q (by intro z;exact absurd (show b∈([]:List QN) from z) (by simp)) (by simp)
    |some u=>
     rcases T b with z|⟨ob,xs,z⟩
     .rw[q] at z;cases z
     .have z2:=un.Xv b ob _ z;obtain⟨X,_⟩:=Sh b _ z;obtain⟨e2,_⟩:=O b _ z2;rw[e] at X;cases X;exact e2
 cases hk:K.lookup a with
 |some o=>have e:=Z a o hk;rw[ha] at e;cases e;refine j (fun _=>Ld) (fun _=> .inl rfl) (.inr ⟨_,vs.toArray,_,hk,rfl,rfl,rfl,by rw[QZ,N];exact S,by simpa using rv⟩) (fun b u z=>by have l:(Ld:Option HO)=lD u:=z;cases l) (fun b z=>absurd rfl z) fun z=>absurd rfl z
 |none=>
  refine j (fun b=>if b=a then lD (.frz {cls:= .type "list",data:= .seq vs.toArray} (.lst (p.map V.int))) else Ld) (fun b=> ?_) (.inl (.inr ⟨{cls:= .type "list",data:= .seq vs.toArray},if_pos rfl⟩)) (fun b u z=> ?_) (fun b z=> ?_) fun _=>hk
  .by_cases g:b=a
   .exact .inr ⟨_,_,if_pos g⟩
   .exact .inl (if_neg g)
  .by_cases g:b=a
   .have l:=(if_pos g).symm.trans z;cases l;subst g;exact⟨ha,by rw[QI];exact S,vs,_,rv,ha⟩
   .have l:=(if_neg g).symm.trans z;cases l
  .by_cases g:b=a
   .exact g
   .exact absurd (if_neg g) z
def aR (s:Th) (j:Nat):Th:=match s with
 | .ClassDef _ _ _ body _ _ _ _ _ _ _=>body.getD j (.Pass ⟨0,0,0,0⟩)
 |_=> .Pass ⟨0,0,0,0⟩
def fO (s:Th):Arguments:=match s with
 | .FunctionDef _ a _ _ _ _ _ _ _ _=>a
 |_=>{posonlyargs:=[],args:=[],vararg:=Ld,kwonlyargs:=[],kw_defaults:=[],kwarg:=Ld,defaults:=[]}
def cj (s:Th):List Th:=match s with
 | .FunctionDef _ _ b _ _ _ _ _ _ _=>b
 |_=>[]
def ay (s:Th):Uy:=match s with
 | .FunctionDef _ _ _ _ _ _ sc _ _ _=>sc
 |_=>{kind:= .function,names:=[],isGenerator:=QQ,isCoroutine:=QQ}
abbrev dm:ul:=fun _ _ _ _ _ _=>False
abbrev E0:XK:=fun _ _ _=>False
theorem Aw:gf dm X E0:=fun _ _ _ _ _ _ _ h=>h.elim
structure T9 (K:QF) (x qual:Str) (st:Th) (f:QN) (fd:RZ):Prop where
 ex:∃(oc:QH) (od:Option QN) (kV doc pm:QH) (an:Option QN) (So ct:QH) (YR:Array (Option QH)),
  fd=Sr x qual (fO st) (cj st) (ay st) .none kV doc pm an So ct/\K.lookup f=lD ⟨oc,od,.func fd,YR⟩/\UK K So qual=QJ
 kp:SD K (.ref f)=QJ
section
variable {P:Rf} {w:RB} {K:QF} {mg:Str->Option QH} {base:Heap}
theorem T9.ok {x a:Str} {st:Th} {f:QN} {fd:RZ} {N ps:List Str} {k:Nat} {sp:Sp} (F:T9 K x a st f fd) (S:TK N ps (ay st)) (len:∀vs H Q E,sp vs H Q E->vs.length=ps.length)
  (m:∀(b:QH) (A:Rv) (outer:List Env) (s:QP) (H:Hp) (vs:List V) (Q:VK) (E:XK),Td k (A.deeper (envOfC a (ay st) s.heap.objs.size f b))->sp vs H Q E->
   ∃t,Xa (fT dm P w K mg base N a (ay st) f b A outer s H E).nox (cj st) t/\t {nx:=fun _ H'=>Q .TN H',rt:=Q} (start N vs) H):FnOk P w K mg base dm (k+1) f fd ps sp:=by
 obtain⟨p,o,kV,j,n,r,b,ct,u,rfl,g,l⟩:=F.ex;refine DC g l S len fun A outer s H vs Q E i e=> ?_;obtain⟨t,h,q⟩:=m b A outer s H vs Q E i e;exact⟨t,h.nox,q⟩
theorem T9.binds {x a:Str} {st:Th} {f:QN} {fd:RZ} {ps:List Str} (F:T9 K x a st f fd)
  (h:∀(kV b e:QH) (g:Option QN) (i ct:QH) (us:List QH),us.length=ps.length->bindArgs (Sr x a (fO st) (cj st) (ay st) .none kV b e g i ct) ⟨us,[]⟩=pure (ps.zip us)):Binds K fd ps []:=by
 obtain⟨l,j,kV,b,e,g,i,ct,n,rfl,m,o⟩:=F.ex;exact .all (h kV b e g i ct)
theorem Ex {st:Th} {kV a e b ct:QH} (l:K.lookup f=lD ⟨oc,od,.func (Sr x qual (fO st) (cj st) (ay st) .none kV a e an b ct),YR⟩)
  (c:UK K b qual=QJ) (k:SD K (.ref f)=QJ):T9 K x qual st f (Sr x qual (fO st) (cj st) (ay st) .none kV a e an b ct):=⟨⟨oc,od,kV,a,e,an,b,ct,YR,rfl,l,c⟩,k⟩
end
theorem zY (a:Td k A):A.units+1<cLine:=aaj (Nat.add_le_add_left (by decide:1<=64) _) a.units
section
variable {X:Cx}
theorem pv (i:Nat) (b:X.N[i]? =lD x:=by rfl) (a:Ps X.env.scope x:=by first|exact Or.inl rfl|exact Or.inr (Or.inl rfl)|exact Or.inr (Or.inr rfl)) (hd:(x==("__debug__":Str))=QQ:=by decide)
  (e:(x==("__classdict__":Str))=QQ:=by decide):PE X (.Name x pos) (zh i):=MQ b a hd e
end
def SJ (H H':Hp):Prop:=∀b o,H b=lD o->H' b=lD o
theorem SJ.refl (H:Hp):SJ H H:=fun _ _ h=>h
theorem SJ.trans (a:SJ H H1) (b:SJ H1 H2):SJ H H2:=fun c o h=>b c o (a c o h)
theorem SJ.free (e:SJ H H') (h:H' l=Ld):H l=Ld:=by
 cases q:H l with
 |none=>rfl
 |some o=>rw[e l o q] at h;cases h
end L2
set_option maxHeartbeats 4000000
namespace L2
open PySem PySem.Spec PyProof.Rows
section
variable {X:Cx} {Z:List (QN×Obj)} {σ:St} {H:Hp} {s:QP} {h':Heap}
theorem Inv.Y8 {ch:List QN} (I:Inv X Z σ H s) (i:∀b∈ch,mn X Z H b)
  (k:∀b u,b∉ch->s.heap.get? b=lD u->h'.get? b=lD u) (l:s.heap.objs.size<=p)
  (new:ObjOk X.prog X.w (bC H p o) h' p o):Inv X Z σ (bC H p o) {s with heap:=h',toks:=t'}:=by
 have hn:=I.Sh.fresh l;have f:∀b u,H b=lD u->b∉ch:=fun b u e z=>by rw[(i b z).1] at e;cases e
 have h:∀b u,s.heap.get? b=lD u->b≠p:=fun b u e=>Rg (Rb (Heap.lt_size e) l);refine I.step (fun b g=> ?_) (fun b u _ _ a e _=>k b u a e) (fun b u _ _ a e _=>⟨u.slots,k b u a e⟩)
  (fun b u _ e n=>by rw[az (h b u e)];exact n) (fun b u a e=>⟨u,k b u a e⟩) (fun b xs e=>by rw[az (bW e hn)];exact e)
  (fun b u xs e=>by rw[az (bW e hn)];exact e) (fun b ps e=>⟨#[],by rw[az (bW e hn),e];simp⟩) (fun m hm=> ?_) (fun b u e=> ?_) I.bare
 .obtain⟨_,C,_,B,A,y⟩:=i b g;exact⟨B,C,A,y⟩
 .obtain⟨j,E,F,t,r⟩:=hm;exact⟨j,E,F,k _ j (fun z=>(i _ z).2.1 rfl) t,r⟩
 .by_cases g:b=p
  .subst g;rw[aH] at e;cases e;exact new
  .rw[az g] at e
   refine(I.Sh b u e).V7 (fun c v a q=>k c v ?_ q) (fun c q=>by rw[az (bW q hn)];exact q) fun c xs q=>by rw[az (bW q hn)];exact q
   rcases a with z|z
   .rw[z];exact f b u e
   .exact f c _ z
end
mutual
inductive DV (K:QF) (H:Hp):V->QK->Prop
 |TN:DV K H .TN .none
 |bl (b:Bool):DV K H (.bl b) (.bool b)
 |int (i:Int):DV K H (.int i) (.int i)
 |str (x:Str):DV K H (.str x) (.str x)
 |tup {a:QN} {xs:List V} {ds:List QK}:Vn K H a xs->SE K H xs ds->DV K H (.ref a) (.tuple ds)
 |lst {a:QN} {xs:List V} {ds:List QK}:Ve K H a xs->SE K H xs ds->DV K H (.ref a) (.list ds)
inductive SE (K:QF) (H:Hp):List V->List QK->Prop
 |nil:SE K H [] []
 |cons {v:V} {vs:List V} {d:QK} {ds:List QK}:DV K H v d->SE K H vs ds->SE K H (v::vs) (d::ds)
end
section
variable {X:Cx} {Z:List (QN×Obj)} {σ:St} {H:Hp} {s:QP}
mutual
theorem DV.reads (I:Inv X Z σ H s):∀{v:V} {d:QK} {u:QH},DV X.K H v d->RelV v u->∃as,aa6 s.heap u d as
 |_,_,_,.TN,r=>by cases r;exact⟨_,.none⟩
 |_,_,_,.bl b,r=>by cases r;exact⟨_,.bool b⟩
 |_,_,_,.int i,r=>by obtain⟨t,rfl⟩:=r;exact⟨_,.int i t⟩
 |_,_,_,.str x,r=>by obtain⟨t,rfl⟩:=r;exact⟨_,.str x t⟩
 |_,_,_,.tup h hs,r=>by cases r;obtain⟨a,rv,⟨o,e,c,n,d⟩,_⟩:=I.tuple h;obtain⟨as,q⟩:=SE.reads I hs rv;exact⟨_,.tuple e c d (by simpa using q)⟩
 |_,_,_,.lst h hs,r=>by cases r;obtain⟨a,rv,⟨o,n,e,c,_,d⟩,_⟩:=I.list h;obtain⟨as,q⟩:=SE.reads I hs rv;exact⟨_,.list e c d (by simpa using q)⟩
theorem SE.reads (I:Inv X Z σ H s):∀{vs:List V} {ds:List QK} {us:List QH},SE X.K H vs ds->Vals vs us->∃as,YX s.heap us ds as
 |_,_,_,.nil,r=>by cases r;exact⟨_,.nil⟩
 |_,_,_,.cons h hs,r=>by
  cases r with
  |cons b a=>obtain⟨as,q⟩:=DV.reads I h b;obtain⟨bs,e⟩:=SE.reads I hs a;exact⟨_,.cons q e⟩
end
end
def JF (K:QF) (neg:Bool):R2:=fun x y H Q=>∃dx dy,DV K H x dx/\DV K H y dy/\dx.canLay0=QJ/\dy.canLay0=QJ/\dx.depth<=64/\Q (.bl (if neg then !QK.eqv dx dy else QK.eqv dx dy)) H
section
variable {X:Cx}
theorem jS (o:X.A.units+64<cLine):OpR X (SH .Eq) (JF X.K QQ):=by intro a s n H x y v u Q I e b h;obtain⟨dx,r,m,l,j,i,p,q⟩:=h;obtain⟨t,g⟩:=m.reads I e;obtain⟨bs,f⟩:=l.reads I b;exact afv g f j i (by omega) ⟨.bl _,H,I,rfl,q⟩
theorem MX (o:X.A.units+64<cLine):OpR X (SH .NotEq) (JF X.K QJ):=by intro a s n H x y v u Q I e b h;obtain⟨dx,r,m,l,j,i,p,q⟩:=h;obtain⟨t,g⟩:=m.reads I e;obtain⟨bs,f⟩:=l.reads I b;exact afw g f j i (by omega) ⟨.bl _,H,I,rfl,q⟩
theorem Da:OpR X (SY .FloorDiv) (rI (fun _ j=>0<j/\j.natAbs.log2<9000) fun i j=> .int (i/j)):=Ov fun i j _ _ _ _ _ a q=>by have b:(0:Int)<j:=a.1;exact floordiv_int (by omega) (by rw[X6 i (by omega)];exact q) (.inl (PyProof.noPylong_of_log2 a.2))
end
def hU (env:Env):List (Str×Rx)->List (Str×QN)->List (Str×QN)
 |[],acc=>acc
 |(n,k)::r,acc=>if(k==Rx.free)=QJ then(match env.cells.lookup n with|some c=>hU env r ((n,c)::acc)|none=>hU env r acc) else hU env r acc
theorem lW {f:Str×Rx->List (Str×QN)->Sem (ForInStep (List (Str×QN)))}
  (g:∀n k a,(k==Rx.free)=QQ->f (n,k) a=pure (.yield a)) (b:∀n c a,env.cells.lookup n=lD c->f (n,.free) a=pure (.yield ((n,c)::a))):
  ∀(names:List (Str×Rx)) (a:List (Str×QN)),(∀y∈names,y.2= .free->∃c,env.cells.lookup y.1=lD c)->forIn names a f=pure (hU env names a)
 |[],a,_=>rfl
 |(n,k)::r,a,h=>by
  have i:=fun y l=>h y (QV _ l);rw[VO];cases hk:(k==Rx.free) with
  |false=>rw[g n k a hk,pure_bind];show forIn r a f=_;rw[lW g b r a i];simp only[hU,hk,Tr,if_false]
  |true=>
   have e:k= .free:=by simpa using hk
   subst e;obtain⟨c,j⟩:=h _ QS rfl;rw[b n c a j,pure_bind];show forIn r ((n,c)::a) f=_;rw[lW g b r _ i];have m:=j;simp only[hU,hk,if_true,m]
theorem qE (h:∀y∈scope.names,y.2= .free->∃c,env.cells.lookup y.1=lD c):closureFor scope env=pure (hU env scope.names []):=by simp only[closureFor];rw[lW (fun n k a b=>by simp only[b,Tr,if_false]) (fun n c a e=>by simp only[beq_self_eq_true,if_true,cellOf,e,pure_bind]) scope.names [] h,pure_bind]
theorem jG:∀(names:List (Str×Rx)) (a:List (Str×QN)),(∀x c,a.lookup x=lD c->env.cells.lookup x=lD c)->∀x c,(hU env names a).lookup x=lD c->env.cells.lookup x=lD c
 |[],_,h,x,c,e=>h x c e
 |(n,k)::r,a,h,x,c,e=>by
  unfold hU at e;split at e
  .split at e
   .rename_i g f
    refine jG r _ (fun y d q=> ?_) x c e;rw[Q7] at q;split at q
    .rename_i b;cases q;rw[eq_of_beq b];exact f
    .exact h y d q
   .exact jG r a h x c e
  .exact jG r a h x c e
theorem kI:∀(names:List (Str×Rx)) (a:List (Str×QN)) (x:Str),(a.lookup x).isSome=QJ->((hU env names a).lookup x).isSome=QJ
 |[],_,_,h=>h
 |(n,k)::r,a,x,h=>by
  unfold hU;split
  .split
   .refine kI r _ x ?_
    rw[Q7];split
    .rfl
    .exact h
   .exact kI r a x h
  .exact kI r a x h
theorem mI:∀(names:List (Str×Rx)) (a:List (Str×QN)) (x:Str) (c:QN),(x,Rx.free)∈names->env.cells.lookup x=lD c->((hU env names a).lookup x).isSome=QJ
 |[],_,_,_,h,_=>by cases h
 |(n,k)::r,a,x,c,h,hc=>by
  rcases Rc.mp h with z|h
  .cases z;simp only[hU,beq_self_eq_true,if_true,hc];exact kI r _ _ (by simp[Q7])
  .unfold hU
   split
   .split
    .exact mI r _ x c h hc
    .exact mI r a x c h hc
   .exact mI r a x c h hc
theorem xQ (h:(x,Rx.free)∈names) (a:env.cells.lookup x=lD c):(hU env names []).lookup x=lD c:=by
 have q:=mI names [] x c h a;cases e:(hU env names []).lookup x with
 |none=>rw[e] at q;cases q
 |some d=>have z:=jG names [] (fun y d q=>by cases q) x d e;rw[a] at z;exact z.symm
theorem xV {env:Env} {a:Uy} {x:Str} {k:Rx} (h:(relabel a env).names.lookup x=lD k):∃k0,(x,k0)∈a.names/\(k=k0\/(k0= .free/\k= .cell)):=by
 obtain⟨⟨n,k0⟩,hm,e⟩:=Rn.mp (SM h);simp only at e;split at e
 .rename_i b
  cases e;have f:(k0==Rx.free)=QJ:=by rw[Q6,Q6] at b;exact b.1.1
  exact⟨k0,hm,.inr ⟨by simpa using f,rfl⟩⟩
 .cases e;exact⟨_,hm,.inl rfl⟩
theorem jj {env:Env}:∀{names:List (Str×Rx)} {x:Str},names.lookup x=lD .free->
  (names.map fun(n,k)=>if(k==Rx.free&&env.scope.kind== .function&&env.kindOf n==lD .cell) then(n,Rx.cell) else(n,k)).lookup x=lD .cell\/
  (names.map fun(n,k)=>if(k==Rx.free&&env.scope.kind== .function&&env.kindOf n==lD .cell) then(n,Rx.cell) else(n,k)).lookup x=lD .free
 |[],_,h=>by cases h
 |(n,k)::r,x,h=>by
  rw[Q7] at h;rw[Q3];dsimp only;by_cases a:(k==Rx.free&&env.scope.kind== .function&&env.kindOf n==lD .cell)=QJ
  .rw[if_pos a,Q7]
   cases hx:x==n with
   |true=>exact .inl rfl
   |false=>rw[hx] at h;exact jj h
  .rw[if_neg a,Q7]
   cases hx:x==n with
   |true=>rw[hx] at h;exact .inr h
   |false=>rw[hx] at h;exact jj h
def fS (own:List Str) (a:List (Str×Nat)):List Str:=own++a.map (·.1)
def ir (own:List Str) (b:List (Str×Nat)) (a:St):St:=own.map (fun _=>Ld)++b.map fun p=>(a[p.2]?).join
def Y5 (X:Cx) (a:Uy):List (Str×Nat)->Prop
 |[]=>True
 |p::r=>(X.N[p.2]? =lD p.1/\a.names.lookup p.1=lD .free/\(X.env.scope.names.lookup p.1=lD .cell\/X.env.scope.names.lookup p.1=lD .free))/\Y5 X a r
theorem Y5.mem:∀{a:List (Str×Nat)},Y5 X scope a->∀p∈a,X.N[p.2]? =lD p.1/\scope.names.lookup p.1=lD .free/\(X.env.scope.names.lookup p.1=lD .cell\/X.env.scope.names.lookup p.1=lD .free)
 |[],_,p,hp=>by cases hp
 |q::r,h,p,hp=>by
  rcases Rc.mp hp with z|hp
  .rw[z];exact h.1
  .exact h.2.mem p hp
def ud (X:Cx) (a:Uy) (C:QN):List (Str×QN):=S4 (C+1) a.names (hU X.env a.names [])
theorem pM:∀(names:List (Str×Rx)) (n:Nat) (b:List (Str×QN)) (x:Str) (c:QN),(S4 n names b).lookup x=lD c->(n<=c/\(x,Rx.cell)∈names)\/b.lookup x=lD c
 |[],_,_,_,_,h=> .inr h
 |(y,k)::r,n,b,x,c,h=>by
  unfold S4 at h;by_cases f:(k==Rx.cell)=QJ
  .rw[if_pos f] at h
   have e:k= .cell:=by simpa using f
   rcases pM r _ _ x c h with⟨a,g⟩|a
   .exact .inl ⟨Vi a,QV _ g⟩
   .rw[Q7] at a
    split at a
    .rename_i i;cases a;exact .inl ⟨QU _,by rw[eq_of_beq i,e];exact QS⟩
    .exact .inr a
  .rw[if_neg f] at h
   rcases pM r _ _ x c h with⟨a,g⟩|a
   .exact .inl ⟨a,QV _ g⟩
   .exact .inr a
theorem ER:∀(names:List (Str×Rx)) (n:Nat) (a:List (Str×QN)) (x:Str),(x,Rx.cell)∉names->(S4 n names a).lookup x=a.lookup x
 |[],_,_,_,_=>rfl
 |(y,k)::r,n,a,x,h=>by
  have f:=fun z=>h (QV _ z);unfold S4;by_cases b:(k==Rx.cell)=QJ
  .have e:k= .cell:=by simpa using b
   rw[if_pos b,ER r _ _ x f,Q7];have g:(x==y)=QQ:=by refine beq_eq_false_iff_ne.mpr fun z=>h ?_;rw[z,e];exact QS
   rw[g]
  .rw[if_neg b];exact ER r _ _ x f
theorem pK:∀(names:List (Str×Rx)) (h:Heap) (b:List (Str×QN)) (x:Str) (c:QN),(S4 h.objs.size names b).lookup x=lD c->(h.objs.size<=c/\(pushCells h names).IsCell c Ld)\/b.lookup x=lD c
 |[],_,_,_,_,e=> .inr e
 |(y,k)::r,h,b,x,c,e=>by
  unfold S4 at e;unfold pushCells;by_cases f:(k==Rx.cell)=QJ
  .rw[if_pos f] at e⊢
   rw[<-Heap.size_push h {cls:= .type "cell",data:= .cell Ld}] at e;rcases pK r _ _ x c e with⟨a,g⟩|a
   .rw[Heap.size_push] at a;exact .inl ⟨Vi a,g⟩
   .rw[Q7] at a
    split at a
    .cases a;exact .inl ⟨QU _,_,Yw _ _ _ _ (Heap.get?_push_size _ rfl),rfl⟩
    .exact .inr a
  .rw[if_neg f] at e⊢;exact pK r _ _ x c e
theorem yW:∀(names:List (Str×Rx)) (n:Nat) (e:List (Str×QN)),(∀x c,e.lookup x=lD c->c<n)->(∀x y c,e.lookup x=lD c->e.lookup y=lD c->x=y)->∀x y c,(S4 n names e).lookup x=lD c->(S4 n names e).lookup y=lD c->x=y
 |[],_,_,_,h2,x,y,c,e1,e2=>h2 x y c e1 e2
 |(z,k)::r,n,e,h1,h2,x,y,c,e1,e2=>by
  unfold S4 at e1 e2;by_cases h:(k==Rx.cell)=QJ
  .rw[if_pos h] at e1 e2
   refine yW r (n+1) ((z,n)::e) (fun a d q=> ?_) (fun a b d g f=> ?_) x y c e1 e2
   .rw[Q7] at q
    split at q
    .cases q;exact Uz _
    .exact Vj (h1 a d q)
   .rw[Q7] at g f
    split at g
    .rename_i ha
     split at f
     .rename_i i;rw[eq_of_beq ha,eq_of_beq i]
     .cases g;exact absurd (h1 b _ f) (Su _)
    .split at f
     .cases f;exact absurd (h1 a _ g) (Su _)
     .exact h2 a b d g f
  .rw[if_neg h] at e1 e2;exact yW r n e h1 h2 x y c e1 e2
theorem zt:∀{names:List (Str×Rx)} {x:Str} {k a:Rx},(names.map (·.1)).Nodup->names.lookup x=lD k->(x,a)∈names->k=a
 |[],_,_,_,_,h,_=>by cases h
 |(y,j)::r,x,k,a,hn,h,hm=>by
  rw[Q3,Sw] at hn;rw[Q7] at h;rcases Rc.mp hm with e|hm'
  .cases e;rw[beq_self_eq_true] at h;exact(Ra h).symm
  .cases hx:x==y with
   |true=>rw[eq_of_beq hx] at hm';exact absurd (Rn.mpr ⟨_,hm',rfl⟩) hn.1
   |false=>rw[hx] at h;exact zt hn.2 h hm'
def dX (X:Cx) (s:QP) (H:Hp) (a:Uy) (C:QN) (N:List Str) (fp:List QN):Cx:=
 {X with N:=N,s₀:=s,H₀:=H,env:=compEnvC a (ud X a C) C X.env,outer:=X.stack,stack:=X.stack,ex:=fp,fn:=fun x=>((hU X.env a.names []).lookup x).isNone,pn:=[],xe:=fun _ _=>False}
section
variable {X:Cx} {Z:List (QN×Obj)} {Y:St} {H:Hp} {s:QP}
theorem sk {a:Uy} (I:Inv X Z Y H s) (e:(hU X.env a.names []).lookup x=lD c):X.env.cells.lookup x=lD c/\c<s.heap.objs.size:=by have h:=jG _ _ (fun _ _ q=>by cases q) x c e;obtain⟨v,o,z,_⟩:=I.cell x c h;exact⟨h,Heap.lt_size z⟩
theorem Ab (I:Inv X Z Y H s) (M:scope.kind= .function) (K:(scope.names.map (·.1)).Nodup)
  (n:∀y∈scope.names,y.2= .free->∃c,X.env.cells.lookup y.1=lD c) (g:s.heap.objs.size<=C) (j:∀b∈fp,mn X Z H b) (f:∀b∈fp,b<s.heap.objs.size):(dX X s H scope C N fp).Ok where
 mod:=I.ok.mod
 kind:=M
 glob:=I.ok.glob
 blt:=I.ok.blt
 above:=g
 inj:=yW _ _ _ (fun x c e=>Vj (Rb (sk I e).2 g)) fun x y c v u=>I.ok.inj x y c (sk I v).1 (sk I u).1
 has:=fun x B=>by
  have J:∃k,(relabel scope X.env).names.lookup x=lD k/\(k= .cell\/k= .free):=by
   rcases B with z|z
   .exact⟨_,z,.inl rfl⟩
   .exact⟨_,z,.inr rfl⟩
  obtain⟨k,F,L⟩:=J;obtain⟨w,hm,m⟩:=xV F;have e:w= .free\/w= .cell:=by
   rcases m with z|⟨z,_⟩
   .subst z
    rcases L with z|z
    .exact .inr z
    .exact .inl z
   .exact .inl z
  have q:((ud X scope C).lookup x).isSome=QJ:=by
   rcases e with e|e
   .subst e;obtain⟨c,G⟩:=n _ hm rfl;exact T8 _ _ _ (.inr (by rw[xQ hm G];rfl))
   .subst e
    refine T8 _ _ _ (.inl ?_);cases z:scope.names.lookup x with
    |none=>exact absurd hm (fun hm=>by
      have:∀{l:List (Str×Rx)},l.lookup x=Ld->(x,Rx.cell)∉l:=fun{l}=>by
       induction l with
       |nil=>exact fun _=>by simp
       |cons p r A=>
        intro h q;rw[Q7] at h;rcases Rc.mp q with q|q
        .rw[<-q,beq_self_eq_true] at h;cases h
        .split at h
         .cases h
         .exact A h q
      exact this z hm)
    |some O=>rw[zt K z hm]
  exact XZ.mp q
 cab:=fun x c v u=>by
  have i:((hU X.env scope.names []).lookup x).isNone=QJ:=v;have t:=u;rcases pM _ _ _ x c t with⟨z,_⟩|z
  .exact RA g (Vi z)
  .rw[z] at i;cases i
 hd:=I.ok.hd
 frames:=I.ok.frames
 stk:= .inl rfl
 exf:=fun b a=>⟨Rg (Rb (f b a) g),fun x c e=>by
  rcases pM _ _ _ x c e with⟨z,_⟩|z
  .exact Sa (Rb (Rb (f b a) g) (Vi z))
  .exact(j b a).2.2.2.2.1 x c (sk I z).1⟩
 bs:=I.bs
 bsz:=RA I.ok.bsz I.sz
 ZY:=fun b o e a=>by
  rcases(j b a).2.2.2.1 with z|z
  .exact I.ok.ZY b o e z
  .exact absurd (Rb (Heap.lt_size e) (RA I.ok.bsz z)) (Su _)
 ZW:=fun b a E=>by
  rcases Rc.mp (I.Yg b E) with z|z
  .exact(j b a).2.1 z
  .exact(j b a).2.2.1 z
 W5:=I.stack
 frf:=I.Yd
theorem Gx (I:Inv X Z Y H s) (UY:scope.kind= .function) (ZV:(scope.names.map (·.1)).Nodup)
  (hfr:∀y∈scope.names,y.2= .free->∃c,X.env.cells.lookup y.1=lD c) (hfv:Y5 X scope fv) (hD:s.heap.objs.size<=D) (hDC:D<C) (hC:s.heap.objs.size<=C) (hf:∀b∈fp,mn X Z H b) (hfl:∀b∈fp,b<s.heap.objs.size)
  (hns:h1.Ns C m) (hoc:∀x c,(ud X scope C).lookup x=lD c->C<c->∃v,h1.IsCell c v) (hk:∀b o,s.heap.get? b=lD o->h1.get? b=lD o) (hd:∃n,h1.get? D=lD {cls:= .type "list",data:= .seq #[] n}):
  Inv (dX X s H scope C (fS own fv) fp) [] (ir own fv Y) (bC H D (.lst [])) {s with heap:=h1,toks:=t1}:=by
 have hn:=I.Sh.fresh hD;obtain⟨n,hd⟩:=hd;have hCD:=Sa hDC;have hcs:∀x c,(ud X scope C).lookup x=lD c->C<c\/(X.env.cells.lookup x=lD c/\c<s.heap.objs.size):=fun x c e=>by
  rcases pM _ _ _ x c e with⟨z,_⟩|z
  .exact .inl z
  .exact .inr (sk I z)
 refine⟨Ab I UY ZV hfr hC hf hfl,rfl,I.bare,Un.laid hk hD hn,⟨m,hns,fun i x v e1 e2 e3=> ?_⟩,fun x c e=> ?_,?_,fun x c e=> ?_,fun p hp=>absurd (show p∈([]:List (QN×Obj)) from hp) (by simp),?_,?_⟩
 .
  have e1':(own++fv.map (·.1))[i]? =lD x:=e1;have e2':(own.map (fun _=>(Ld:Option V))++fv.map fun p=>(Y[p.2]?).join)[i]? =lD (lD v):=e2;have hi:own.length<=i:=by
   by_cases hi:i<own.length
   .rw[Q1 (by simpa using hi),QW] at e2'
    cases q:own[i]? with
    |none=>rw[q] at e2';cases e2'
    |some _=>rw[q] at e2';cases e2'
   .omega
  rw[Ro hi,QW] at e1';rw[Ro (by simpa using hi),QW,QI] at e2';cases q:fv[i - own.length]? with
  |none=>rw[q] at e1';cases e1'
  |some p=>
   rw[q] at e1' e2';have ex:=Ra e1';subst ex;have ev:(Y[p.2]?).join=lD v:=Ra e2';obtain⟨g1,g2,g3⟩:=hfv.mem p (Ry q);have ev2:Y[p.2]? =lD (lD v):=by
    cases z:Y[p.2]? with
    |none=>rw[z] at ev;cases ev
    |some y=>rw[z] at ev;exact congrArg lD ev
   obtain⟨m0,_,hl⟩:=I.loc;obtain⟨u,r,l⟩:=hl p.2 p.1 v g1 ev2 (.inr g3);refine⟨u,r,?_⟩;have l2:∃c,X.env.cells.lookup p.1=lD c/\s.heap.IsCell c (lD u):=by
    rcases l with⟨k,_⟩|⟨_,c,e,z⟩
    .have k':X.env.scope.names.lookup p.1=lD .local:=k
     rcases g3 with z|z
     .rw[z] at k';cases k'
     .rw[z] at k';cases k'
    .exact⟨c,e,z⟩
   obtain⟨c,e,o,ho,hdc⟩:=l2;refine .inr ⟨?_,c,?_,o,hk c o ho,hdc⟩
   .exact jj g2
   .show(ud X scope C).lookup p.1=lD c;unfold ud;rw[ER _ _ _ _ fun z=>by cases zt ZV g2 z];exact xQ (SM g2) e
 .rcases hcs x c e with z|⟨z,_⟩
  .exact hoc x c e z
  .obtain⟨v,o,ho,hdc⟩:=I.cell x c z;exact⟨v,o,hk c o ho,hdc⟩
 .show bC H D (.lst []) C=Ld;rw[az hCD];exact I.Sh.fresh hC
 .show bC H D (.lst []) c=Ld
  rcases hcs x c e with z|⟨z1,z2⟩
  .rw[az (Sa (Uj hDC z))];exact I.Sh.fresh (RA hC (VH z))
  .rw[az (Rg (Rb z2 hD))];exact I.VY x c z1
 .exact I.Sh.laid hk hD ⟨by show 0<=QX;exact Rp _,[],n,.nil,hd⟩
 .show(own.map (fun _=>(Ld:Option V))++fv.map fun p=>(Y[p.2]?).join).length=(own++fv.map (·.1)).length;simp
end
def F5 (X:Cx) (e:List RM) (t:TT):Prop:=
 ∀(a:List (QN×Obj)) (s:QP) (b:St) (H:Hp) (Q:Bool->Hp->Prop),Inv X a b H s->t b H Q->
  wpAny (model X.prog X.w) X.A (forIn e QJ fun c r=>if r=QJ then do let ok<-isTrue c X.env (eval c X.env);pure (ForInStep.yield ok) else pure (ForInStep.yield r)) (TP X a b Q) X.xe s
def ET:TT:=fun _ H Q=>Q QJ H
theorem eA:F5 X [] ET:=fun _ _ _ H _ I h=>wpAny_tests_nil ⟨H,I,h⟩
theorem iQ (h:PT X c tc):F5 X [c] tc:=fun a s b H Q I e=>wpAny_tests_one (h a s b H Q I e)
def Fx (J:It) (D:QN) (e:St) (g:TG) (l:TT) (j:TE) (o:Hp) (Fin:Hp->Prop):Prop:=
 ∃W:Nat->Nat->St->Hp->Prop,(∃m,W 0 m e (bC o D (.lst [])))/\∀i m σ H,W i m σ H->
  (J.stop i H/\Fin H)\/(J.go i H/\∃N:St->Hp->Prop,(∀σ' H',N σ' H'->∃m',m'<m/\W (i+1) m' σ' H')/\
   ∀x H',J.yld i H x H'->g x σ H' fun a n=>l a n fun b h=>if b=QJ then j a h fun y f=>∃ys,f D=lD (.lst ys)/\ys.length<QX/\N a (bC f D (.lst (ys++[y]))) else N a h)
section
variable {prog:Rf} {w:RB} {A:Rv} {s:QP}
theorem CO {i p f:RM} {g:List RM} {b:Uy} {l:Pos} {it j:QH} {env:Env} {R:WW->QP->Prop} {XE:QH->QP->Prop} (C:∀x s1,XE x s1->notedBy (model prog w) A env (fun e s2=>R (.error e) s2) x s1) (I:Nat->QP->Prop)
  (turn:∀n s,I n s->wpAny (model prog w) A (pyNext it) (fun r s1=>match r with
   |none=>R (.ok .next) s1
   |some v=>wpAny (model prog w) A (letOwnedTupleGo p it v) (fun _ s2=>wpAny (model prog w) A (assign p env v) (fun _ s3=>
     wpAny (model prog w) A (forIn g QJ fun c r=>if r=QJ then do let ok<-isTrue c env (eval c env);pure (ForInStep.yield ok) else pure (ForInStep.yield r)) (fun ok s4=>
      if ok=QJ then wpAny (model prog w) A (eval i env) (fun x s5=>
       wpAny (model prog w) A (call (.builtin "list.append") [j,x]) (fun _ s6=>∃m,m<n/\I m s6) (fun _ _=>False) s5) XE s4
      else∃m,m<n/\I m s4) (fun _ _=>False) s3) (fun _ _=>False) s2) (fun _ _=>False) s1) (fun _ _=>False) s)
  (n:Nat) (h:I n s):codeAny (model prog w) A (.compLoop (.ListComp i [⟨p,f,g,0⟩] b l) 0 it j env) R s:=by
 refine codeAny_loop rfl I (fun n s F=> ?_) n h;show wpAny _ A (Sem.onRaise (compTurn (.ListComp i [⟨p,f,g,0⟩] b l) 0 it j env) (fun x=>do noteFrame x env;theTreesLotGoes x)) _ _ s;refine wpAny_noted ?_;rw[compTurn_list]
 have o:∀{α:Type} {t:Sem α} {Q B:α->QP->Prop} {E:QH->QP->Prop} {s:QP},wpAny (model prog w) A t Q (fun _ _=>False) s->(∀a s',Q a s'->B a s')->wpAny (model prog w) A t B E s:=
  fun q u=>wpAny_mono q u fun _ _ z=>False.elim z
 refine QG (Tn (QG (o (turn n s F) fun r s1 q=> ?_)));cases r with
 |none=>exact QR q
 |some v=>
  refine QG (o q fun _ s2 u=>QG (o u fun _ s3 J=>QG (o J fun ok s4 y=> ?_)));cases ok with
  |false=>exact QR ⟨rfl,y⟩
  |true=>exact QG (QG (wpAny_mono y (fun x s5 H=>QG (o H fun _ s6 G=>QR (QR ⟨rfl,G⟩))) C))
end
section
variable {X:Cx} {Z:List (QN×Obj)} {Y:St} {H:Hp} {s:QP}
theorem uL
  (h:Q (newEnv scope s.heap.objs.size globals (S4 (s.heap.objs.size+1) scope.names closure) qual Ld .none (lD env) builtinsNs) {s with heap:=pushCells (s.heap.push {cls:= .type "dict",data:= .dict #[]}) scope.names}):
  wpAny M A (newFunctionEnv scope globals closure [] qual Ld .none (lD env)) Q E s:=by
 simp only[newFunctionEnv,Zr,if_true];refine QG (wpAny_alloc ?_);refine QG (wpAny_layCells _ (fun e a b=>by cases hkc:a==Rx.cell<;>simp[hkc]) _ _ _ _ ?_);rw[show({s with heap:=s.heap.push {cls:= .type "dict",data:= .dict #[]}}:QP).heap.objs.size=s.heap.objs.size+1 from Heap.size_push ..];rw[X1];exact QG (QR (QR h))
theorem pT {P tg q:RM} {F:List RM} {scope:Uy} {pos:Pos} {own:List Str} {h:List (Str×Nat)} {g:TG} {tc:TT} {te:TE} {E:QH->QP->Prop} {it:QN} {fp:List QN} {tn:Nat->Heap->Prop} {J:It} {Fin:QN->Hp->Prop}
  {RR:QH->QN->WW->QP->Prop} (I:Inv X Z Y H s) (hc:X.calm=QJ) (UY:scope.kind= .function) (ZV:(scope.names.map (·.1)).Nodup) (hfr:∀y∈scope.names,y.2= .free->∃c,X.env.cells.lookup y.1=lD c) (hfv:Y5 X scope h)
  (T:Turn X.prog X.w X.K tg J fp it tn) (st:tn 0 s.heap) (L:∀b∈fp,mn X Z H b)
  (hg:∀C,PG (dX X s H scope C (fS own h) fp) tg g) (ht:∀C,F5 (dX X s H scope C (fS own h) fp) F tc) {W:QN->QH->QP->Prop} (he:∀C,PE ((dX X s H scope C (fS own h) fp).Xi (W C)) P te) (hEE:∀D C x s1,s.heap.objs.size<=C->W C x s1->notedBy (model X.prog X.w) X.A (compEnvC scope (ud X scope C) C X.env) (fun e s2=>RR (.ref D) C (.error e) s2) x s1)
  (hR:∀D,H D=Ld->Fx J D (ir own h Y) g tc te H (Fin D))
  (hRR:∀D C H' s',Inv X Z Y H' s'->Fin D H'->(∃m,s'.heap.Ns C m)->s.heap.objs.size<=C->H' C=Ld->RR (.ref D) C (.ok .next) s'):
  wpAny (model X.prog X.w) X.A (newList []) (fun acc s3=>wpAny (model X.prog X.w) X.A (newFunctionEnv scope X.env.globals (hU X.env scope.names []) [] X.env.qual Ld .none (lD X.env)) (fun adE s4=>
   codeAny (model X.prog X.w) X.A (.compStart (.ListComp P [⟨tg,q,F,0⟩] scope pos) 0 (.ref it) acc {adE with scope:=relabel scope X.env}) (RR acc adE.locals) s4) E s3) E s:=by
 refine Sf ?_;generalize hH2:s.heap.push {cls:= .type "list",dict:=Ld,data:= .seq ([]:List QH).toArray}=h2;have hz:h2.objs.size=s.heap.objs.size+1:=by rw[<-hH2,Heap.size_push]
 refine uL (s:={s with heap:=h2}) ?_;have M:s.heap.objs.size<h2.objs.size:=by rw[hz];exact Uz _
 have hC:s.heap.objs.size<=h2.objs.size:=VH M;generalize hH1:pushCells (h2.push {cls:= .type "dict",data:= .dict #[]}) scope.names=h1;have kp2:∀b o,h2.get? b=lD o->h1.get? b=lD o:=fun b o e=>by rw[<-hH1];exact Yw _ _ b o (Heap.get?_push_of_some _ e)
 have kp:∀b o,s.heap.get? b=lD o->h1.get? b=lD o:=fun b o e=>kp2 b o (by rw[<-hH2];exact Heap.get?_push_of_some _ e);have hns:h1.Ns h2.objs.size (fun _=>Ld):=by rw[<-hH1];exact(Heap.Ns.new h2 (.type "dict")).keeps (Yw _ _)
 have hoc:∀x c,(ud X scope h2.objs.size).lookup x=lD c->h2.objs.size<c->∃v,h1.IsCell c v:=fun x c e U8=>by
  have e':(S4 (h2.push {cls:= .type "dict",data:= .dict #[]}).objs.size scope.names (hU X.env scope.names [])).lookup x=lD c:=by rw[Heap.size_push];exact e
  rcases pK _ _ _ x c e' with⟨_,z⟩|z
  .exact⟨Ld,by rw[<-hH1];exact z⟩
  .exact absurd (Uj (sk I z).2 (Uj M U8)) (Su _)
 have hd:∃n,h1.get? s.heap.objs.size=lD {cls:= .type "list",data:= .seq #[] n}:=⟨0,kp2 _ _ (by rw[<-hH2];exact Heap.get?_push_size _ rfl)⟩;have G:∀b∈fp,b<s.heap.objs.size:=fun b f=>by obtain⟨o,e,_⟩:=T.obj 0 _ st b f;exact Heap.lt_size e
 have hn:H s.heap.objs.size=Ld:=I.Sh.fresh (QU _);obtain⟨W,⟨m0,w0⟩,turn⟩:=hR s.heap.objs.size hn;have O:∀{pl:List (QN×Obj)} {H':Hp},(∀b∈fp,H' b=Ld)->(∀p∈pl,p.1∉fp)->∀b∈fp,mn (dX X s H scope h2.objs.size (fS own h) fp) pl H' b:=fun{pl H'} hn' Xn b f=>by have ok:=Ab (C:=h2.objs.size) (N:=fS own h) I UY ZV hfr hC L G;exact⟨hn' b f,(ok.exf b f).1,ok.ZW b f,.inl f,(ok.exf b f).2,fun p hp=>by have hp':p∈([]:List (QN×Obj))++pl:=hp;intro z;exact Xn p (by simpa using hp') (by rw[z];exact f)⟩
 have l:∀s4:QP,s4={s with heap:=h1}->
   codeAny (model X.prog X.w) X.A (.compLoop (.ListComp P [⟨tg,q,F,0⟩] scope pos) 0 (.ref it) (.ref s.heap.objs.size) (compEnvC scope (ud X scope h2.objs.size) h2.objs.size X.env)) (RR (.ref s.heap.objs.size) h2.objs.size) s4:=by
  rintro s4 rfl
  have I0:Inv (dX X s H scope h2.objs.size (fS own h) fp) [] (ir own h Y) (bC H s.heap.objs.size (.lst [])) {s with heap:=h1}:=
   Gx I UY ZV hfr hfv (QU _) M hC L G hns hoc kp hd
  have st0:tn 0 h1:=T.keep 0 _ _ st fun b _ o e=>kp b o e;have fr0:∀b∈fp,(bC H s.heap.objs.size (.lst [])) b=Ld:=fun b f=>by rw[az (Rg (G b f))];exact(L b f).1
  refine CO (fun x s1 z=>hEE _ _ x s1 hC z) (fun n s'=>∃i σ' H',Inv (dX X s H scope h2.objs.size (fS own h) fp) [] σ' H' s'/\tn i s'.heap/\(∀b∈fp,H' b=Ld)/\W i n σ' H') ?_ m0 ⟨0,_,_,I0,st0,fr0,w0⟩;rintro n s5 ⟨i,j,H5,I5,st5,fr5,w5⟩;rcases turn i n j H5 w5 with⟨stop,fin⟩|⟨go,N,hN,step⟩
  .refine cA (T.done (dX X s H scope h2.objs.size (fS own h) fp) rfl rfl rfl hc i [] s5 j H5 (fun _ _=>False) I5 (O fr5 (by simp)) st5 stop) fun r s6 ⟨hr,S⟩=> ?_;subst hr;obtain⟨mm,hm,_⟩:=S.loc;refine hRR _ _ H5 s6 ?_ fin ⟨mm,hm⟩ hC S.free;exact I.abS (ch:=fp) S.os S.base S.Sh S.bare fun b f=>⟨(L b f).2.2.2.1,(L b f).2.1,(L b f).2.2.2.2.1,(L b f).2.2.2.2.2⟩
  .refine cA (T.item (dX X s H scope h2.objs.size (fS own h) fp) rfl rfl rfl hc i [] s5 j H5 (fun _ _=>False) I5 (O fr5 (by simp)) st5 go) fun r s6 ⟨u,hr,h6⟩=> ?_
   subst hr;refine cA h6 fun _ s7 ⟨x,H7,I7,r7,y7,B,fr7⟩=> ?_;have I7':=I7.pinned (fp:=fp) (O fr7 (by simp)) (T.obj _ _ B);have t:∀{a:St} {Q:Hp} {R:QP},Inv (dX X s H scope h2.objs.size (fS own h) fp) ([]++pP fp s7.heap) a Q R->N a Q->∃m,m<n/\∃i σ' H',Inv (dX X s H scope h2.objs.size (fS own h) fp) [] σ' H' R/\tn i R.heap/\(∀b∈fp,H' b=Ld)/\W i m σ' H':=fun{a Q R} I8 n8=>by obtain⟨m',hm,w8⟩:=hN a Q n8;refine⟨m',hm,i+1,a,Q,I8.WG,T.keep _ _ _ B fun b f o e=>(I8.pin (b,o) (Rr _ (Rr _ (jg f e)))).1,fun b f=> ?_,w8⟩;obtain⟨o,e,d⟩:=T.obj _ _ B b f;exact(I8.pin (b,o) (Rr _ (Rr _ (jg f e)))).2.1
   refine cA (hg _ _ s7 j H7 x u _ I7' r7 (step x H7 y7)) fun _ R ⟨a,Q,I8,q8⟩=> ?_;refine cA (ht _ _ R a Q _ I8 q8) fun ok s9 ⟨H9,I9,q9⟩=> ?_;cases ok with
   |false=>rw[if_neg Q8] at q9⊢;exact t I9 q9
   |true=>rw[if_pos rfl] at q9⊢;refine cA (he _ _ s9 a H9 _ (I9.Xi _) q9) fun y s10 ⟨U,H10,af0,r10,ys,hy,hl,q10⟩=> ?_;have I10:=af0.Vr;refine cA (kG _ s10 a H10 (.ref s.heap.objs.size) [U] (.ref s.heap.objs.size) [y] (fun _ H11=>N a H11) I10 rfl (.cons r10 .nil) ⟨_,ys,U,rfl,rfl,hy,hl,q10⟩) fun _ s11 ⟨v11,H11,I11,_,q11⟩=> ?_;exact t I11 q11
 exact codeAny_compStart_list (l _ rfl) (T.self _ 0 _ _ _ (T.keep 0 _ _ st fun b _ o e=>kp b o e) (l _ rfl))
def wN (own:List Str) (h:List (Str×Nat)) (b:TI) (g:TG) (f:TT) (e:TE):TE:=fun Y H Q=>b Y H fun J a=>∀D,a D=Ld->Fx J D (ir own h Y) g f e a fun i=>Q (.ref D) i
theorem pG {a:Uy} (ok:X.Ok) (h:∀y∈a.names,y.2= .free->(X.env.scope.names.lookup y.1=lD .cell\/X.env.scope.names.lookup y.1=lD .free)):∀y∈a.names,y.2= .free->∃c,X.env.cells.lookup y.1=lD c:=
 fun y b e=>ok.has y.1 (h y b e)
theorem Kt {a b:Uy} (h:(a.names.all fun y=> !(y.2==Rx.free)||(b.names.lookup y.1==lD Rx.cell)||(b.names.lookup y.1==lD Rx.free))=QJ):
  ∀y∈a.names,y.2= .free->(b.names.lookup y.1=lD .cell\/b.names.lookup y.1=lD .free):=fun y f e=>by
 have q:=TU.mp h y f;rw[e] at q
 simpa using q
theorem eN {elt tg iter:RM} {ifs:List RM} {scope:Uy} {pos:Pos} (own:List Str) (fv:List (Str×Nat)) {wi:TI} {g:TG} {tc:TT} {te:TE} (hc:X.calm=QJ) (hi:PI X tg iter wi)
  (hg:∀s H C fp,PG (dX X s H scope C (fS own fv) fp) tg g) (ht:∀s H C fp,F5 (dX X s H scope C (fS own fv) fp) ifs tc) (he:∀s H C fp,PE (dX X s H scope C (fS own fv) fp) elt te) (hfv:Y5 X scope fv)
  (acd:(scope.names.all fun y=> !(y.2==Rx.free)||(X.env.scope.names.lookup y.1==lD Rx.cell)||(X.env.scope.names.lookup y.1==lD Rx.free))=QJ)
  (UY:scope.kind= .function:=by rfl) (ZV:(scope.names.map (·.1)).Nodup:=by left)
  (Zd:∀y∈scope.names,y.2= .local->scope.names.lookup y.1=lD .local:=by left) (hs:∀x,foldedSetIterable iter X.env x=pure x:=by intro _;rfl):
  PE X (.ListComp elt [⟨tg,iter,ifs,0⟩] scope pos) (wN own fv wi g tc te):=by
 intro Z s Y H Q I h;have hfr:=Kt acd;rw[eval_ListComp];refine ZJ (use:=Ld) rfl hs (qE (pG I.ok hfr)) UY Zd (cA (hi Z s Y H _ I h) fun xv s1 h1=>cA h1 fun itv s2 h2=> ?_);obtain⟨it,fp,tn,J,H2,e,I2,T,st2,f2,R⟩:=h2;subst e;refine pT I2 hc UY ZV (pG I.ok hfr) hfv T st2 f2 (fun C=>hg _ _ C _) (fun C=>ht _ _ C _) (W:=fun _ _ _=>False) (fun C=>he _ _ C _) (fun _ _ _ _ _ z=>z.elim) (Fin:=fun D H'=>Q (.ref D) H') R ?_;intro D C H' s' I' fin hm hC hn;obtain⟨m,hm⟩:=hm;refine⟨m,hm,fun h' hs'=>⟨.ref D,H',?_,rfl,fin⟩⟩;obtain⟨f0,f1,_,f3,f4,f5⟩:=I2.YH hC hn;exact I'.turned (t':=s'.toks) (fun b o hb q=>(hs'.2 b hb).trans q) f0 f1 f3 f4 f5
theorem pH {elt tg iter:RM} {ifs:List RM} {scope:Uy} {pos adR py:Pos} {i:Nat} {x:Str} (own:List Str) (fv:List (Str×Nat)) {wi:TI} {g:TG} {tc:TT} {te:TE} (hN:X.N.Nodup) (hi':X.N[i]? =lD x) (hx:X.env.scope.names.lookup x=lD .local)
  (hc:X.calm=QJ) (hi:PI X tg iter wi)
  (hg:∀s H C fp,PG (dX X s H scope C (fS own fv) fp) tg g) (ht:∀s H C fp,F5 (dX X s H scope C (fS own fv) fp) ifs tc) (he:∀s H C fp,PE (dX X s H scope C (fS own fv) fp) elt te) (hfv:Y5 X scope fv)
  (acd:(scope.names.all fun y=> !(y.2==Rx.free)||(X.env.scope.names.lookup y.1==lD Rx.cell)||(X.env.scope.names.lookup y.1==lD Rx.free))=QJ)
  (hsw:Sy (.ListComp elt [⟨tg,iter,ifs,0⟩] scope pos) (lD (.Name x py)) adR.line X.env=pure QJ:=by rfl)
  (UY:scope.kind= .function:=by rfl) (ZV:(scope.names.map (·.1)).Nodup:=by left)
  (Zd:∀y∈scope.names,y.2= .local->scope.names.lookup y.1=lD .local:=by left) (hs:∀x,foldedSetIterable iter X.env x=pure x:=by intro _;rfl):
  PS X (.Assign [.Name x py] (.ListComp elt [⟨tg,iter,ifs,0⟩] scope pos) adR) (EL (wN own fv wi g tc te) (vX i)):=by
 intro Z s Y H D I h;have hfr:=Kt acd;rw[exec_Assign_Name_used _ _ _ _ hsw];refine QG (Tn (QG ?_));show wpAny _ _ (do let _<-comprehension (.ListComp elt [⟨tg,iter,ifs,0⟩] scope pos) scope X.env _ (newList []) QQ (eval iter X.env) (lD (assign (.Name x py) X.env))) _ _ s;refine QG (cA (ZJ (use:=lD (assign (.Name x py) X.env)) (Q:=fun _ s'=>SP X Z D .next s') rfl hs (qE (pG I.ok hfr)) UY Zd
  (cA (hi Z s Y H _ I h) fun xv s1 h1=>cA h1 fun itv s2 h2=> ?_)) fun _ s' q=>QR (QR q))
 obtain⟨it,fp,tn,J,H2,e,I2,T,st2,f2,R⟩:=h2;subst e;refine pT I2 hc UY ZV (pG I.ok hfr) hfv T st2 f2 (fun C=>hg _ _ C _) (fun C=>ht _ _ C _) (W:=fun _ _ _=>False) (fun C=>he _ _ C _) (fun _ _ _ _ _ z=>z.elim) (Fin:=fun L H'=>D.nx (Y.set i (lD (.ref L))) H') R ?_;intro L C H' s' I' fin hm hC hn;obtain⟨m,hm⟩:=hm;obtain⟨f0,f1,f2',f3,f4,f5⟩:=I2.YH hC hn;show wpAny _ _ (assign (.Name x py) X.env (.ref L)) _ _ s';refine acG (sH I' hN hi' (.inl hx) (v:= .ref L) rfl (fun s'' I'' ⟨a,sb,ha⟩=> ?_) (.inr hx));have hCa:C≠a:=by
  rcases ha with z|z
  .rw[z];exact f1
  .exact fun q=>f4 x a z q.symm
 refine⟨m,hm.sameBut sb hCa,fun h' hs'=>⟨_,H',?_,fin⟩⟩;exact I''.turned (t':=s''.toks) (fun b o hb q=>(hs'.2 b hb).trans q) f0 f1 f3 f4 f5
end
def wV (P:Rf) (w:RB) (K:QF) (mg:Str->Option QH) (base:Heap) (k:Nat) (x:Str) (ps:List Str) (sp:Sp):Prop:=
 ∃(f:QN) (a:RZ),FnOk P w K mg base dm k f a ps sp/\Binds K a ps []/\SD K (.ref f)=QJ/\mg x=lD (.ref f)
theorem ke (C:wV X.prog X.w X.K X.mg X.base k x ps sp) (h:Td j X.A) (ha:PA X (e::es) t) (a:k<=j:=by decide) (i:Gl X x:=by rfl)
  (n:(x==("__debug__":Str))=QQ:=by decide) (l:Rh (e::es) X.env=(QQ,eval e X.env)::Rh es X.env:=by rfl) (o:(backTo pos (Rh es X.env)).any (·.1)=QQ:=by rfl):
  PE X (.Call (.Name x p) (e::es) [] pos) (mB sp [] E0 t):=by
 obtain⟨f,q,F,b,g,m⟩:=C;exact zN F (h.mono a) i m g b .nil Aw ha n l o
section
variable {Z:St} {H:Hp} {Q:VK} {D:Ends}
theorem Lk (h:t {D with nx:=u D} Z H):HU t u D Z H:=h
theorem JD (h:te Z H fun _ H1=>D.nx Z H1):Bx te D Z H:=h
end
theorem M0 {α:Type} {xs:List α} {i:Int} {v:α} (a:0<=i) (h:xs[i.toNat]? =lD v):lL xs i=lD v:=by have q:=AH h;rwa [Z7 a] at q
theorem SJ.tup {K:QF} (e:SJ H H') (h:Vn K H a xs):Vn K H' a xs:=by
 rcases h with(h|⟨o,h⟩)|h
 .exact .inl (.inl (e _ _ h))
 .exact .inl (.inr ⟨o,e _ _ h⟩)
 .exact .inr h
theorem ce (h:H p=Ld) (o:HO):SJ H (bC H p o):=fun b u q=>by rw[az (bW q h)];exact q
theorem JR:Se "max"=lD (.builtin "max"):=by left
theorem mG:Se "len"=lD (.builtin "len"):=by left
theorem xy:Se "sorted"=lD (.builtin "sorted"):=by left
theorem JX:Se "all"=lD (.builtin "all"):=by left
theorem yj:Se "list"=lD (.type "list"):=by left
theorem mf:Se "tuple"=lD (.type "tuple"):=by left
section
variable {X:Cx}
theorem vZ:Ub X (.builtin "sorted") (fun xs H Q=>∃(p:QN) (g:List Int),xs=[.ref p]/\Ve X.K H p (g.map V.int)/\g.length<64/\∀(l:QN) (a:List Int),H l=Ld->a.Perm g->a.Pairwise (·<=·)->Q (.ref l) (bC H l (.lst (a.map V.int)))):=by
 intro j s E H xs F Q I r h;obtain⟨p,g,rfl,v,A,q⟩:=h;obtain⟨u,rfl,n⟩:=jM r;cases n;obtain⟨C,rv,pl,J⟩:=I.list v;have w:=rv.length;rw[QI] at w;refine sorted_ints pl.isList (lG rv) (by omega) fun f a hi m t=> ?_;obtain⟨e,y⟩:=sortedAll_at s.heap C f;have i:a.length=g.length:=m.length_eq;have B:f.toList.length=a.length:=hi.length;refine⟨.ref (s.heap.objs.size+1),_,I.laid (t':=s.toks) (o:= .lst (a.map V.int)) (fun b G z=>sortedAll_old z) (Vh _) ?_,rfl,q _ a (I.Sh.fresh (Vh _)) m t⟩;refine⟨?_,f.toList,e,iO hi,y⟩;rw[QI,i];have:(64:Nat)<=QX:=by decide
 omega
end
end L2
namespace L3
open PySem L2
abbrev D:=QK
inductive PV where
 |fz (d:D)
 |ow (ds:List D)
 |pl (i:Nat)
abbrev aU:=List (Option PV)
structure Xc where
 cls:Str
 fs:List (Str×D)
inductive Res (α:Type) where
 |ok (a:α)
 |er (x:Xc)
 |bad
namespace Res
def bind (r:Res α) (f:α->Res β):Res β:=match r with
 | .ok a=>f a
 | .er x=> .er x
 | .bad=> .bad
def RO:Option α->Res α
 |some a=> .ok a
 |none=> .bad
theorem bind_ok (a:α) (f:α->Res β):(Res.ok a).bind f=f a:=rfl
end Res
abbrev cb:=QN->Prop
def cN (O:cb) (p:QN):cb:=fun b=>O b\/b=p
def F4 (O:cb) (p:QN):cb:=fun b=>O b/\b≠p
def YT:cb:=fun _=>False
def Ev (O:cb) (H:Hp) (a:cb) (H':Hp):Prop:=∀b o,H b=lD o->¬O b->H' b=lD o/\¬a b
theorem Ev.refl:Ev O H O H:=fun _ _ h n=>⟨h,n⟩
theorem Ev.trans (a:Ev O H O1 H1) (b:Ev O1 H1 O2 H2):Ev O H O2 H2:=fun p o h n=>let⟨h1,n1⟩:=a p o h n;b p o h1 n1
theorem Ev.grow (s:SJ H H'):Ev O H O H':=fun b o h n=>⟨s b o h,n⟩
theorem Ev.add (s:SJ H H') (a:H p=Ld):Ev O H (cN O p) H':=fun b o h n=>⟨s b o h,fun z=>z.elim n fun e=>by subst e;rw[h] at a;cases a⟩
theorem Ev.sub (h:∀b,O' b->O b):Ev O H O' H:=fun b o e n=>⟨e,fun z=>n (h b z)⟩
theorem Ev.mut (a:O p) (u:HO):Ev O H O (bC H p u):=fun b o h n=>⟨by rw[az (fun e=>n (by rw[e];exact a))];exact h,n⟩
def UT (K:QF) (H:Hp) (a:QN) (xs:List V):Prop:=Rd H a (.lst xs)\/∃(b:List QH) (n:Nat),K.lookup a=lD {cls:= .type "list",data:= .seq b.toArray n}/\xs.length<=QX/\Vals xs b
theorem UT.sq (h:UT K H a xs):Ve K H a xs:=by
 rcases h with h|⟨RG,n,h1,h2,h3⟩
 .exact .inl h
 .exact .inr ⟨_,RG.toArray,n,h1,rfl,rfl,rfl,by rw[QZ,<-h3.length];exact h2,by simpa using h3⟩
theorem UT.of (h:H a=lD (.lst xs)):UT K H a xs:= .inl (.inl h)
theorem UT.same (e:SJ H H') (h:UT K H a xs):UT K H' a xs:=by
 rcases h with(h|⟨o,h⟩)|h
 .exact .inl (.inl (e _ _ h))
 .exact .inl (.inr ⟨o,e _ _ h⟩)
 .exact .inr h
theorem kA (H:Hp):SJ (fun _=>Ld) H:=fun _ _ h=>by cases h
def Xk (O:cb) (K:QF) (H:Hp) (a:QN) (xs:List V):Prop:=UT K H a xs/\(O a->UT K (fun _=>Ld) a xs)
def VZ (O:cb) (K:QF) (H:Hp) (a:QN) (xs:List V):Prop:=Vn K H a xs/\(O a->Vn K (fun _=>Ld) a xs)
section
variable {O Z:cb} {K:QF} {H H':Hp} {a:QN} {xs:List V}
theorem Xk.ev (h:Xk O K H a xs) (e:Ev O H Z H'):Xk Z K H' a xs:=by
 obtain⟨h,k⟩:=h;by_cases z:O a
 .exact⟨UT.same (kA H') (k z),fun _=>k z⟩
 .rcases h with(h|⟨o,h⟩)|h
  .obtain⟨f,b⟩:=e a _ h z;exact⟨.inl (.inl f),fun y=>absurd y b⟩
  .obtain⟨f,b⟩:=e a _ h z;exact⟨.inl (.inr ⟨o,f⟩),fun y=>absurd y b⟩
  .exact⟨.inr h,fun _=> .inr h⟩
theorem VZ.ev (h:VZ O K H a xs) (e:Ev O H Z H'):VZ Z K H' a xs:=by
 obtain⟨h,k⟩:=h;by_cases z:O a
 .exact⟨(kA H').tup (k z),fun _=>k z⟩
 .rcases h with(h|⟨o,h⟩)|h
  .obtain⟨f,b⟩:=e a _ h z;exact⟨.inl (.inl f),fun y=>absurd y b⟩
  .obtain⟨f,b⟩:=e a _ h z;exact⟨.inl (.inr ⟨o,f⟩),fun y=>absurd y b⟩
  .exact⟨.inr h,fun _=> .inr h⟩
end
mutual
inductive DV (O:cb) (K:QF) (H:Hp):V->D->Prop
 |TN:DV O K H .TN .none
 |bl (b:Bool):DV O K H (.bl b) (.bool b)
 |int (i:Int):DV O K H (.int i) (.int i)
 |str (x:Str):DV O K H (.str x) (.str x)
 |tup {a:QN} {xs:List V} {ds:List D}:VZ O K H a xs->SE O K H xs ds->DV O K H (.ref a) (.tuple ds)
 |lst {a:QN} {xs:List V} {ds:List D}:Xk O K H a xs->SE O K H xs ds->DV O K H (.ref a) (.list ds)
inductive SE (O:cb) (K:QF) (H:Hp):List V->List D->Prop
 |nil:SE O K H [] []
 |cons {v:V} {vs:List V} {d:D} {ds:List D}:DV O K H v d->SE O K H vs ds->SE O K H (v::vs) (d::ds)
end
section
variable {O Z:cb} {K:QF} {H H':Hp}
mutual
theorem DV.ev (e:Ev O H Z H'):∀{v:V} {d:D},DV O K H v d->DV Z K H' v d
 |_,_,.TN=> .TN
 |_,_,.bl b=> .bl b
 |_,_,.int i=> .int i
 |_,_,.str x=> .str x
 |_,_,.tup h hs=> .tup (h.ev e) (SE.ev e hs)
 |_,_,.lst h hs=> .lst (h.ev e) (SE.ev e hs)
theorem SE.ev (e:Ev O H Z H'):∀{vs:List V} {ds:List D},SE O K H vs ds->SE Z K H' vs ds
 |_,_,.nil=> .nil
 |_,_,.cons h hs=> .cons (DV.ev e h) (SE.ev e hs)
end
theorem SE.length:∀{vs:List V} {ds:List D},SE O K H vs ds->vs.length=ds.length
 |_,_,.nil=>rfl
 |_,_,.cons _ t=>by rw[Q5,Q5,t.length]
theorem SE.get:∀{vs:List V} {ds:List D} {i:Nat} {d:D},SE O K H vs ds->ds[i]? =lD d->∃v,vs[i]? =lD v/\DV O K H v d
 |_,_,_,_,.nil,e=>by simp at e
 |_,_,0,_,.cons h _,e=>by simp at e;subst e;exact⟨_,rfl,h⟩
 |_,_,i+1,d,.cons _ t,e=>by obtain⟨v,b,a⟩:=SE.get t (by simpa using e);exact⟨v,by simpa using b,a⟩
theorem SE.abq:∀{vs:List V} {ds:List D} {i:Nat} {v:V},SE O K H vs ds->vs[i]? =lD v->∃d,ds[i]? =lD d/\DV O K H v d
 |_,_,_,_,.nil,e=>by simp at e
 |_,_,0,_,.cons h _,e=>by simp at e;subst e;exact⟨_,rfl,h⟩
 |_,_,i+1,v,.cons _ t,e=>by obtain⟨d,b,a⟩:=SE.abq t (by simpa using e);exact⟨d,by simpa using b,a⟩
theorem SE.append:∀{vs ws:List V} {ds es:List D},SE O K H vs ds->SE O K H ws es->SE O K H (vs++ws) (ds++es)
 |_,_,_,_,.nil,h=>h
 |_,_,_,_,.cons h t,g=> .cons h (SE.append t g)
theorem SE.take:∀{vs:List V} {ds:List D} (n:Nat),SE O K H vs ds->SE O K H (vs.take n) (ds.take n)
 |_,_,0,_=> .nil
 |_,_,_+1,.nil=> .nil
 |_,_,n+1,.cons h t=> .cons h (SE.take n t)
theorem SE.drop:∀{vs:List V} {ds:List D} (n:Nat),SE O K H vs ds->SE O K H (vs.drop n) (ds.drop n)
 |_,_,0,h=>h
 |_,_,_+1,.nil=> .nil
 |_,_,n+1,.cons _ t=>SE.drop n t
theorem SE.flat (h:SE O K H vs ds):∀n:Nat,SE O K H (QT n vs).flatten (QT n ds).flatten
 |0=> .nil
 |n+1=>by rw[RP,RP,SI,SI];exact h.append (SE.flat h n)
mutual
theorem DV.plain:∀{v:V} {d:D},DV O K H v d->L2.DV K H v d
 |_,_,.TN=> .TN
 |_,_,.bl b=> .bl b
 |_,_,.int i=> .int i
 |_,_,.str x=> .str x
 |_,_,.tup h hs=> .tup h.1 (SE.plain hs)
 |_,_,.lst h hs=> .lst h.1.sq (SE.plain hs)
theorem SE.plain:∀{vs:List V} {ds:List D},SE O K H vs ds->L2.SE K H vs ds
 |_,_,.nil=> .nil
 |_,_,.cons h hs=> .cons (DV.plain h) (SE.plain hs)
end
end
def DX (O:cb) (K:QF) (H:Hp) (v:V):D->Prop
 | .list ds=>∃a xs,v= .ref a/\UT K H a xs/\SE O K H xs ds
 |d=>DV O K H v d
theorem DV.x (h:DV O K H v d):DX O K H v d:=by
 cases h with
 |lst h a=>exact⟨_,_,rfl,h.1,a⟩
 |TN=>exact .TN
 |bl b=>exact .bl b
 |int i=>exact .int i
 |str x=>exact .str x
 |tup h a=>exact .tup h a
theorem DX.plain (h:DX O K H v d):L2.DV K H v d:=by
 cases d with
 |list ds=>obtain⟨a,xs,rfl,f,e⟩:=h;exact .lst f.sq e.plain
 |none=>exact DV.plain h
 |bool b=>exact DV.plain h
 |int i=>exact DV.plain h
 |str x=>exact DV.plain h
 |tuple ds=>exact DV.plain h
 |dict Rj=>exact DV.plain h
def Ya (K:QF) (b:Hp) (O:cb) (H:Hp) (v:V):PV->Prop
 | .fz d=>DV O K H v d
 | .ow ds=>∃a vs,v= .ref a/\O a/\b a=Ld/\H a=lD (.lst vs)/\SE O K H vs ds
 | .pl _=>False
structure Rl (K:QF) (B:cb) (H0:Hp) (O:cb) (σ:St) (H:Hp) (ρ:aU):Prop where
 same:SJ H0 H
 bo:∀a,B a->O a
 bd:∀a,B a->H0 a≠Ld
 od:∀a,H a=Ld->¬O a
 len:σ.length=ρ.length
 slot:∀(i:Nat) (x:PV),ρ[i]? =lD (lD x)->∃v,σ[i]? =lD (lD v)/\Ya K H0 O H v x
 one:∀(i j:Nat) (ds es:List D) (v:V),ρ[i]? =lD (lD (.ow ds))->ρ[j]? =lD (lD (.ow es))->σ[i]? =lD (lD v)->σ[j]? =lD (lD v)->i=j
def Vz (K:QF) (f:Hp) (O:cb) (b:St) (H:Hp) (ρ:aU) (v:V):PV->Prop
 | .fz d=>DV O K H v d
 | .ow ds=>∃a vs,v= .ref a/\O a/\f a=Ld/\H a=lD (.lst vs)/\SE O K H vs ds/\∀(i:Nat) (e:List D),ρ[i]? =lD (lD (.ow e))->b[i]?≠lD (lD (.ref a))
 | .pl i=>b[i]? =lD (lD v)
def kM:PV->Prop
 | .ow _=>False
 |_=>True
def bO:PV->PV
 | .ow ds=> .fz (.list ds)
 |p=>p
section
variable {K:QF} {B O X:cb} {Z H H':Hp} {Y:St} {ρ ρ':aU} {v:V}
theorem Ya.grow (s:SJ H H') (h:Ya K Z O H v x):Ya K Z O H' v x:=by
 cases x with
 |fz d=>exact DV.ev (Ev.grow s) h
 |ow ds=>obtain⟨a,vs,e,j,g,f,b⟩:=h;exact⟨a,vs,e,j,g,s _ _ f,b.ev (Ev.grow s)⟩
 |pl i=>exact h
theorem Rl.grow (R:Rl K B Z O Y H ρ) (s:SJ H H'):Rl K B Z O Y H' ρ:=
 ⟨R.same.trans s,R.bo,R.bd,fun a h=>R.od a (s.free h),R.len,fun i x h=>let⟨v,h1,h2⟩:=R.slot i x h;⟨v,h1,h2.grow s⟩,R.one⟩
theorem Rl.abH (R:Rl K B Z O Y H ρ) (h:H p=Ld):Z p=Ld:=R.same.free h
theorem Rl.add (R:Rl K B Z O Y H ρ) (s:SJ H H') (f:H p=Ld) (g:H' p≠Ld):Rl K B Z (cN O p) Y H' ρ:=by
 refine⟨R.same.trans s,fun a h=> .inl (R.bo a h),R.bd,fun a h z=>z.elim (R.od a (s.free h)) fun e=>g (by rw[<-e];exact h),R.len,fun i x h=> ?_,R.one⟩;obtain⟨v,j,b⟩:=R.slot i x h;refine⟨v,j,?_⟩;cases x with
 |fz d=>exact DV.ev (Ev.add s f) b
 |ow ds=>obtain⟨a,vs,e,o,n,m,l⟩:=b;exact⟨a,vs,e,.inl o,n,s _ _ m,l.ev (Ev.add s f)⟩
 |pl i=>exact b
theorem Rl.abj (R:Rl K B Z O Y H ρ) (h:Z a=Ld):¬B a:=fun z=>R.bd a z h
theorem Rl.sub (R:Rl K B Z O Y H ρ) {a:QN} (m:Z a=Ld) (h:∀(i:Nat) (es:List D),ρ[i]? =lD (lD (.ow es))->Y[i]?≠lD (lD (.ref a))):Rl K B Z (F4 O a) Y H ρ:=by
 refine⟨R.same,fun b f=>⟨R.bo b f,fun e=>R.abj m (e▸f)⟩,R.bd,fun b f z=>R.od b f z.1,R.len,fun i x j=> ?_,R.one⟩;obtain⟨v,l,g⟩:=R.slot i x j;refine⟨v,l,?_⟩;cases x with
 |fz d=>exact DV.ev (Ev.sub fun b z=>z.1) g
 |ow ds=>obtain⟨b,vs,e,q,p,o,n⟩:=g;subst e;exact⟨b,vs,rfl,⟨q,fun e=>h i ds j (by rw[l,e])⟩,p,o,n.ev (Ev.sub fun b z=>z.1)⟩
 |pl i=>exact g
theorem vJ (h:H a=lD (.lst vs)) (n:¬O a) (hd:SE O K H vs ds):DV O K H (.ref a) (.list ds):= .lst ⟨UT.of h,fun z=>absurd z n⟩ hd
theorem fY {pv:PV} (R:Rl K B Z O Y H ρ) (h:Vz K Z O Y H ρ v pv):∃X,Ev O H X H/\Rl K B Z X Y H ρ/\Vz K Z X Y H ρ v (bO pv):=by
 cases pv with
 |fz d=>exact⟨O,.refl,R,h⟩
 |pl i=>exact⟨O,.refl,R,h⟩
 |ow ds=>obtain⟨a,vs,rfl,l,j,g,f,e⟩:=h;exact⟨F4 O a,Ev.sub fun b z=>z.1,R.sub j e,vJ g (fun z=>z.2 rfl) (f.ev (Ev.sub fun b z=>z.1))⟩
theorem kO (pv:PV):kM (bO pv):=by cases pv<;>trivial
theorem Vz.keep {pv:PV} (a:kM pv) (e:Ev O H X H') (h:Vz K Z O Y H ρ v pv):Vz K Z X Y H' ρ' v pv:=by
 cases pv with
 |fz d=>exact DV.ev e h
 |pl i=>exact h
 |ow ds=>exact a.elim
def Qf:Option (Option PV)->Option D
 |some (lD (.fz d))=>lD d
 |some (lD (.ow ds))=>lD (.list ds)
 |_=>Ld
def rQ (ρ:aU):PV->Option D
 | .fz d=>lD d
 | .ow ds=>lD (.list ds)
 | .pl i=>Qf ρ[i]?
theorem ku {pv:PV} (R:Rl K B Z O Y H ρ) (h:Vz K Z O Y H ρ v pv) (e:rQ ρ pv=lD d):DX O K H v d:=by
 cases pv with
 |fz t=>cases e;exact DV.x h
 |ow ds=>cases e;obtain⟨a,vs,rfl,E,C,p,n,A⟩:=h;exact⟨a,vs,rfl,UT.of p,n⟩
 |pl i=>
  have b:Qf ρ[i]? =lD d:=e;have r:=h;cases q:ρ[i]? with
  |none=>rw[q] at b;cases b
  |some o=>
   cases o with
   |none=>rw[q] at b;cases b
   |some x=>
    obtain⟨u,g,f⟩:=R.slot i x q;rw[r] at g;cases g;rw[q] at b;cases x with
    |fz t=>cases b;exact DV.x f
    |ow ds=>cases b;obtain⟨a,vs,rfl,y,w,m,l⟩:=f;exact⟨a,vs,rfl,UT.of m,l⟩
    |pl j=>exact f.elim
def toS (ρ:aU) (i:Nat):Option (Option PV)->Option (D×aU)
 |some (lD (.fz d))=>lD (d,ρ)
 |some (lD (.ow ds))=>lD (.list ds,ρ.set i (lD (.fz (.list ds))))
 |_=>Ld
def wO (ρ:aU):PV->Option (D×aU)
 | .fz d=>lD (d,ρ)
 | .ow ds=>lD (.list ds,ρ)
 | .pl i=>toS ρ i ρ[i]?
theorem cw {l:List α} (h:(l.set i x)[j]? =lD y):(j=i/\y=x)\/(j≠i/\l[j]? =lD y):=by
 rw[Sd] at h;by_cases e:i=j
 .rw[if_pos e] at h
  split at h
  .cases h;exact .inl ⟨e.symm,rfl⟩
  .cases h
 .rw[if_neg e] at h;exact .inr ⟨fun z=>e z.symm,h⟩
theorem sX {pv:PV} (R:Rl K B Z O Y H ρ) (h:Vz K Z O Y H ρ v pv) (e:wO ρ pv=lD (d,ρ')):∃X,Ev O H X H/\Rl K B Z X Y H ρ'/\DV X K H v d:=by
 cases pv with
 |fz d'=>cases e;exact⟨O,.refl,R,h⟩
 |ow ds=>cases e;obtain⟨a,vs,rfl,h1,h2,h3,U,T⟩:=h;exact⟨F4 O a,Ev.sub fun b z=>z.1,R.sub h2 T,vJ h3 (fun z=>z.2 rfl) (U.ev (Ev.sub fun b z=>z.1))⟩
 |pl i=>
  have f:toS ρ i ρ[i]? =lD (d,ρ'):=e;have y:=h;cases q:ρ[i]? with
  |none=>rw[q] at f;cases f
  |some o=>
   cases o with
   |none=>rw[q] at f;cases f
   |some x=>
    obtain⟨u,E,A⟩:=R.slot i x q;rw[y] at E;cases E;rw[q] at f;cases x with
    |fz d'=>cases f;exact⟨O,.refl,R,A⟩
    |pl j=>exact A.elim
    |ow ds=>
     cases f;obtain⟨a,vs,rfl,k1,S,Q,P⟩:=A;have n:Ev O H (F4 O a) H:=Ev.sub fun b z=>z.1;have F:=vJ Q (fun z=>z.2 rfl) (P.ev n);refine⟨F4 O a,n,⟨R.same,fun b m=>⟨R.bo b m,fun e=>R.abj S (e▸m)⟩,R.bd,fun b m z=>R.od b m z.1,by rw[Si];exact R.len,fun j x l=> ?_,fun j k xs G w t r=> ?_⟩,F⟩
     .rcases cw l with⟨rfl,g⟩|⟨V8,l⟩
      .cases g;exact⟨_,y,F⟩
      .obtain⟨u,C,p⟩:=R.slot j x l
       refine⟨u,C,?_⟩;cases x with
       |fz d=>exact DV.ev n p
       |pl i=>exact p
       |ow xs=>obtain⟨b,I,rfl,N,M,L,J⟩:=p;exact⟨b,I,rfl,⟨N,fun z=>V8 (R.one j i xs ds (.ref a) l q (by rw[C,z]) y)⟩,M,L,J.ev n⟩
     .rcases cw t with⟨rfl,g⟩|⟨_,t⟩
      .cases g
      .rcases cw r with⟨rfl,g⟩|⟨_,r⟩
       .cases g
       .exact R.one j k xs G w t r
end
def XOk (K:QF) (B:cb) (H:Hp) (c:QH) (dx:Option QN) (x:Xc):Prop:=
 (∃a,c= .ref a/\Q9 K Q4 x.cls=lD (lD (.ref a)))/\∃fs,(∀p,dx=lD p->H p=lD (.xd fs))/\∀f d,x.fs.lookup f=lD d->dx≠Ld/\∃v,fs.lookup f=lD v/\DV B K H v d
def XE (K:QF) (B:cb) (a:Hp) (E:XK) (x:Xc):Prop:=∀c dx H',SJ a H'->XOk K B H' c dx x->E c dx H'
def WR (K:QF) (E:XK) (B:cb) (b:Hp) (P:α->Prop):Res α->Prop
 | .ok a=>P a
 | .er x=>XE K B b E x
 | .bad=>False
section
variable {K:QF} {E:XK} {B:cb} {Z:Hp}
theorem WR.bind (h:WR K E B Z P (r.bind k)):WR K E B Z (fun a=>WR K E B Z P (k a)) r:=by cases r<;>exact h
theorem WR.RO (h:WR K E B Z P ((Res.RO o).bind k)):∃a,o=lD a/\WR K E B Z P (k a):=by
 cases o with
 |none=>exact h.elim
 |some a=>exact⟨a,rfl,h⟩
theorem WR.imp (h:WR K E B Z P r) (g:∀a,P a->P' a):WR K E B Z P' r:=by
 cases r with
 |ok a=>exact g a h
 |er x=>exact h
 |bad=>exact h
end
abbrev FE:=aU->Res (PV×aU)
abbrev FT:=aU->Res (Bool×aU)
abbrev FA:=aU->Res (List PV×aU)
def EO (K:QF) (E:XK) (t:TE) (f:FE):Prop:=
 ∀(B:cb) (b:Hp) (O:cb) (a:St) (H:Hp) (ρ:aU) (Q:VK),Rl K B b O a H ρ->WR K E B b (fun r=>∀O' v H',Ev O H O' H'->Rl K B b O' a H' r.2->Vz K b O' a H' r.2 v r.1->Q v H') (f ρ)->t a H Q
def Zb (K:QF) (E:XK) (t:TT) (f:FT):Prop:=
 ∀(B:cb) (b:Hp) (O:cb) (a:St) (H:Hp) (ρ:aU) (Q:Bool->Hp->Prop),Rl K B b O a H ρ->WR K E B b (fun r=>∀O' H',Ev O H O' H'->Rl K B b O' a H' r.2->Q r.1 H') (f ρ)->t a H Q
def AO (K:QF) (E:XK) (t:TA) (f:FA):Prop:=
 ∀(B:cb) (b:Hp) (O:cb) (a:St) (H:Hp) (ρ:aU) (Q:List V->Hp->Prop),Rl K B b O a H ρ->WR K E B b (fun r=>∀O' vs H',Ev O H O' H'->Rl K B b O' a H' r.2->Paired (fun v pv=>Vz K b O' a H' r.2 v pv/\kM pv) vs r.1->Q vs H') (f ρ)->t a H Q
inductive RV where
 |fz (d:D)
 |ow (ds:List D)
def RV.pv:RV->PV
 | .fz d=> .fz d
 | .ow ds=> .ow ds
def Fin (O:cb) (K:QF) (H:Hp) (Q:VK):RV->Prop
 | .fz d=>∀v H',SJ H H'->DV O K H' v d->Q v H'
 | .ow ds=>∀p vs H',SJ H H'->H p=Ld->H' p=lD (.lst vs)->SE (cN O p) K H' vs ds->Q (.ref p) H'
def mi (O:cb) (H:Hp):Prop:=∀a,H a=Ld->¬O a
section
variable {K:QF} {E:XK} {B O X:cb} {Y H H':Hp} {Z:St} {ρ ρ':aU} {v:V}
theorem j6 (R:Rl K B Y O Z H ρ) (h:∀X v H',Ev O H X H'->Rl K B Y X Z H' ρ->Vz K Y X Z H' ρ v rv.pv->Q v H'):Fin O K H Q rv:=by
 cases rv with
 |fz d=>exact fun v H' s f=>h O v H' (Ev.grow s) (R.grow s) f
 |ow ds=>intro p vs H' s b e f;refine h (cN O p) (.ref p) H' (Ev.add s b) (R.add s b (by rw[e];simp)) ⟨p,vs,rfl,.inr rfl,R.abH b,e,f,fun i r hi z=> ?_⟩;obtain⟨u,g,a,m,l,q,o,j,n⟩:=R.slot i _ hi;rw[z] at g;cases g;cases l;rw[b] at j;cases j
theorem Fin.new (hd:SE O K H vs ds) (h:Fin O K H Q (.ow ds)):∀p,H p=Ld->Q (.ref p) (bC H p (.lst vs)):=fun p a=>
 h p vs _ (ce a _) a aH (hd.ev (Ev.add (ce a _) a))
theorem Fin.aaK (hd:SE O K H vs ds) (b:mi O H) (h:Fin O K H Q (.fz (.tuple ds))):∀p,H p=Ld->Q (.ref p) (bC H p (.tup vs)):=fun p a=>
 h (.ref p) _ (ce a _) (.tup ⟨Vn.of aH,fun z=>absurd z (b p a)⟩ (hd.ev (Ev.grow (ce a _))))
theorem Fin.at (h:Fin O K H Q (.fz d)) (a:DV O K H v d):Q v H:=h v H (SJ.refl H) a
def zW (ρ:aU) (i:Nat):Option (Option PV)->Res (PV×aU)
 |some (lD (.fz d))=> .ok (.fz d,ρ)
 |some (lD (.ow _))=> .ok (.pl i,ρ)
 |_=> .bad
def aa (i:Nat):FE:=fun ρ=>zW ρ i ρ[i]?
theorem ar:EO K E (zh i) (aa i):=by
 intro B Y O Z H ρ Q R w;unfold aa at w;cases q:ρ[i]? with
 |none=>rw[q] at w;exact w.elim
 |some o=>
  cases o with
  |none=>rw[q] at w;exact w.elim
  |some x=>
   rw[q] at w;obtain⟨v,a,b⟩:=R.slot i x q;cases x with
   |fz d=>exact⟨v,a,w O v H .refl R b⟩
   |ow ds=>exact⟨v,a,w O v H .refl R a⟩
   |pl j=>exact w.elim
def pC (d:D):FE:=fun ρ=> .ok (.fz d,ρ)
theorem zE (h:∀O H,DV O K H v d):EO K E (tC v) (pC d):=fun B Y O Z H ρ Q R w=>w O v H .refl R (h O H)
theorem bu:EO K E (tC (.int i)) (pC (.int i)):=zE fun _ _=> .int i
theorem KO:EO K E (tC (.bl b)) (pC (.bool b)):=zE fun _ _=> .bl b
theorem fW:EO K E (tC (.str x)) (pC (.str x)):=zE fun _ _=> .str x
theorem lK:EO K E (tC .TN) (pC .none):=zE fun _ _=> .TN
def k8 (K:QF) (r:R2) (f:D->D->Option RV):Prop:=∀(O:cb) (H:Hp) (x y:V) (dx a:D) (rv:RV) (Q:VK),mi O H->DX O K H x dx->DX O K H y a->f dx a=lD rv->Fin O K H Q rv->r x y H Q
def aC (f:D->D->Option RV) (fa fb:FE):FE:=fun ρ=>(fa ρ).bind fun a=>(fb a.2).bind fun b=>(Res.RO (rQ b.2 (bO a.1))).bind fun dx=>(Res.RO (rQ b.2 b.1)).bind fun e=>(Res.RO (f dx e)).bind fun rv=> .ok (rv.pv,b.2)
theorem bF (u:k8 K r f) (ha:EO K E ta fa) (A:EO K E tb fb):EO K E (LI r ta tb) (aC f fa fb):=by intro B Y O Z H ρ Q R w;refine ha B Y O Z H ρ _ R (w.bind.imp fun a j O1 x U G L t=> ?_);obtain⟨P,F,R2,q⟩:=fY L t;refine A B Y P Z U a.2 _ R2 (j.bind.imp fun b e N y T i g p=> ?_);have h:=q.keep (kO a.1) i (ρ':=b.2);obtain⟨dx,m,e⟩:=e.RO;obtain⟨I,l,e⟩:=e.RO;obtain⟨rv,n,e⟩:=e.RO;refine u N T x y dx I rv Q g.od (ku g h m) (ku g p l) n (j6 g fun M v S C J o=> ?_);exact e M v S (G.trans (F.trans (i.trans C))) J o
def P7:D->Option Bool
 | .bool b=>lD b
 |_=>Ld
theorem LC (h:DX O K H x d) (e:P7 d=lD b):x= .bl b:=by cases d<;>cases e;cases h;rfl
def aF (fa:FE):aU->Res (Bool×aU):=fun ρ=>(fa ρ).bind fun a=>(Res.RO (rQ a.2 a.1)).bind fun d=>(Res.RO (P7 d)).bind fun b=> .ok (b,a.2)
theorem cQ (ha:EO K E ta fa):Zb K E (A2 ta) (aF fa):=by intro B Y O Z H ρ Q R w;refine ha B Y O Z H ρ _ R (w.bind.imp fun a e l x m j f i=> ?_);obtain⟨d,g,e⟩:=e.RO;obtain⟨b,h,e⟩:=e.RO;exact⟨b,LC (ku f i g) h,e l m j f⟩
theorem Kd (ha:EO K E ta fa):Zb K E (tB ta) (aF fa):=cQ ha
def ko (fa fb:FT):FT:=fun ρ=>(fa ρ).bind fun a=>if a.1=QJ then fb a.2 else .ok (QQ,a.2)
def Cu (fa:FT):FT:=fun ρ=>(fa ρ).bind fun a=> .ok (!a.1,a.2)
theorem Zb.next (h:Zb K E t f) (R:Rl K B Y O1 Z H1 ρ) (a:Ev O H O1 H1) (w:WR K E B Y (fun r=>∀X H',Ev O H X H'->Rl K B Y X Z H' r.2->Q r.1 H') (f ρ)):t Z H1 Q:=
 h B Y O1 Z H1 ρ Q R (w.imp fun r q X H' b e=>q X H' (a.trans b) e)
theorem EO.next (h:EO K E t f) (R:Rl K B Y O1 Z H1 ρ) (b:Ev O H O1 H1) (w:WR K E B Y (fun r=>∀X v H',Ev O H X H'->Rl K B Y X Z H' r.2->Vz K Y X Z H' r.2 v r.1->Q v H') (f ρ)):t Z H1 Q:=
 h B Y O1 Z H1 ρ Q R (w.imp fun r q X v H' e g a=>q X v H' (b.trans e) g a)
theorem vI (m:Zb K E t f) (l:Zb K E u g):Zb K E (Lq t u) (ko f g):=by
 intro B Y O Z H ρ Q R w;refine m B Y O Z H ρ _ R (w.bind.imp fun a e n o h i=> ?_);obtain⟨b,j⟩:=a;cases b with
 |true=>exact l.next i h e
 |false=>exact e n o h i
theorem HD (e:Zb K E t f):Zb K E (Nk t) (Cu f):=by intro B Y O Z H ρ Q R w;exact e B Y O Z H ρ _ R (w.bind.imp fun a b i j g h=>b i j g h)
def eX:FT:=fun ρ=> .ok (QJ,ρ)
theorem eZ:Zb K E ET eX:=fun B Y O Z H ρ Q R w=>w O H .refl R
def Fi (fa fb:FE):FE:=fun ρ=>(aF fa ρ).bind fun a=>if a.1=QJ then fb a.2 else .ok (.fz (.bool QQ),a.2)
theorem Lp (ha:EO K E ta fa) (j:EO K E tb fb):EO K E (FV ta tb) (Fi fa fb):=by
 intro B Y O Z H ρ Q R w;refine cQ ha B Y O Z H ρ (fun c e=>if c=QJ then tb Z e Q else Q (.bl QQ) e) R (w.bind.imp fun a f l e g h=> ?_);obtain⟨b,i⟩:=a;cases b with
 |true=>exact j.next h g f
 |false=>exact f l _ e g h (.bl QQ)
def MM (c:FT) (fa fb:FE):FE:=fun ρ=>(c ρ).bind fun a=>if a.1=QJ then fa a.2 else fb a.2
theorem KN (i:Zb K E t c) (ha:EO K E ta fa) (j:EO K E tb fb):EO K E (Pj t ta tb) (MM c fa fb):=by
 intro B Y O Z H ρ Q R w;refine i B Y O Z H ρ _ R (w.bind.imp fun a e l m f g=> ?_);obtain⟨b,h⟩:=a;cases b with
 |true=>exact ha.next g f e
 |false=>exact j.next g f e
def qK (f g:D->D->Option RV) (fa fb fc:FE):FE:=fun ρ=>(fa ρ).bind fun a=>(fb a.2).bind fun b=>(Res.RO (rQ b.2 (bO a.1))).bind fun dx=>(Res.RO (rQ b.2 (bO b.1))).bind fun i=>
 (Res.RO (f dx i)).bind fun rv=>match rv with
  | .fz (.bool QJ)=>(fc b.2).bind fun c=>(Res.RO (rQ c.2 (bO b.1))).bind fun e=>(Res.RO (rQ c.2 c.1)).bind fun h=>(Res.RO (g e h)).bind fun rv=> .ok (rv.pv,c.2)
  | .fz (.bool QQ)=> .ok (.fz (.bool QQ),b.2)
  |_=> .bad
theorem w6 (hr:k8 K r f) (q:k8 K r' g) (ha:EO K E ta fa) (hb:EO K E tb fb) (hc:EO K E tc fc):EO K E (Gc r r' ta tb tc) (qK f g fa fb fc):=by
 intro B Y O Z H ρ Q R w;refine ha B Y O Z H ρ _ R (w.bind.imp fun a N O1 x H1 J R1 p1=> ?_);obtain⟨O2,I,R2,p2⟩:=fY R1 p1;refine hb B Y O2 Z H1 a.2 _ R2 (N.bind.imp fun b e O3' y M u C o=> ?_);obtain⟨j,i,m,F⟩:=fY C o;have i:=u.trans i;have p:=p2.keep (kO a.1) i (ρ':=b.2);obtain⟨dx,T,e⟩:=e.RO;obtain⟨dy,S,e⟩:=e.RO;obtain⟨rv,qf,e⟩:=e.RO;refine hr j M x y dx dy rv _ m.od (ku m p T) (ku m F S) qf ?_;cases rv with
 |ow ds=>exact e.elim
 |fz d=>
  intro v H' s dv;cases dv with
  |bl k=>
   refine⟨k,rfl,?_⟩;have L:=m.grow s;have t:Ev j M j H':=Ev.grow s;cases k with
   |false=>exact e j _ H' (J.trans (I.trans (i.trans t))) L (.bl QQ)
   |true=>rw[if_pos rfl];refine hc B Y j Z H' b.2 _ L (WR.imp (WR.bind e) fun c h O5 z H5 G l p5=> ?_);obtain⟨A,n,h⟩:=h.RO;obtain⟨dz,P,h⟩:=h.RO;obtain⟨rv,U,h⟩:=h.RO;refine q O5 H5 y z A dz rv Q l.od (ku l (F.keep (kO b.1) (t.trans G)) n) (ku l p5 P) U (j6 l fun O6 v H6 e6 R6 p6=> ?_);exact h O6 v H6 (J.trans (I.trans (i.trans (t.trans (G.trans e6))))) R6 p6
  |_=>exact e.elim
def aq:FA:=fun ρ=> .ok ([],ρ)
def ae (fa:FE) (e:FA):FA:=fun ρ=>(fa ρ).bind fun a=>(e a.2).bind fun b=> .ok (bO a.1::b.1,b.2)
theorem bh:AO K E qC aq:=fun B Y O Z H ρ Q R w=>w O [] H .refl R .nil
theorem aG (ha:EO K E ta fa) (m:AO K E tr fr):AO K E (mO ta tr) (ae fa fr):=by intro B Y O Z H ρ Q R w;refine ha B Y O Z H ρ _ R (w.bind.imp fun a h A x y o q l=> ?_);obtain⟨t,n,R2,j⟩:=fY q l;refine m B Y t Z y a.2 _ R2 (h.bind.imp fun b g r f u e p i=> ?_);exact g r (x::f) u (o.trans (n.trans e)) p (.cons ⟨j.keep (kO a.1) e,kO a.1⟩ i)
def rU (ρ:aU):List PV->Option (List D)
 |[]=>lD []
 |p::r=>match rQ ρ p with
  |some d=>(match rU ρ r with
   |some ds=>lD (d::ds)
   |none=>Ld)
  |none=>Ld
theorem vP (R:Rl K B Y O Z H ρ):∀{vs:List V} {ps:List PV} {ds:List D},Paired (fun v pv=>Vz K Y O Z H ρ v pv/\kM pv) vs ps->rU ρ ps=lD ds->Paired (DX O K H) vs ds
 |_,_,_,.nil,e=>by cases e;exact .nil
 |_,_,_,.cons (l₂:=ps) (b:=p) h t,e=>by
  unfold rU at e;cases q:rQ ρ p with
  |none=>rw[q] at e;cases e
  |some d=>
   rw[q] at e;dsimp only at e;cases q2:rU ρ ps with
   |none=>rw[q2] at e;cases e
   |some a=>rw[q2] at e;cases e;exact .cons (ku R h.1 q) (vP R t q2)
def oy (ρ:aU):List PV->Option (List D×aU)
 |[]=>lD ([],ρ)
 |p::r=>match wO ρ p with
  |some (d,ρ1)=>(match oy ρ1 r with
   |some (ds,ρ2)=>lD (d::ds,ρ2)
   |none=>Ld)
  |none=>Ld
theorem pL:∀{vs:List V} {ps:List PV} {ds:List D} {O:cb} {ρ ρ':aU},Rl K B Y O Z H ρ->Paired (fun v pv=>Vz K Y O Z H ρ v pv/\kM pv) vs ps->oy ρ ps=lD (ds,ρ')->∃X,Ev O H X H/\Rl K B Y X Z H ρ'/\SE X K H vs ds
 |_,_,_,O,_,_,R,.nil,e=>by cases e;exact⟨O,.refl,R,.nil⟩
 |_,_,_,O,ρ,ρ',R,.cons (l₁:=vs) (l₂:=ps) (b:=p) h t,e=>by
  unfold oy at e;cases q:wO ρ p with
  |none=>rw[q] at e;cases e
  |some r=>
   obtain⟨d,a⟩:=r;rw[q] at e;dsimp only at e;cases q2:oy a ps with
   |none=>rw[q2] at e;cases e
   |some m=>obtain⟨o,j⟩:=m;rw[q2] at e;cases e;obtain⟨C,i,y,w⟩:=sX R h.1 q;have l:Paired (fun v pv=>Vz K Y C Z H a v pv/\kM pv) vs ps:=Paired.U3 t fun v pv ⟨n,f⟩=>⟨n.keep f i,f⟩;obtain⟨A,g,R2,u⟩:=pL y l q2;exact⟨A,i.trans g,R2,.cons (w.ev g) u⟩
abbrev FN:=List D->Res RV
def nY (K:QF) (n:Nat) (F:FN):Sp:=fun vs H Q E=>vs.length=n/\∃(B:cb) (ds:List D),(∀a,B a->H a≠Ld)/\SE B K H vs ds/\WR K E B H (Fin B K H Q) (F ds)
def bj (fa:FA):FE:=fun ρ=>(fa ρ).bind fun a=>(Res.RO (oy a.2 a.1)).bind fun b=>if b.1.length<=1000 then .ok (.fz (.tuple b.1),b.2) else .bad
def dC (fa:FA):FE:=fun ρ=>(fa ρ).bind fun a=>(Res.RO (oy a.2 a.1)).bind fun b=>if b.1.length<=1000 then .ok (.ow b.1,b.2) else .bad
theorem zw (h:n<=1000):n<=QX:=RA h (by decide)
theorem iH (ha:AO K E ta fa):EO K E (LN ta) (bj fa):=by
 intro B Y O Z H ρ Q R w;refine ha B Y O Z H ρ _ R (w.bind.imp fun a g u vs y m o i=> ?_);obtain⟨⟨ds,f⟩,q,b⟩:=g.RO;obtain⟨t,l,R2,e⟩:=pL o i q;dsimp only at b;by_cases hn:ds.length<=1000
 .rw[if_pos hn] at b;refine⟨by rw[e.length];exact zw hn,Fin.aaK e R2.od (j6 R2 fun p v r j n h=>b p v r (m.trans (l.trans j)) n h)⟩
 .rw[if_neg hn] at b;exact b.elim
theorem qW (ha:AO K E ta fa):EO K E (NW ta) (dC fa):=by
 intro B Y O Z H ρ Q R w;refine ha B Y O Z H ρ _ R (w.bind.imp fun a g u vs y m o i=> ?_);obtain⟨⟨ds,f⟩,q,b⟩:=g.RO;obtain⟨t,l,R2,e⟩:=pL o i q;dsimp only at b;by_cases hn:ds.length<=1000
 .rw[if_pos hn] at b;refine⟨by rw[e.length];exact zw hn,Fin.new e (j6 R2 fun p v r j n h=>b p v r (m.trans (l.trans j)) n h)⟩
 .rw[if_neg hn] at b;exact b.elim
def C3 (K:QF) (r:List V->Hp->VK->Prop) (f:List D->Option RV):Prop:=∀(O:cb) (H:Hp) (xs:List V) (ds:List D) (rv:RV) (Q:VK),mi O H->Paired (DX O K H) xs ds->f ds=lD rv->Fin O K H Q rv->r xs H Q
def gq (f:List D->Option RV) (fa:FA):FE:=fun ρ=>(fa ρ).bind fun a=>(Res.RO (rU a.2 a.1)).bind fun ds=>(Res.RO (f ds)).bind fun rv=> .ok (rv.pv,a.2)
theorem j0 (l:C3 K r f) (ha:AO K E ta fa):EO K E (Kf r ta) (gq f fa):=by intro B Y O Z H ρ Q R w;refine ha B Y O Z H ρ _ R (w.bind.imp fun a g t vs y n e j=> ?_);obtain⟨ds,q,b⟩:=g.RO;obtain⟨rv,h,b⟩:=b.RO;exact l t y vs ds rv Q e.od (vP e j q) h (j6 e fun p v u m o i=>b p v u (n.trans m) o i)
def PP:D->Option Int
 | .int i=>lD i
 |_=>Ld
theorem MY (h:DX O K H x d) (e:PP d=lD i):x= .int i:=by cases d<;>cases e;cases h;rfl
abbrev FO:=aU->Res (Option Int×aU)
def Pe (K:QF) (E:XK) (t:TO) (f:FO):Prop:=
 ∀(B:cb) (Y:Hp) (O:cb) (Z:St) (H:Hp) (ρ:aU) (Q:Option Int->Hp->Prop),Rl K B Y O Z H ρ->WR K E B Y (fun r=>∀X H',Ev O H X H'->Rl K B Y X Z H' r.2->Q r.1 H') (f ρ)->t Z H Q
def Aa:FO:=fun ρ=> .ok (Ld,ρ)
def mP (fa:FE):FO:=fun ρ=>(fa ρ).bind fun a=>(Res.RO (rQ a.2 a.1)).bind fun d=>(Res.RO (PP d)).bind fun i=> .ok (lD i,a.2)
theorem E2:Pe K E zM Aa:=fun B Y O Z H ρ Q R w=>w O H .refl R
theorem rc (ha:EO K E ta fa):Pe K E (JL ta) (mP fa):=by intro B Y O Z H ρ Q R w;refine ha B Y O Z H ρ _ R (w.bind.imp fun a f l x m j e h=> ?_);obtain⟨d,q,b⟩:=f.RO;obtain⟨i,g,b⟩:=b.RO;exact⟨i,MY (ku e h q) g,b l m j e⟩
def Po (K:QF) (r:V->Option Int->Option Int->Hp->VK->Prop) (f:D->Option Int->Option Int->Option RV):Prop:=∀(O:cb) (H:Hp) (x:V) (lo hi:Option Int) (dx:D) (rv:RV) (Q:VK),mi O H->DX O K H x dx->f dx lo hi=lD rv->Fin O K H Q rv->r x lo hi H Q
def Lo (f:D->Option Int->Option Int->Option RV) (fa:FE) (b e:FO):FE:=fun ρ=>(fa ρ).bind fun a=>(b a.2).bind fun l=>(e l.2).bind fun h=>(Res.RO (rQ h.2 (bO a.1))).bind fun dx=>(Res.RO (f dx l.1 h.1)).bind fun rv=> .ok (rv.pv,h.2)
theorem J8 (u:Po K r f) (ha:EO K E ta fa) (y:Pe K E tl fl) (A:Pe K E th fh):EO K E (Qc r ta tl th) (Lo f fa fl fh):=by intro B Y O Z H ρ Q R w;refine ha B Y O Z H ρ _ R (w.bind.imp fun a m O1 x H1 G L t=> ?_);obtain⟨S,F,R2,q⟩:=fY L t;refine y B Y S Z H1 a.2 _ R2 (m.bind.imp fun l j P H3 i J=> ?_);refine A B Y P Z H3 l.2 _ J (j.bind.imp fun h b N U g e=> ?_);obtain⟨dx,n,b⟩:=b.RO;obtain⟨rv,o,b⟩:=b.RO;exact u N U x l.1 h.1 dx rv Q e.od (ku e (q.keep (kO a.1) (i.trans g)) n) o (j6 e fun M v T C I p=>b M v T (G.trans (F.trans (i.trans (g.trans C)))) I p)
end
theorem uT {l:List α} (h:(l.set i x)[i]? =lD y):i<l.length:=by
 rw[Sd] at h;rw[if_pos rfl] at h;split at h
 .assumption
 .cases h
section
variable {K:QF} {E:XK} {B O U:cb} {Z H H':Hp} {Y:St} {ρ ρ':aU} {v:V}
theorem Rl.mut {i:Nat} {ds g:List D} {a:QN} {f:List V} (R:Rl K B Z O Y H ρ) (hi:ρ[i]? =lD (lD (.ow ds))) (G:Y[i]? =lD (lD (.ref a))) (I:O a) (J:Z a=Ld) (hd:SE O K H f g):
  Rl K B Z O Y (bC H a (.lst f)) (ρ.set i (lD (.ow g))):=by
 have ev:Ev O H O (bC H a (.lst f)):=Ev.mut I _;refine⟨fun b o e=>by rw[az (bW e J)];exact R.same b o e,R.bo,R.bd,fun b m=> ?_,by rw[Si];exact R.len,fun j x l=> ?_,fun j k xs C w T S t Yu=> ?_⟩
 .by_cases e:b=a
  .rw[e,aH] at m;cases m
  .rw[az e] at m;exact R.od b m
 .rcases cw l with⟨rfl,X⟩|⟨V8,l⟩
  .cases X;exact⟨_,G,a,f,rfl,I,J,aH,hd.ev ev⟩
  .obtain⟨u,F,q⟩:=R.slot j x l
   refine⟨u,F,?_⟩;cases x with
   |fz d=>exact DV.ev ev q
   |pl i=>exact q
   |ow xs=>obtain⟨b,L,rfl,Q,P,N,M⟩:=q;have A:b≠a:=fun z=>V8 (R.one j i xs ds (.ref a) l hi (by rw[F,z]) G);exact⟨b,L,rfl,Q,P,by rw[az A];exact N,M.ev ev⟩
 .have own:∀{j:Nat} {xs:List D},(ρ.set i (lD (.ow g)))[j]? =lD (lD (.ow xs))->∃C,ρ[j]? =lD (lD (.ow C)):=fun{j xs} h=>by
   rcases cw h with⟨rfl,_⟩|⟨_,h⟩
   .exact⟨_,hi⟩
   .exact⟨_,h⟩
  obtain⟨p,y⟩:=own T;obtain⟨n,r⟩:=own S;exact R.one j k p n w y r t Yu
theorem sV (h:n<1000000):n<QX:=Rb h (by decide)
def GP:Option (Option PV)->Option (List D)
 |some (lD (.ow ds))=>lD ds
 |_=>Ld
theorem A7 (h:GP o=lD ds):o=lD (lD (.ow ds)):=by
 unfold GP at h;split at h
 .cases h;rfl
 .cases h
def t9 (i:Nat) (fe:FE):FE:=fun ρ=>(Res.RO (GP ρ[i]?)).bind fun _=>(fe ρ).bind fun a=>(Res.RO (wO a.2 a.1)).bind fun b=>(Res.RO (GP b.2[i]?)).bind fun ds=>
 if ds.length<1000000 then .ok (.fz .none,b.2.set i (lD (.ow (ds++[b.1])))) else .bad
theorem Ed (A:EO K E te fe):EO K E (Py K "list" uF (zh i) (mO te qC)) (t9 i fe):=by
 intro B Z O Y H ρ Q R w;obtain⟨L,q,w⟩:=w.RO;obtain⟨v,j,a,vs,rfl,X,T,C,S⟩:=R.slot i _ (A7 q);refine⟨_,j,.inl ⟨rfl,_,Ve.of C⟩,?_⟩;refine A B Z O Y H ρ _ R (w.bind.imp fun b e O1 y H1 G M r=> ?_);obtain⟨⟨d,o⟩,p,e⟩:=e.RO;obtain⟨N,F,R2,J⟩:=sX M r p;obtain⟨ds,f,e⟩:=e.RO;have f:=A7 f;obtain⟨P,n,a',g,I,m,u,t,l⟩:=R2.slot i _ f;subst I;rw[j] at n;cases n;dsimp only at e;by_cases h:ds.length<1000000
 .rw[if_pos h] at e;refine⟨a,g,y,rfl,rfl,t,sV (by rw[l.length];exact h),?_⟩;exact e N .TN _ (G.trans (F.trans (Ev.mut m _))) (R2.mut f j m u (l.append (.cons J .nil))) .TN
 .rw[if_neg h] at e;exact e.elim
abbrev FG:=PV->aU->Res aU
abbrev Ox:=List D->aU->Res aU
def GO (K:QF) (E:XK) (g:TG) (f:FG):Prop:=
 ∀(B:cb) (Z:Hp) (O:cb) (Y:St) (H:Hp) (ρ:aU) (v:V) (pv:PV) (Q:St->Hp->Prop),Rl K B Z O Y H ρ->Vz K Z O Y H ρ v pv->WR K E B Z (fun ρ'=>∀U σ' H',Ev O H U H'->Rl K B Z U σ' H' ρ'->Q σ' H') (f pv ρ)->g v Y H Q
def Px (K:QF) (E:XK) (g:Lf) (f:Ox):Prop:=
 ∀(B:cb) (Z:Hp) (O:cb) (Y:St) (H:Hp) (ρ:aU) (vs:List V) (ds:List D) (Q:St->Hp->Prop),Rl K B Z O Y H ρ->SE O K H vs ds->WR K E B Z (fun ρ'=>∀U σ' H',Ev O H U H'->Rl K B Z U σ' H' ρ'->Q σ' H') (f ds ρ)->g vs Y H Q
theorem Rl.ad4 (R:Rl K B Z O Y H ρ) (h:DV O K H v d):Rl K B Z O (Y.set i (lD v)) H (ρ.set i (lD (.fz d))):=by
 refine⟨R.same,R.bo,R.bd,R.od,by rw[Si,Si];exact R.len,fun j x b=> ?_,fun j k xs n w g f a m=> ?_⟩
 .rcases cw b with⟨rfl,e⟩|⟨t,b⟩
  .cases e;have:=uT b;exact⟨v,by rw[Sd,if_pos rfl,if_pos (by rw[R.len];exact this)],h⟩
  .obtain⟨u,r,q⟩:=R.slot j x b;exact⟨u,by rw[Sd,if_neg (fun z=>t z.symm)];exact r,q⟩
 .rcases cw g with⟨rfl,l⟩|⟨p,g⟩
  .cases l
  .rcases cw f with⟨rfl,l⟩|⟨o,f⟩
   .cases l
   .rw[Sd,if_neg (fun z=>p z.symm)] at a;rw[Sd,if_neg (fun z=>o z.symm)] at m;exact R.one j k xs n w g f a m
theorem Rl.agk (R:Rl K B Z O Y H ρ) (h:Vz K Z O Y H ρ v (.ow ds)):Rl K B Z O (Y.set i (lD v)) H (ρ.set i (lD (.ow ds))):=by
 obtain⟨a,vs,rfl,I,G,F,C,p⟩:=h;refine⟨R.same,R.bo,R.bd,R.od,by rw[Si,Si];exact R.len,fun j x m=> ?_,fun j k xs o w A g b l=> ?_⟩
 .rcases cw m with⟨rfl,e⟩|⟨M,m⟩
  .cases e;have:=uT m;exact⟨.ref a,by rw[Sd,if_pos rfl,if_pos (by rw[R.len];exact this)],a,vs,rfl,I,G,F,C⟩
  .obtain⟨u,t,r⟩:=R.slot j x m;exact⟨u,by rw[Sd,if_neg (fun z=>M z.symm)];exact t,r⟩
 .rcases cw A with⟨rfl,L⟩|⟨q,f⟩
  .rcases cw g with⟨rfl,J⟩|⟨n,g⟩
   .rfl
   .rw[Sd,if_neg (fun z=>n z.symm)] at l
    rcases cw b with⟨_,e⟩|⟨z,_⟩
    .cases e;exact absurd l (p k o g)
    .exact absurd rfl z
  .have y:=f
   rw[Sd,if_neg (fun z=>q z.symm)] at b;rcases cw g with⟨rfl,L⟩|⟨n,g⟩
   .rcases cw l with⟨_,e⟩|⟨z,_⟩
    .cases e;exact absurd b (p j xs f)
    .exact absurd rfl z
   .rw[Sd,if_neg (fun z=>n z.symm)] at l;exact R.one j k xs o w f g b l
def gN (i:Nat):FG:=fun pv ρ=>match pv with
 | .ow ds=> .ok (ρ.set i (lD (.ow ds)))
 | .fz d=> .ok (ρ.set i (lD (.fz d)))
 | .pl j=>(Res.RO (wO ρ (.pl j))).bind fun b=> .ok (b.2.set i (lD (.fz b.1)))
theorem bz:GO K E (vX i) (gN i):=by
 intro B Z O Y H ρ v pv Q R p w;cases pv with
 |ow ds=>exact w O _ H .refl (R.agk p)
 |fz d=>exact w O _ H .refl (R.ad4 p)
 |pl j=>obtain⟨⟨d,a⟩,q,w⟩:=WR.RO (show WR K E B Z _ ((Res.RO (wO ρ (.pl j))).bind fun b=> .ok (b.2.set i (lD (.fz b.1)))) from w);obtain⟨g,e,R2,f⟩:=sX R p q;exact w g _ H e (R2.ad4 f)
def M4:Ox:=fun ds ρ=>match ds with
 |[]=> .ok ρ
 |_=> .bad
def C6 (f:FG) (g:Ox):Ox:=fun ds ρ=>match ds with
 |[]=> .bad
 |d::r=>(f (.fz d) ρ).bind fun a=>g r a
theorem vh:Px K E KR M4:=by
 intro B Z O Y H ρ vs ds Q R a w;cases a with
 |nil=>exact⟨rfl,w O Y H .refl R⟩
 |cons _ _=>exact w.elim
theorem jt (o:GO K E t f) (n:Px K E u g):Px K E (DF t u) (C6 f g):=by
 intro B Z O Y H ρ vs ds Q R r w;cases r with
 |nil=>exact w.elim
 |cons m l=>rename_i v vs d ds;refine⟨_,_,rfl,o B Z O Y H ρ _ (.fz d) _ R m (WR.imp (WR.bind w) fun e j C b G h y=> ?_)⟩;exact n B Z C b G e _ _ Q y (l.ev h) (j.imp fun i q A a F p R2=>q A a F (h.trans p) R2)
def Qk:D->Option (List D)
 | .tuple ds=>lD ds
 |_=>Ld
theorem Ft (h:DX O K H x d) (e:Qk d=lD ds):∃a xs,x= .ref a/\VZ O K H a xs/\SE O K H xs ds:=by
 cases d<;>cases e;cases h with
 |tup h b=>exact⟨_,_,rfl,h,b⟩
def gT (n:Nat) (f:Ox):FG:=fun pv ρ=>(Res.RO (rQ ρ pv)).bind fun d=>(Res.RO (Qk d)).bind fun ds=>if ds.length=n then f ds ρ else .bad
theorem tJ (h:Px K E t f):GO K E (Ni K n t) (gT n f):=by
 intro B Z O Y H ρ v pv Q R p w;obtain⟨d,g,w⟩:=w.RO;obtain⟨ds,e,w⟩:=w.RO;obtain⟨a,xs,rfl,i,b⟩:=Ft (ku R p g) e;by_cases hn:ds.length=n
 .rw[if_pos hn] at w;exact⟨a,xs,rfl,i.1,b.length.trans hn,h B Z O Y H ρ xs ds Q R b w⟩
 .rw[if_neg hn] at w;exact w.elim
inductive Fl where
 |nx (ρ:aU)
 |rt (rv:RV)
 |bk (ρ:aU)
 |ct (ρ:aU)
abbrev FS:=aU->Res Fl
def ZT (K:QF) (B:cb) (Z:Hp) (O:cb) (H:Hp) (D:Ends):Fl->Prop
 | .nx ρ'=>∀U σ' H',Ev O H U H'->Rl K B Z U σ' H' ρ'->D.nx σ' H'
 | .bk ρ'=>∀U σ' H',Ev O H U H'->Rl K B Z U σ' H' ρ'->D.bk σ' H'
 | .ct ρ'=>∀U σ' H',Ev O H U H'->Rl K B Z U σ' H' ρ'->D.ct σ' H'
 | .rt rv=>Fin B K Z D.rt rv
def SO (K:QF) (E:XK) (t:TS) (g:FS):Prop:=
 ∀(B:cb) (Z:Hp) (O:cb) (Y:St) (H:Hp) (ρ:aU) (D:Ends),Rl K B Z O Y H ρ->WR K E B Z (ZT K B Z O H D) (g ρ)->t D Y H
theorem ZT.ev {D:Ends} (e:Ev O H O1 H1) (h:ZT K B Z O H D fl):ZT K B Z O1 H1 D fl:=by
 cases fl with
 |nx ρ'=>exact fun U a H' b f=>h U a H' (e.trans b) f
 |bk ρ'=>exact fun U a H' b f=>h U a H' (e.trans b) f
 |ct ρ'=>exact fun U a H' b f=>h U a H' (e.trans b) f
 |rt rv=>exact h
def eO:FS:=fun ρ=> .ok (.nx ρ)
def bx (f g:FS):FS:=fun ρ=>(f ρ).bind fun a=>match a with
 | .nx ρ1=>g ρ1
 |a=> .ok a
def jV (f:FE):FS:=fun ρ=>(f ρ).bind fun a=> .ok (.nx a.2)
def cL (f:FE) (g:FG):FS:=fun ρ=>(f ρ).bind fun a=>(g a.1 a.2).bind fun b=> .ok (.nx b)
def lY (c:FT) (f g:FS):FS:=fun ρ=>(c ρ).bind fun a=>if a.1=QJ then f a.2 else g a.2
def C1 (ρ:aU):PV->Option RV
 | .fz d=>lD (.fz d)
 | .ow ds=>lD (.ow ds)
 | .pl i=>match ρ[i]? with
  |some (lD (.fz d))=>lD (.fz d)
  |some (lD (.ow ds))=>lD (.ow ds)
  |_=>Ld
def dQ (f:FE):FS:=fun ρ=>(f ρ).bind fun a=>(Res.RO (C1 a.2 a.1)).bind fun rv=> .ok (.rt rv)
theorem BF:SO K E GM eO:=fun B Z O Y H ρ D R w=>w O Y H .refl R
theorem bG (j:SO K E t f) (i:SO K E u g):SO K E (HU t u) (bx f g):=by
 intro B Z O Y H ρ D R w;refine j B Z O Y H ρ {D with nx:=u D} R (WR.imp (WR.bind w) fun h b=> ?_);cases h with
 |nx a=>exact fun n e o l m=>i B Z n e o a D m (WR.imp b fun h q=>q.ev l)
 |rt rv=>exact b
 |bk a=>exact b
 |ct a=>exact b
theorem An (h:EO K E t f):SO K E (Bx t) (jV f):=by intro B Z O Y H ρ D R w;exact h B Z O Y H ρ _ R (w.bind.imp fun a b i x j e g l=>b i Y j e g)
theorem ji (h:EO K E t f) (m:GO K E g fg):SO K E (EL t g) (cL f fg):=by intro B Z O Y H ρ D R w;refine h B Z O Y H ρ _ R (w.bind.imp fun a j r x y o p l=> ?_);exact m B Z r Y y a.2 x a.1 _ p l (j.bind.imp fun e i q b u n R2=>i q b u (o.trans n) R2)
theorem J1 (n:Zb K E c fc) (p:SO K E t f) (o:SO K E u g):SO K E (Mz c t u) (lY fc f g):=by
 intro B Z O Y H ρ D R w;refine n B Z O Y H ρ _ R (w.bind.imp fun a h l m i j=> ?_);obtain⟨b,e⟩:=a;cases b with
 |true=>exact p B Z l Y m e D j (WR.imp h fun r q=>q.ev i)
 |false=>exact o B Z l Y m e D j (WR.imp h fun r q=>q.ev i)
theorem Ms {pv:PV} (R:Rl K B Z O Y H ρ) (p:Vz K Z O Y H ρ v pv) (e:C1 ρ pv=lD rv) (w:Fin B K Z Q rv):Q v H:=by
 have ow:∀{a:QN} {vs:List V} {ds:List D},O a->Z a=Ld->H a=lD (.lst vs)->SE O K H vs ds->Fin B K Z Q (.ow ds)->Q (.ref a) H:=fun{a vs ds} m l g f w=>
  w a vs H R.same l g (f.ev (Ev.sub fun b z=>z.elim (R.bo b) fun e=>by rw[e];exact m))
 have fz:∀{d:D},DV O K H v d->Fin B K Z Q (.fz d)->Q v H:=fun{d} h w=>w v H R.same (h.ev (Ev.sub R.bo));cases pv with
 |fz d=>cases e;exact fz p w
 |ow ds=>cases e;obtain⟨a,vs,rfl,m,l,g,f,y⟩:=p;exact ow m l g f w
 |pl i=>
  have t:=p;unfold C1 at e;dsimp only at e;cases q:ρ[i]? with
  |none=>rw[q] at e;cases e
  |some o=>
   cases o with
   |none=>rw[q] at e;cases e
   |some x=>
    obtain⟨u,r,n⟩:=R.slot i x q;rw[t] at r;cases r;rw[q] at e;cases x with
    |fz d=>cases e;exact fz n w
    |ow ds=>cases e;obtain⟨a,vs,rfl,m,l,g,f⟩:=n;exact ow m l g f w
    |pl j=>exact n.elim
theorem j3 (h:EO K E t f):SO K E (Mr t) (dQ f):=by intro B Z O Y H ρ D R w;refine h B Z O Y H ρ _ R (w.bind.imp fun a b j x l i g e=> ?_);obtain⟨rv,q,b⟩:=b.RO;exact Ms g e q b
def yE (K:QF) (J:It) (O:cb) (H:Hp) (ds:List D):Prop:=∀U H',Ev O H U H'->mi U H'->
 (∀i,i<ds.length->J.go i H'/\∀x H'',J.yld i H' x H''->SJ H' H''/\∃d,ds[i]? =lD d/\DV U K H'' x d)/\J.stop ds.length H'
abbrev FI:=aU->Res (List D×aU)
def IO (K:QF) (E:XK) (b:TI) (e:FI):Prop:=
 ∀(B:cb) (Z:Hp) (O:cb) (Y:St) (H:Hp) (ρ:aU) (a:It->Hp->Prop),Rl K B Z O Y H ρ->WR K E B Z (fun r=>∀U J H',Ev O H U H'->Rl K B Z U Y H' r.2->yE K J U H' r.1->a J H') (e ρ)->b Y H a
def oJ (gt:FG) (b:FS):List D->FS
 |[],ρ=> .ok (.nx ρ)
 |d::r,ρ=>(gt (.fz d) ρ).bind fun a=>(b a).bind fun e=>match e with
  | .nx ρ2=>oJ gt b r ρ2
  | .ct ρ2=>oJ gt b r ρ2
  | .bk ρ2=> .ok (.nx ρ2)
  | .rt rv=> .ok (.rt rv)
def oz (e:FI) (gt:FG) (b:FS):FS:=fun ρ=>(e ρ).bind fun a=>oJ gt b a.1 a.2
theorem zq (hi:IO K E wi fi) (hg:GO K E g gt) (hb:SO K E tb b):SO K E (KY wi g tb) (oz fi gt b):=by
 intro B Z O Y H ρ D R w;refine hi B Z O Y H ρ _ R (w.bind.imp fun a P I J H1 T X S=> ?_);obtain⟨ds,G⟩:=a;dsimp only at P S X;refine⟨fun i m f H'=>m=ds.length - i/\i<=ds.length/\∃O2 ρ2,Ev I H1 O2 H'/\Rl K B Z O2 f H' ρ2/\WR K E B Z (ZT K B Z O H D) (oJ gt b (ds.drop i) ρ2),⟨_,rfl,Rp _,I,G,.refl,X,P⟩,?_⟩;rintro i m n N ⟨rfl,hi,O2,ρ2,e2,R2,w2⟩;obtain⟨go,o⟩:=S O2 N e2 R2.od;by_cases A:i<ds.length
 .obtain⟨g1,g2⟩:=go i A
  refine .inr ⟨g1,fun f H'=>i+1<=ds.length/\∃O2 ρ2,Ev I H1 O2 H'/\Rl K B Z O2 f H' ρ2/\WR K E B Z (ZT K B Z O H D) (oJ gt b (ds.drop (i+1)) ρ2),fun f H' ⟨h1,h2⟩=>⟨ds.length - (i+1),by omega,rfl,h1,h2⟩,fun x M y=> ?_⟩;obtain⟨Q,d,hd,dv⟩:=g2 x M y;have ed:ds.drop i=d::ds.drop (i+1):=by obtain⟨_,q⟩:=QM.mp hd;rw[TV A,q]
  rw[ed] at w2;have e3:Ev O2 N O2 M:=Ev.grow Q;refine hg B Z O2 n M ρ2 x (.fz d) _ (R2.grow Q) dv (WR.imp (WR.bind w2) fun F w3 O4 C H4 e4 R4=> ?_);have l:=e2.trans (e3.trans e4);refine hb B Z O4 C H4 F _ R4 (WR.imp (WR.bind w3) fun fl u=> ?_);cases fl with
  |nx h=>exact fun t j L p r=>⟨A,t,h,l.trans p,r,u⟩
  |ct h=>exact fun t j L p r=>⟨A,t,h,l.trans p,r,u⟩
  |bk h=>exact fun t j L p r=>u t j L (T.trans (l.trans p)) r
  |rt rv=>exact u
 .have e:i=ds.length:=by omega
  subst e;rw[SU (QU _)] at w2;exact .inl ⟨o,w2 O2 n N (T.trans e2) R2⟩
def fE:D->Option (List D)
 | .tuple ds=>lD ds
 | .list ds=>lD ds
 |_=>Ld
def AF (K:QF) (e:TE):TI:=fun Y H R=>e Y H fun x b=>∃a,x= .ref a/\(((∃xs,Ve K b a xs)/\R (PK K a) b)\/((∃xs,Vn K b a xs)/\R (P6 K a) b))
theorem fK (y:PE X l tl):PI X tg l (AF X.K tl):=by
 intro i s Y H R I h;refine cA (y i s Y H _ I h) fun v g ⟨x,r,f,t,u⟩=> ?_;obtain⟨a,e,q⟩:=u;subst e;cases t;rcases q with⟨⟨xs,j⟩,q⟩|⟨⟨xs,j⟩,q⟩
 .obtain⟨n,rv,p,w⟩:=f.list j
  refine U6 p.isList ?_;refine⟨g.heap.objs.size,[g.heap.objs.size],_,_,r,rfl,f.kept fun b o e=>Heap.get?_push_of_some _ e,CQ a _,⟨_,Heap.get?_push_size _ rfl,rfl,rfl⟩,fun b m=> ?_,q⟩;have e:b=g.heap.objs.size:=by simpa using m
  subst e;exact f.YH (QU _) (f.Sh.fresh (QU _))
 .obtain⟨n,rv,p,w⟩:=f.tuple j
  refine WA (show g.heap.IsTuple a n.toArray from p) ?_;refine⟨g.heap.objs.size,[g.heap.objs.size],_,_,r,rfl,f.kept fun b o e=>Heap.get?_push_of_some _ e,yP a _,⟨_,Heap.get?_push_size _ rfl,rfl,rfl⟩,fun b m=> ?_,q⟩;have e:b=g.heap.objs.size:=by simpa using m
  subst e;exact f.YH (QU _) (f.Sh.fresh (QU _))
theorem zO (h:Xk O K H a xs) (hd:SE O K H xs ds):yE K (PK K a) O H ds:=by intro U H' e n;have f:=h.ev e;have b:=hd.ev e;refine⟨fun i hi=> ?_,⟨xs,f.1.sq,by rw[hd.length];exact QU _⟩⟩;obtain⟨x,l,_⟩:=b.get (QY hi);refine⟨⟨xs,x,f.1.sq,l⟩,?_⟩;rintro y m ⟨rfl,hy⟩;obtain⟨d,j,g⟩:=b.abq (hy xs f.1.sq);exact⟨SJ.refl _,d,j,g⟩
theorem F7 (h:VZ O K H a xs) (hd:SE O K H xs ds):yE K (P6 K a) O H ds:=by intro U H' e n;have f:=h.ev e;have b:=hd.ev e;refine⟨fun i hi=> ?_,⟨xs,f.1,by rw[hd.length];exact QU _⟩⟩;obtain⟨x,l,_⟩:=b.get (QY hi);refine⟨⟨xs,x,f.1,l⟩,?_⟩;rintro y m ⟨rfl,hy⟩;obtain⟨d,j,g⟩:=b.abq (hy xs f.1);exact⟨SJ.refl _,d,j,g⟩
def kg (fe:FE):FI:=fun ρ=>(fe ρ).bind fun a=>(Res.RO (wO a.2 a.1)).bind fun b=>(Res.RO (fE b.1)).bind fun ds=> .ok (ds,b.2)
theorem hG (h:EO K E tl fe):IO K E (AF K tl) (kg fe):=by
 intro B Z O Y H ρ r R w;refine h B Z O Y H ρ _ R (w.bind.imp fun a b t x l i p n=> ?_);obtain⟨⟨d,m⟩,q,b⟩:=b.RO;obtain⟨j,g,R2,o⟩:=sX p n q;obtain⟨ds,e,b⟩:=b.RO;dsimp only at e;cases o with
 |tup h f=>cases e;exact⟨_,rfl,.inr ⟨⟨_,h.1⟩,b j _ l (i.trans g) R2 (F7 h f)⟩⟩
 |lst h f=>cases e;exact⟨_,rfl,.inl ⟨⟨_,h.1.sq⟩,b j _ l (i.trans g) R2 (zO h f)⟩⟩
 |_=>cases e
def gw (lo:Int) (n:Nat):List D:=(Q0 n).map fun(k:Nat)=> .int (lo+(k:Int))
theorem Es:yE K (Pb lo n) O H (gw lo n):=by
 intro U H' e f;have a:(gw lo n).length=n:=by unfold gw;rw[QI,Ru]
 refine⟨fun i hi=> ?_,by show n<=_;rw[a];exact QU _⟩;rw[a] at hi;refine⟨hi,?_⟩;rintro x b ⟨rfl,rfl⟩;exact⟨SJ.refl _,.int (lo+i),by unfold gw;rw[QW,List.getElem?_range hi];rfl,.int _⟩
def jp (i:Int):Prop:= -(2^62)<=i/\i<2^62
noncomputable instance (i:Int):Decidable (jp i):=by unfold jp;infer_instance
def gA:List D->Option (List D)
 |[.int j]=>if jp j then lD (gw 0 j.toNat) else Ld
 |_=>Ld
def kZ (f:List D->Option (List D)) (fa:FA):FI:=fun ρ=>(fa ρ).bind fun a=>(Res.RO (rU a.2 a.1)).bind fun ds=>(Res.RO (f ds)).bind fun xs=> .ok (xs,a.2)
theorem gO (h:AO K E ta fa):IO K E (KB ta) (kZ gA fa):=by
 intro B Z O Y H ρ t R w;refine h B Z O Y H ρ _ R (w.bind.imp fun a e p vs r o g l=> ?_);obtain⟨ds,q,e⟩:=e.RO;obtain⟨xs,b,e⟩:=e.RO;have i:=vP g l q;unfold gA at b;split at b
 .rename_i j
  split at b
  .rename_i f
   cases b;cases i with
   |cons n m=>cases m;cases n;exact⟨j,rfl,f.1,f.2,e p _ r o g Es⟩
  .cases b
 .cases b
end
section
variable {K:QF} {E:XK} {B O Y:cb} {X H H':Hp} {Z:St} {ρ ρ':aU} {v:V}
def EK:Option PV->Option PV
 |some (.fz d)=>lD (.fz d)
 |_=>Ld
def cT (ρ:aU):aU:=ρ.map EK
theorem yQ {i:Nat} (h:(cT ρ)[i]? =lD (lD x)):∃d,x= .fz d/\ρ[i]? =lD (lD (.fz d)):=by
 unfold cT at h;rw[QW] at h;cases q:ρ[i]? with
 |none=>rw[q] at h;cases h
 |some o=>
  rw[q] at h;have a:=Ra h;unfold EK at a;split at a
  .cases a;exact⟨_,rfl,rfl⟩
  .cases a
def sO (ρ:aU):List Nat->Option (List D×aU)
 |[]=>lD ([],ρ)
 |j::r=>match wO ρ (.pl j) with
  |some (d,ρ1)=>(match sO ρ1 r with
   |some (c,ρ2)=>lD (d::c,ρ2)
   |none=>Ld)
  |none=>Ld
theorem Ck (R:Rl K B X O Z H ρ) (h:wO ρ (.pl i)=lD (d,ρ')):∃v,Z[i]? =lD (lD v):=by
 have a:toS ρ i ρ[i]? =lD (d,ρ'):=h;cases q:ρ[i]? with
 |none=>rw[q] at a;cases a
 |some o=>
  cases o with
  |none=>rw[q] at a;cases a
  |some x=>obtain⟨v,b,_⟩:=R.slot i x q;exact⟨v,b⟩
theorem xk:∀{f:List Nat} {ds:List D} {O:cb} {ρ ρ':aU},Rl K B X O Z H ρ->sO ρ f=lD (ds,ρ')->∃Y vs,Ev O H Y H/\Rl K B X Y Z H ρ'/\SE Y K H vs ds/\f.map (fun j=>(Z[j]?).join)=vs.map lD
 |[],_,O,_,_,R,e=>by cases e;exact⟨O,[],.refl,R,.nil,rfl⟩
 |j::r,_,O,ρ,ρ',R,e=>by
  unfold sO at e;cases q:wO ρ (.pl j) with
  |none=>rw[q] at e;cases e
  |some p=>
   obtain⟨d,a⟩:=p;rw[q] at e;dsimp only at e;cases q2:sO a r with
   |none=>rw[q2] at e;cases e
   |some i=>obtain⟨c,h⟩:=i;rw[q2] at e;cases e;obtain⟨v,b⟩:=Ck R q;obtain⟨w,m,t,o⟩:=sX (pv:= .pl j) R b q;obtain⟨u,vs,g,R2,n,l⟩:=xk t q2;exact⟨u,v::vs,m.trans g,R2,.cons (o.ev g) n,by rw[Q3,Q3,l,b];rfl⟩
def dA (gt:FG) (ft:FT) (fe:FE):List D->aU->List D->Res (List D)
 |[],_,acc=> .ok acc
 |d::r,ρ,acc=>(gt (.fz d) ρ).bind fun e=>(ft e).bind fun b=>if b.1=QJ then(fe b.2).bind fun a=>(Res.RO (wO a.2 a.1)).bind fun x=>
   if acc.length<1000000 then dA gt ft fe r (cT x.2) (acc++[x.1]) else .bad
  else dA gt ft fe r (cT b.2) acc
def jB:Res α->Res α
 | .er _=> .bad
 |r=>r
def eP (n:Nat) (b:List Nat) (e:FI) (gt:FG) (ft:FT) (fe:FE):FE:=fun ρ=>(e ρ).bind fun a=>(Res.RO (sO a.2 b)).bind fun c=>
 (jB (dA gt ft fe a.1 (QT n Ld++c.1.map fun d=>lD (.fz d)) [])).bind fun xs=> .ok (.ow xs,c.2)
theorem BK {own:List Str} (h:own.length=n):own.map (fun _=>(Ld:Option V))=QT n Ld:=by
 subst h
 induction own with
 |nil=>rfl
 |cons x r a=>rw[Q3,a,Q5,RP]
theorem Au (h:WR K E B X P (jB r)):∃a,r= .ok a/\P a:=by
 cases r with
 |ok a=>exact⟨a,rfl,h⟩
 |er x=>exact h.elim
 |bad=>exact h.elim
def Op (K:QF) (J:It) (O:cb) (H:Hp) (ds:List D):Prop:=∀Y H',Ev O H Y H'->SJ H H'->mi Y H'->
 (∀i,i<ds.length->J.go i H'/\∀x H'',J.yld i H' x H''->SJ H' H''/\∃d,ds[i]? =lD d/\DV Y K H'' x d)/\J.stop ds.length H'
def P0 (K:QF) (E:XK) (b:TI) (e:FI):Prop:=
 ∀(B:cb) (X:Hp) (O:cb) (Z:St) (H:Hp) (ρ:aU) (a:It->Hp->Prop),Rl K B X O Z H ρ->WR K E B X (fun r=>∀Y J H',Ev O H Y H'->Rl K B X Y Z H' r.2->Op K J Y H' r.1->a J H') (e ρ)->b Z H a
theorem IO.s (h:IO K E wi fi):P0 K E wi fi:=fun B X O Z H ρ f R w=>h B X O Z H ρ f R (w.imp fun r q Y J H' e R a=>q Y J H' e R fun g i b _ n=>a g i b n)
theorem wW (hn:own.length=n) (hf:fv.map (·.2)=fj)
  (hi:P0 K E wi fi) (hg:GO K E0 g gt) (ht:Zb K E0 tc ft) (he:EO K E0 te fe):EO K E (wN own fv wi g tc te) (eP n fj fi gt ft fe):=by
 intro B X O Z H ρ Q R w;refine hi B X O Z H ρ _ R (w.bind.imp fun a w1 O1 J H1 e1 R1 it=> ?_);obtain⟨ds,ρ1⟩:=a;obtain⟨⟨cs,ρ2⟩,qc,w1⟩:=w1.RO;dsimp only at qc it;obtain⟨I,vs,e2,R2,dvs,hvs⟩:=xk R1 qc;obtain⟨xs,qx,w1⟩:=Au (WR.bind w1);intro l F;have hB:∀{H':Hp},SJ H1 H'->H' l≠Ld->∀a,cN I l a->H' a≠Ld:=fun{H'} s nd a h z=>h.elim (fun q=>R2.od a (s.free z) q) fun e=>nd (by rw[<-e];exact z);refine⟨fun i m L H'=>m=ds.length - i/\i<=ds.length/\∃(A:List D) (G:List V) (t:aU),SJ H1 H'/\H' l=lD (.lst G)/\SE (cN I l) K H' G A/\L.length=t.length/\(∀(j:Nat) (x:PV),t[j]? =lD (lD x)->∃d u,x=PV.fz d/\L[j]? =lD (lD u)/\DV (cN I l) K H' u d)/\dA gt ft fe (ds.drop i) t A= .ok xs,
  ⟨_,rfl,Rp _,[],[],_,ce F _,aH,.nil,?_,fun j x M=> ?_,qx⟩,?_⟩
 .unfold ir;rw[QO,QO,QI,QI,Rt,QI,hn,<-dvs.length];have:=congrArg U9 hvs;rw[QI,QI,<-hf,QI] at this;omega
 .have hm:fv.map (fun p=>(Z[p.2]?).join)=vs.map lD:=by rw[<-hvs,<-hf,RL];rfl
  unfold ir;rw[BK hn,hm];by_cases hj:j<n
  .rw[Q1 (by rw[Rt];exact hj),Ti,if_pos hj] at M;cases M
  .rw[Ro (by rw[Rt];omega),Rt,QW] at M⊢
   cases qd:cs[j - n]? with
   |none=>rw[qd] at M;cases M
   |some d=>rw[qd] at M;cases M;obtain⟨u,hu,du⟩:=dvs.get qd;exact⟨d,u,rfl,by rw[hu];rfl,du.ev (Ev.add (ce F _) F)⟩
 .rintro i m L H' ⟨rfl,hi,A,G,t,s,hD,dys,hl,hsl,f⟩
  have nD:H' l≠Ld:=by rw[hD];simp
  have no':=fun a z h=>hB s nD a h z;have ev1:=e2.trans (Ev.add s F);obtain⟨go,stop⟩:=it (cN I l) H' ev1 s no';by_cases U8:i<ds.length
  .obtain⟨g1,g2⟩:=go i U8
   refine .inr ⟨g1,fun C N=>i+1<=ds.length/\∃(A:List D) (G:List V) (t:aU),SJ H1 N/\N l=lD (.lst G)/\SE (cN I l) K N G A/\C.length=t.length/\(∀(j:Nat) (x:PV),t[j]? =lD (lD x)->∃d u,x=PV.fz d/\C[j]? =lD (lD u)/\DV (cN I l) K N u d)/\dA gt ft fe (ds.drop (i+1)) t A= .ok xs,
    fun C N ⟨U,h2⟩=>⟨ds.length - (i+1),by omega,rfl,U,h2⟩,fun x H3 y=> ?_⟩
   obtain⟨s3,d,hd,dv⟩:=g2 x H3 y;have ed:ds.drop i=d::ds.drop (i+1):=by obtain⟨_,q⟩:=QM.mp hd;rw[TV U8,q]
   rw[ed] at f;have hD3:=s3 _ _ hD;have nD3:H3 l≠Ld:=by rw[hD3];simp
   have sv:=s.trans s3;have RC:Rl K (cN I l) H3 (cN I l) L H3 t:=⟨SJ.refl _,fun _ h=>h,hB sv nD3,fun a z h=>hB sv nD3 a h z,hl,fun j x M=>by obtain⟨d,u,rfl,U,h2⟩:=hsl j x M;exact⟨u,U,h2.ev (Ev.grow s3)⟩,fun j k xs G w hj=>by obtain⟨d,u,e,_⟩:=hsl j _ hj;cases e⟩;unfold dA at f;have back:∀{O5:cb} {C:St} {N:Hp} {P:aU} {H6:Hp},Rl K (cN I l) H3 O5 C N P->(∀b o,b≠l->N b=lD o->H6 b=lD o)->C.length=(cT P).length/\∀(j:Nat) (x:PV),(cT P)[j]? =lD (lD x)->∃d u,x=PV.fz d/\C[j]? =lD (lD u)/\DV (cN I l) K H6 u d:=fun{O5 C N P H6} T k=>by refine⟨by unfold cT;rw[QI];exact T.len,fun j x M=> ?_⟩;obtain⟨d,rfl,hxx⟩:=yQ M;obtain⟨u,U,h2⟩:=T.slot j _ hxx;refine⟨d,u,rfl,U,DV.ev (fun b o h n=>⟨k b o (fun e=>n (.inr e)) h,n⟩) (DV.ev (Ev.sub T.bo) h2)⟩
   refine hg _ _ _ L H3 t x (.fz d) _ RC dv ?_;cases qg:gt (.fz d) t with
   |er z=>rw[qg] at f;cases f
   |bad=>rw[qg] at f;cases f
   |ok ρ3=>
    rw[qg,Res.bind_ok] at f;intro O4 σ4 H4 e4 R4;refine ht _ _ _ σ4 H4 ρ3 _ R4 ?_;cases qt:ft ρ3 with
    |er z=>rw[qt] at f;cases f
    |bad=>rw[qt] at f;cases f
    |ok b=>
     obtain⟨b,ρ4⟩:=b;rw[qt,Res.bind_ok] at f;intro O5 N e5 T;cases b with
     |false=>rw[if_neg Q8] at f⊢;obtain⟨l5,k5⟩:=back T fun b o _ h=>h;refine⟨U8,A,G,cT ρ4,sv.trans T.same,T.same _ _ hD3,?_,l5,k5,f⟩;exact dys.ev (Ev.grow (s3.trans T.same))
     |true=>
      rw[if_pos rfl] at f⊢;refine he _ _ _ σ4 N ρ4 _ T ?_;cases qe:fe ρ4 with
      |er z=>rw[qe] at f;cases f
      |bad=>rw[qe] at f;cases f
      |ok r=>
       rw[qe,Res.bind_ok] at f;intro O6 yv H6 e6 R6 p6;cases q7:wO r.2 r.1 with
       |none=>rw[q7] at f;cases f
       |some xr=>
        obtain⟨xd,ρ7⟩:=xr;rw[q7] at f;obtain⟨O7,e7,R7,dv7⟩:=sX R6 p6 q7;have hD7:=R7.same _ _ hD3;have S:(if A.length<1000000 then dA gt ft fe (ds.drop (i+1)) (cT ρ7) (A++[xd]) else .bad)= .ok xs:=f;by_cases hl6:A.length<1000000
        .rw[if_pos hl6] at S
         have up:∀b o,b≠l->H6 b=lD o->bC H6 l (.lst (G++[yv])) b=lD o:=fun b o hb h=>by rw[az hb];exact h
         have cy:Ev (cN I l) H6 (cN I l) (bC H6 l (.lst (G++[yv]))):=fun b o h n=>⟨up b o (fun e=>n (.inr e)) h,n⟩;have afU:=dys.ev (Ev.grow (s3.trans R7.same));obtain⟨l5,k5⟩:=back R7 up;refine⟨G,hD7,sV (by rw[dys.length];exact hl6),U8,A++[xd],G++[yv],cT ρ7,fun b o h=> ?_,aH,?_,l5,k5,S⟩
         .rw[az (bW h F)];exact R7.same _ _ (sv _ _ h)
         .exact(afU.append (.cons (DV.ev (Ev.sub R7.bo) dv7) .nil)).ev cy
        .rw[if_neg hl6] at S;cases S
  .have e:i=ds.length:=by omega
   subst e;rw[SU (QU _)] at f;have f:=f;cases f;refine .inl ⟨stop,?_⟩;refine w1 (cN I l) (.ref l) H' (e1.trans ev1) (R2.add s F nD) ⟨l,G,rfl,.inr rfl,R2.abH F,hD,dys,fun k es hk z=> ?_⟩;obtain⟨u,U,b,us,e2,g1,g2,g3,g4⟩:=R2.slot k _ hk;rw[z] at U;cases U;cases e2;rw[F] at g3;cases g3
theorem d6 (hn:own.length=n) (e:fv.map (·.2)=fj)
  (hi:IO K E wi fi) (b:GO K E0 g gt) (a:Zb K E0 tc ft) (f:EO K E0 te fe):EO K E (wN own fv wi g tc te) (eP n fj fi gt ft fe):=wW hn e hi.s b a f
def MG (ρ:aU):Option (Option PV)->Res (List D×aU)
 |some (lD (.ow ds))=> .ok (ds,ρ)
 |_=> .bad
def BQ (i:Nat):FI:=fun ρ=>MG ρ ρ[i]?
theorem wU:P0 K E (AF K (zh i)) (BQ i):=by
 intro B X O Z H ρ C R w;unfold BQ at w;cases q:ρ[i]? with
 |none=>rw[q] at w;exact w.elim
 |some o=>
  cases o with
  |none=>rw[q] at w;exact w.elim
  |some x=>
   cases x with
   |fz d=>rw[q] at w;exact w.elim
   |pl j=>rw[q] at w;exact w.elim
   |ow ds=>rw[q] at w;obtain⟨v,p,a,vs,rfl,A,u,f,r⟩:=R.slot i _ q;refine⟨_,p,a,rfl,.inl ⟨⟨vs,Ve.of f⟩,w O _ H .refl R fun Y H' e s n=> ?_⟩⟩;have k:=s _ _ f;have b:=r.ev e;refine⟨fun j m=> ?_,⟨vs,Ve.of k,by rw[b.length];exact QU _⟩⟩;obtain⟨x,l,_⟩:=b.get (QY m);refine⟨⟨vs,x,Ve.of k,l⟩,?_⟩;rintro y t ⟨rfl,hy⟩;obtain⟨d,h,g⟩:=b.abq (hy vs (Ve.of k));exact⟨SJ.refl _,d,h,g⟩
def fq (F:FN) (n:Nat) (fa:FA):FE:=fun ρ=>(fa ρ).bind fun a=>(Res.RO (oy a.2 a.1)).bind fun b=>if b.1.length=n then(jB (F b.1)).bind fun rv=> .ok (rv.pv,b.2) else .bad
theorem mY (ha:AO K E ta fa):EO K E (mB (nY K n F) [] E0 ta) (fq F n fa):=by
 intro B X O Z H ρ Q R w;refine ha B X O Z H ρ _ R (w.bind.imp fun a g C vs G p t j=> ?_);obtain⟨⟨ds,f⟩,q,b⟩:=g.RO;obtain⟨y,o,R2,e⟩:=pL t j q;dsimp only at b;by_cases hn:ds.length=n
 .rw[if_pos hn] at b;obtain⟨rv,h,b⟩:=Au (WR.bind b);rw[RF];refine⟨e.length.trans hn,y,ds,fun a z l=>R2.od a l z,e,?_⟩;rw[h];exact j6 R2 fun u v A m r i=>b u v A (p.trans (o.trans m)) r i
 .rw[if_neg hn] at b;exact b.elim
end
def gv (N:Nat) (g:FS):FN:=fun ds=>(g (ds.map (fun d=>lD (.fz d))++QT (N - ds.length) Ld)).bind fun a=>match a with
 | .rt rv=> .ok rv
 | .nx _=> .ok (.fz .none)
 |_=> .bad
theorem Fq (g:∀a,B a->H a≠Ld) (l:SE B K H vs ds):Rl K B H B (L2.start N vs) H (ds.map (fun d=>lD (.fz d))++QT (N.length - ds.length) Ld):=by
 have n:=l.length;refine⟨SJ.refl _,fun _ h=>h,g,fun a z h=>g a h z,?_,fun i x m=> ?_,fun i j xs r w hi=> ?_⟩
 .unfold L2.start;rw[QO,QO,QI,QI,Rt,Rt,n]
 all_goals
  have b:∀{i:Nat} {x:PV},(ds.map (fun d=>lD (PV.fz d))++QT (N.length - ds.length) Ld)[i]? =lD (lD x)->∃d,x= .fz d/\ds[i]? =lD d:=fun{i x} h=>by
   by_cases hi:i<ds.length
   .rw[Q1 (by rw[QI];exact hi),QW] at h
    cases q:ds[i]? with
    |none=>rw[q] at h;cases h
    |some d=>rw[q] at h;cases h;exact⟨d,rfl,rfl⟩
   .rw[Ro (by rw[QI];omega),Ti] at h;split at h<;>cases h
 .obtain⟨d,rfl,o⟩:=b m;obtain⟨v,f,p⟩:=l.get o;refine⟨v,?_,p⟩;have hi:=(QM.mp f).1;unfold L2.start;rw[Q1 (by rw[QI];exact hi),QW,f];rfl
 .obtain⟨d,e,_⟩:=b hi;cases e
theorem Qp (F:T9 K x qual st f fd) (S:TK N ps (ay st)) (hn:ps.length=n)
  (r:∀(a:QH) (A:Rv) (outer:List Env) (s:QP) (H:Hp) (E:XK),Td k (A.deeper (Ri qual (ay st) s.heap.objs.size f a))->
   ∃t,Xa (fT dm P w K mg base N qual (ay st) f a A outer s H E).nox (cj st) t/\SO K E t g):FnOk P w K mg base dm (k+1) f fd ps (nY K n (gv N.length g)):=by
 refine F.ok S (fun vs H Q E h=>h.1.trans hn.symm) (fun a A outer s H vs Q E l h=> ?_);obtain⟨t,i,j⟩:=r a A outer s H E l;obtain⟨v,B,ds,m,p,h⟩:=h;refine⟨t,i,j B H B _ H _ _ (Fq m p) (WR.imp (WR.bind h) fun o q=> ?_)⟩;cases o with
 |rt rv=>exact q
 |nx ρ=>exact fun y b u e R=>q .TN u R.same .TN
 |bk ρ=>exact q.elim
 |ct ρ=>exact q.elim
end L3
namespace L3
open PySem PySem.Spec PyProof.Rows L2
theorem OpR.or (h:OpR X f r) (h':OpR X f r'):OpR X f (fun x y H Q=>r x y H Q\/r' x y H Q):=by
 intro a s b H x y v u Q I g e q;rcases q with q|q
 .exact h a s b H x y v u Q I g e q
 .exact h' a s b H x y v u Q I g e q
theorem LL (I:Inv X pins σ H s) (h:UT X.K H l xs):xs.length<=QX/\∃(a:List QH) (n:Nat),Vals xs a/\xs.length=a.length/\s.heap.get? l=lD {cls:= .type "list",data:= .seq a.toArray n}:=by
 rcases h with(h|⟨o,h⟩)|⟨a,n,h1,h2,h3⟩
 .exact I.aeb h
 .obtain⟨_,z,a,n,r,e⟩:=I.Sh l _ h;exact⟨z,a,n,r,r.length,e⟩
 .exact⟨h2,a,n,h3,h3.length,I.Xy _ _ h1⟩
def JM (K:QF):R2:=fun x y H Q=>∃l b xs zs,x= .ref l/\y= .ref b/\UT K H l xs/\UT K H b zs/\xs.length+zs.length<=QX/\∀p,H p=Ld->Q (.ref p) (bC H p (.lst (xs++zs)))
theorem Jm:OpR X (SY .Add) (JM X.K):=by
 intro a s A H x y v u Q I j i h;obtain⟨l,b,xs,B,rfl,rfl,o,p,F,q⟩:=h;cases j;cases i;obtain⟨z,g,n,r,G,e⟩:=LL I o;obtain⟨C,f,E,m,J,w⟩:=LL I p;refine PySem.P.add_list e w ?_ (by rw[QZ,QZ];omega);have t:g.toArray++f.toArray=(g++f).toArray:=by simp
 rw[t];exact⟨.ref _,_,I.adX (r.append m) (by rw[QO];omega),rfl,q _ I.fresh⟩
def Kr (K:QF):R2:=fun x y H Q=>∃l k xs,x= .ref l/\y= .int k/\UT K H l xs/\ -(2^63)<=k/\k<2^63/\xs.length*k.toNat<=QX/\
 ∀p,H p=Ld->Q (.ref p) (bC H p (.lst (QT k.toNat xs).flatten))
theorem HM:OpR X (SY .Mult) (Kr X.K):=by
 intro o s P H x y v u Q I E C h;obtain⟨l,k,xs,rfl,rfl,J,M,L,p,q⟩:=h;cases E;obtain⟨t,rfl⟩:=C;obtain⟨z,b,n,r,G,e⟩:=LL I J;have f:b.toArray.size*k.toNat<=QX:=by rw[QZ,<-G];exact p
 have i:¬b.toArray.size*k.toNat>(2^63 - 1)/8:=by
  have:(QX:Nat)<=(2^63 - 1)/8:=by decide
  omega
 have g:¬(!Builtin.List.listFitsIndex k)=QJ:=by rw[fitsIndex_both M L];exact Q8
 have j:¬Builtin.List.listTooLong (b.toArray.size*k.toNat)=QJ:=by rw[Fp f];exact Q8
 have O:VD (fun A w=>A++w) #[] (QT (if b.toArray.isEmpty=QJ then 0 else k.toNat) b.toArray)=(QT k.toNat b).flatten.toArray:=by
  have N:=fun m=>by have:=nU b m [];rw[XI] at this;exact this
  rw[N];cases b with
  |nil=>simp
  |cons a R=>rw[if_neg (by simp)]
 refine Zs (by decide) ⟨_,e,rfl⟩ (fun B=>Xp B k t) noFill_list_mul F.fills_int_mul F.slot_int_rmul repeat_list F.slot_int_index.lookup
  (Vp F.slot_int_rmul (Xp s k t) F.entry_int_rmul (F.args_int_rmul_2 _ _) (int___rmul___int_list k t l b.toArray n)
   ⟨e,rfl,⟨_,e,rfl⟩,Vp F.slot_list_mul ⟨_,e,rfl⟩ F.entry_list_mul (F.args_list_mul_2 _ _) (AutoListH.list___mul___list_int_3 l b.toArray n k t g i j) ⟨e,?_⟩⟩)
 rw[O];exact⟨.ref _,_,I.adX (r.rep k.toNat) (by rw[Bu,Nat.mul_comm];exact p),rfl,q _ I.fresh⟩
section
variable {K:QF}
def fI (g:Int->Int->Int):D->D->Option RV
 | .int i,.int j=>lD (.fz (.int (g i j)))
 |_,_=>Ld
def fB (g:Int->Int->Bool):D->D->Option RV
 | .int i,.int j=>lD (.fz (.bool (g i j)))
 |_,_=>Ld
def Mx (C:Int->Int->Bool) (g:Int->Int->Int):D->D->Option RV
 | .int i,.int j=>if C i j=QJ then lD (.fz (.int (g i j))) else Ld
 |_,_=>Ld
theorem xO (h:fI g dx dy=lD rv):∃i j,dx= .int i/\dy= .int j/\rv= .fz (.int (g i j)):=by
 unfold fI at h;split at h
 .cases h;exact⟨_,_,rfl,rfl,rfl⟩
 .cases h
theorem JY:k8 K (vS fun i j=> .int (g i j)) (fI g):=by intro O H x y dx f rv Q n b a e q;obtain⟨i,j,rfl,rfl,rfl⟩:=xO e;cases b;cases a;exact⟨i,j,rfl,rfl,q.at (.int _)⟩
theorem Bc:k8 K (vS fun i j=> .bl (g i j)) (fB g):=by
 intro O H x y dx f rv Q n b a e q;unfold fB at e;split at e
 .cases e;cases b;cases a;exact⟨_,_,rfl,rfl,q.at (.bl _)⟩
 .cases e
theorem uq (h:∀i j,C i j=QJ->C' i j):k8 K (rI C' fun i j=> .int (g i j)) (Mx C g):=by
 intro O H x y dx l rv Q n b a e q;unfold Mx at e;split at e
 .split at e
  .rename_i f;cases e;cases b;cases a;exact⟨_,_,rfl,rfl,h _ _ f,q.at (.int _)⟩
  .cases e
 .cases e
theorem B6 (h:DX O K H x (.list ds)):∃a xs,x= .ref a/\UT K H a xs/\SE O K H xs ds:=h
theorem EI (h:DX O K H x (.tuple ds)):∃a xs,x= .ref a/\VZ O K H a xs/\SE O K H xs ds:=Ft h rfl
def Ke (K:QF):R2:=fun x y H Q=>vS (fun i j=> .int (i+j)) x y H Q\/JM K x y H Q\/Kx K x y H Q
theorem mM:OpR X (SY .Add) (Ke X.K):=OpR.or MA (OpR.or Jm Jh)
def cH:D->D->Option RV
 | .int i,.int j=>lD (.fz (.int (i+j)))
 | .list xs,.list ys=>if xs.length+ys.length<=1000000 then lD (.ow (xs++ys)) else Ld
 | .tuple xs,.tuple ys=>if xs≠[]/\xs.length+ys.length<=1000000 then lD (.fz (.tuple (xs++ys))) else Ld
 |_,_=>Ld
theorem rj (h:n<=1000000):n<=QX:=RA h (by decide)
theorem SE.ne (h:SE O K H vs ds):vs=[]↔ds=[]:=by cases h<;>simp
theorem mE:k8 K (Ke K) cH:=by
 intro O H x y dx r rv Q n m l e q;unfold cH at e;split at e
 .cases e;cases m;cases l;exact .inl ⟨_,_,rfl,rfl,q.at (.int _)⟩
 .split at e
  .rename_i h;cases e;obtain⟨a,xs,rfl,i,f⟩:=B6 m;obtain⟨b,j,rfl,o,g⟩:=B6 l;exact .inr (.inl ⟨a,b,xs,j,rfl,rfl,i,o,rj (by rw[f.length,g.length];exact h),Fin.new (f.append g) q⟩)
  .cases e
 .split at e
  .rename_i h;cases e;obtain⟨a,xs,rfl,i,f⟩:=EI m;obtain⟨b,j,rfl,o,g⟩:=EI l;refine .inr (.inr ⟨a,b,xs,j,rfl,rfl,i.1,o.1,fun z=>h.1 (f.ne.mp z),rj (by rw[f.length,g.length];exact h.2),fun z=> ?_,fun _=>Fin.aaK (f.append g) n q⟩);have p:=g.ne.mp z;subst p;rw[RF] at q;exact q.at (.tup i f)
  .cases e
 .cases e
def E6 (K:QF):R2:=fun x y H Q=>rI abi (fun i j=> .int (i*j)) x y H Q\/Kr K x y H Q
theorem Ji:OpR X (SY .Mult) (E6 X.K):=OpR.or Mj HM
def gQ (i:Int):Bool:=decide (-(2^64)<i/\i<2^64)
theorem rl (h:gQ i=QJ): -(2^64)<i/\i<2^64:=of_decide_eq_true h
def Cf:D->D->Option RV
 | .int i,.int j=>if(gQ i||gQ j)=QJ then lD (.fz (.int (i*j))) else Ld
 | .list xs,.int k=>if xs.length*k.toNat<=1000000/\ -(2^63)<=k/\k<2^63 then lD (.ow (QT k.toNat xs).flatten) else Ld
 |_,_=>Ld
theorem Jg:k8 K (E6 K) Cf:=by
 intro O H x y dx j rv Q n g f e q;unfold Cf at e;split at e
 .split at e
  .rename_i b
   cases e;cases g;cases f;refine .inl ⟨_,_,rfl,rfl,?_,q.at (.int _)⟩;rcases(VP _ _).mp b with z|z
   .exact .inl (rl z)
   .exact .inr (rl z)
  .cases e
 .split at e
  .rename_i b;cases e;cases f;obtain⟨a,xs,rfl,i,h⟩:=B6 g;exact .inr ⟨a,_,xs,rfl,rfl,i,b.2.1,b.2.2,rj (by rw[h.length];exact b.1),Fin.new (h.flat _) q⟩
  .cases e
 .cases e
def se:=fI fun i j=>i - j
theorem Hu:k8 K (vS fun i j=> .int (i - j)) se:=JY
def Lh (_ j:Int):Bool:=decide (0<j)
def df:=Mx Lh fun i j=>i % j
theorem Hn:k8 K (rI (fun _ j=>0<j) fun i j=> .int (i % j)) df:=uq fun i j h=>of_decide_eq_true h
def Mp (_ j:Int):Bool:=decide (0<j/\j<2^128)
def eW:=Mx Mp fun i j=>i/j
theorem HK:k8 K (rI (fun _ j=>0<j/\j.natAbs.log2<9000) fun i j=> .int (i/j)) eW:=uq fun i j h=>by
 have a:=of_decide_eq_true h;refine⟨a.1,?_⟩;have b:j.natAbs<2^128:=by have:=a.2;omega
 have e:=(Nat.log2_lt (by omega)).mpr b;omega
def x5 (i j:Int):Bool:=decide (0<=j/\j<=1000000/\i.natAbs<2^64)
theorem HA (i j:Int) (h:x5 i j=QJ):Ml i j:=by unfold x5 at h;exact(show 0<=j/\j<=1000000/\i.natAbs<2^64 from of_decide_eq_true h)
def DL:=Mx x5 fun i j=>i^j.toNat
theorem HC:k8 K (rI Ml fun i j=> .int (i^j.toNat)) DL:=uq HA
def PB:=Mx x5 fun i j=>i*2^j.toNat
def Oj (_ j:Int):Bool:=decide (0<=j)
def B9:=Mx Oj fun i j=>i/2^j.toNat
theorem zS:k8 K (rI (fun _ j=>0<=j) fun i j=> .int (i/2^j.toNat)) B9:=uq fun i j h=>of_decide_eq_true h
def xI:=fI fun i j=>Builtin.bitAnd i j
theorem AQ:k8 K (vS fun i j=> .int (Builtin.bitAnd i j)) xI:=JY
def NM:=fB fun i j=>decide (i<j)
def L6:=fB fun i j=>decide (i<=j)
def x8:=fB fun i j=>decide (j<i)
def PZ:=fB fun i j=>decide (j<=i)
theorem yX:k8 K (vS fun i j=> .bl (decide (i<j))) NM:=Bc
theorem K6:k8 K (vS fun i j=> .bl (decide (i<=j))) L6:=Bc
theorem Dp:k8 K (vS fun i j=> .bl (decide (j<i))) x8:=Bc
theorem GF:k8 K (vS fun i j=> .bl (decide (j<=i))) PZ:=Bc
def lm (d:D):Bool:=d.canLay0&&decide (d.depth<=64)
def cV (d e:D):Option RV:=if(lm d&&e.canLay0)=QJ then lD (.fz (.bool (QK.eqv d e))) else Ld
def xE (d e:D):Option RV:=if(lm d&&e.canLay0)=QJ then lD (.fz (.bool (!QK.eqv d e))) else Ld
theorem jJ:k8 K (JF K QQ) cV:=by
 intro O H x y dx g rv Q n f b e q;unfold cV at e;split at e
 .rename_i a;cases e;unfold lm at a;simp only[Q6,decide_eq_true_eq] at a;exact⟨dx,g,f.plain,b.plain,a.1.1,a.2,a.1.2,q.at (.bl _)⟩
 .cases e
theorem Li:k8 K (JF K QJ) xE:=by
 intro O H x y dx g rv Q n f b e q;unfold xE at e;split at e
 .rename_i a;cases e;unfold lm at a;simp only[Q6,decide_eq_true_eq] at a;exact⟨dx,g,f.plain,b.plain,a.1.1,a.2,a.1.2,q.at (.bl _)⟩
 .cases e
def ut:D->D->Option RV
 | .none,.none=>lD (.fz (.bool QJ))
 |_,.none=>lD (.fz (.bool QQ))
 |_,_=>Ld
def kr:D->D->Option RV
 | .none,.none=>lD (.fz (.bool QQ))
 |_,.none=>lD (.fz (.bool QJ))
 |_,_=>Ld
theorem Gq (h:DX O K H x d) (hd:d≠ .none):x≠ .TN:=by
 cases d with
 |none=>exact absurd rfl hd
 |list ds=>obtain⟨a,xs,rfl,_⟩:=B6 h;simp
 |tuple ds=>obtain⟨a,xs,rfl,_⟩:=EI h;simp
 |bool b=>cases h;simp
 |int b=>cases h;simp
 |str b=>cases h;simp
 |dict b=>cases h
theorem HN:k8 K (fun x y H Q=>y= .TN/\Q (.bl (decide (x= .TN))) H) ut:=by
 intro O H x y dx g rv Q n b a e q;unfold ut at e;split at e
 .cases e;cases b;cases a;exact⟨rfl,q.at (.bl _)⟩
 .rename_i f;cases e;cases a;refine⟨rfl,?_⟩;rw[decide_eq_false (Gq b f)];exact q.at (.bl _)
 .cases e
theorem uI:k8 K (fun x y H Q=>y= .TN/\Q (.bl (!decide (x= .TN))) H) kr:=by
 intro O H x y dx g rv Q n b a e q;unfold kr at e;split at e
 .cases e;cases b;cases a;exact⟨rfl,q.at (.bl _)⟩
 .rename_i f;cases e;cases a;refine⟨rfl,?_⟩;rw[decide_eq_false (Gq b f)];exact q.at (.bl _)
 .cases e
def Ib (K:QF) (neg:Bool):R2:=fun x y H Q=>∃d ds,L2.DV K H x d/\(L2.DV K H y (.list ds)\/L2.DV K H y (.tuple ds))/\d.canLay0=QJ/\QK.canLayAll0 ds=QJ/\d.depth<=64/\Q (.bl (if neg then !(ds.any fun e=>QK.eqv e d) else ds.any fun e=>QK.eqv e d)) H
theorem uW (p:X.A.units+65<cLine):OpR X (SH .In) (Ib X.K QQ):=by
 intro g s o H x y v u Q I l e h;obtain⟨d,ds,n,a,j,i,m,q⟩:=h;obtain⟨r,f⟩:=n.reads I l;have hm:min (QK.depthAll ds) d.depth<=64:=RA (Xo _ _) m;rcases a with a|a
 .obtain⟨bs,b⟩:=a.reads I e;exact afx b f i j (by omega) ⟨.bl _,H,I,rfl,q⟩
 .obtain⟨bs,b⟩:=a.reads I e;exact afy b f i j (by omega) ⟨.bl _,H,I,rfl,q⟩
theorem zU (p:X.A.units+65<cLine):OpR X (SH .NotIn) (Ib X.K QJ):=by
 intro g s o H x y v u Q I l e h;obtain⟨d,ds,n,a,j,i,m,q⟩:=h;obtain⟨r,f⟩:=n.reads I l;have hm:min (QK.depthAll ds) d.depth<=64:=RA (Xo _ _) m;rcases a with a|a
 .obtain⟨bs,b⟩:=a.reads I e;exact afz b f i j (by omega) ⟨.bl _,H,I,rfl,q⟩
 .obtain⟨bs,b⟩:=a.reads I e;exact afA b f i j (by omega) ⟨.bl _,H,I,rfl,q⟩
def Hj (d e:D):Option RV:=match fE e with
 |some ds=>if(lm d&&QK.canLayAll0 ds)=QJ then lD (.fz (.bool (ds.any fun e=>QK.eqv e d))) else Ld
 |none=>Ld
def ox (d e:D):Option RV:=match fE e with
 |some ds=>if(lm d&&QK.canLayAll0 ds)=QJ then lD (.fz (.bool (!ds.any fun e=>QK.eqv e d))) else Ld
 |none=>Ld
theorem FD (a:DX O K H y e) (h:fE e=lD ds):L2.DV K H y (.list ds)\/L2.DV K H y (.tuple ds):=by
 unfold fE at h;split at h
 .cases h;exact .inr a.plain
 .cases h;exact .inl a.plain
 .cases h
theorem uN:k8 K (Ib K QQ) Hj:=by
 intro O H x y dx h rv Q n f b e q;unfold Hj at e;split at e
 .rename_i ds g
  split at e
  .rename_i a;cases e;unfold lm at a;simp only[Q6,decide_eq_true_eq] at a;exact⟨dx,ds,f.plain,FD b g,a.1.1,a.2,a.1.2,q.at (.bl _)⟩
  .cases e
 .cases e
theorem BO:k8 K (Ib K QJ) ox:=by
 intro O H x y dx h rv Q n f b e q;unfold ox at e;split at e
 .rename_i ds g
  split at e
  .rename_i a;cases e;unfold lm at a;simp only[Q6,decide_eq_true_eq] at a;exact⟨dx,ds,f.plain,FD b g,a.1.1,a.2,a.1.2,q.at (.bl _)⟩
  .cases e
 .cases e
def bc (d e:D):Option RV:=match fE d,e with
 |some ds,.int i=>(lL ds i).map .fz
 |_,_=>Ld
theorem Dr (h:SE O K H xs ds) (e:lL ds i=lD d):∃v,lL xs i=lD v/\DV O K H v d:=by
 unfold lL at e⊢;rw[h.length];cases q:J7 ds.length i with
 |none=>rw[q] at e;cases e
 |some j=>rw[q] at e;exact h.get e
theorem cg:k8 K (Pa K) bc:=by
 intro O H x y dx o rv Q n l m e q;unfold bc at e;split at e
 .rename_i ds i b
  cases m;cases qa:lL ds i with
  |none=>rw[qa] at e;cases e
  |some d=>
   rw[qa] at e;cases e;unfold fE at b;split at b
   .cases b;obtain⟨a,xs,rfl,h,g⟩:=EI l;obtain⟨v,f,j⟩:=Dr g qa;exact .inr (.inl ⟨a,xs,i,v,rfl,rfl,h.1,f,q.at j⟩)
   .cases b;obtain⟨a,xs,rfl,h,g⟩:=B6 l;obtain⟨v,f,j⟩:=Dr g qa;exact .inl ⟨a,xs,i,v,rfl,rfl,h.sq,f,q.at j⟩
   .cases b
 .cases e
def nM (xs:List D) (lo hi:Option Int):List D:=(xs.drop (HT.sIx xs.length 0 lo)).take (HT.sIx xs.length xs.length hi - HT.sIx xs.length 0 lo)
theorem Dl {lo hi:Option Int} (h:SE O K H xs ds):SE O K H (BW xs lo hi) (nM ds lo hi):=by unfold BW nM;rw[h.length];exact(h.drop _).take _
def jP (n:Nat) (lo hi:Option Int):Bool:=decide (HT.sIx n 0 lo=0/\HT.sIx n n hi=n)
def KS (K:QF):V->Option Int->Option Int->Hp->VK->Prop:=fun x lo hi H Q=>Ot K x lo hi H Q\/OB K x lo hi H Q
theorem zK:L7 X (KS X.K):=by
 intro a s b H x v f e lo hi g Q I i l pl j h;rcases h with h|h
 .exact Ir a s b H x v f e lo hi g Q I i l pl j h
 .exact Mg a s b H x v f e lo hi g Q I i l pl j h
def Ph:D->Option Int->Option Int->Option RV
 | .list ds,lo,hi=>lD (.ow (nM ds lo hi))
 | .tuple ds,lo,hi=>if jP ds.length lo hi=QJ then Ld else lD (.fz (.tuple (nM ds lo hi)))
 |_,_,_=>Ld
theorem oW:Po K (KS K) Ph:=by
 intro O H x lo hi dx rv Q n g e q;unfold Ph at e;split at e
 .cases e;obtain⟨a,xs,rfl,f,b⟩:=B6 g;exact .inl ⟨a,xs,rfl,f.sq,Fin.new (Dl b) q⟩
 .split at e
  .cases e
  .rename_i h;cases e;obtain⟨a,xs,rfl,f,b⟩:=EI g;refine .inr ⟨a,xs,rfl,f.1,fun z=>h ?_,Fin.aaK (Dl b) n q⟩;unfold jP;rw[<-b.length];exact decide_eq_true z
 .cases e
def gh:List D->Option RV
 |[d]=>(match fE d with
  |some ds=>lD (.fz (.int ds.length))
  |none=>Ld)
 |_=>Ld
theorem ky:C3 K (fun xs H Q=>∃x n,xs=[x]/\K1 K x H n/\Q (.int n) H) gh:=by
 intro O H xs ds rv Q n h e q;unfold gh at e;split at e
 .split at e
  .rename_i i f
   cases e;cases h with
   |cons b g=>
    cases g;unfold fE at f;split at f
    .cases f;obtain⟨a,xs,rfl,b,g⟩:=EI b;exact⟨_,xs.length,rfl,.inr ⟨xs,b.1,rfl⟩,by rw[g.length];exact q.at (.int _)⟩
    .cases f;obtain⟨a,xs,rfl,b,g⟩:=B6 b;exact⟨_,xs.length,rfl,.inl ⟨xs,b.sq,rfl⟩,by rw[g.length];exact q.at (.int _)⟩
    .cases f
  .cases e
 .cases e
def iX:List D->Option RV
 |[.tuple ds]=>lD (.fz (.tuple ds))
 |[.list ds]=>lD (.fz (.tuple ds))
 |_=>Ld
theorem jY:C3 K (fun xs H Q=>∃p ys,xs=[.ref p]/\((Ve K H p ys/\∀l,H l=Ld->Q (.ref l) (bC H l (.tup ys)))\/(Vn K H p ys/\Q (.ref p) H))) iX:=by
 intro O H xs ds rv Q n g e q;unfold iX at e;split at e
 .cases e
  cases g with
  |cons b f=>cases f;obtain⟨a,xs,rfl,b,f⟩:=EI b;exact⟨a,xs,rfl,.inr ⟨b.1,q.at (.tup b f)⟩⟩
 .cases e
  cases g with
  |cons b f=>cases f;obtain⟨a,xs,rfl,b,f⟩:=B6 b;exact⟨a,xs,rfl,.inl ⟨b.sq,Fin.aaK f n q⟩⟩
 .cases e
def uE:List D->Option RV
 |[d]=>(fE d).map .ow
 |_=>Ld
theorem IA:C3 K (fun xs H Q=>∃p ys,xs=[.ref p]/\(Ve K H p ys\/Vn K H p ys)/\∀l,H l=Ld->Q (.ref l) (bC H l (.lst ys))) uE:=by
 intro O H xs ds rv Q n g e q;unfold uE at e;split at e
 .rename_i d
  cases g with
  |cons b f=>
   cases f;cases hs:fE d with
   |none=>rw[hs] at e;cases e
   |some h=>
    rw[hs] at e;cases e;unfold fE at hs;split at hs
    .cases hs;obtain⟨a,xs,rfl,b,f⟩:=EI b;exact⟨a,xs,rfl,.inr b.1,Fin.new f q⟩
    .cases hs;obtain⟨a,xs,rfl,b,f⟩:=B6 b;exact⟨a,xs,rfl,.inl b.sq,Fin.new f q⟩
    .cases hs
 .cases e
def wo:List D->Option RV
 |[.int i,.int j]=>lD (.fz (.int (if j>i then j else i)))
 |_=>Ld
theorem Ih:C3 K (fun xs H Q=>∃i j,xs=[.int i,.int j]/\Q (.int (if j>i then j else i)) H) wo:=by
 intro O H xs ds rv Q n b e q;unfold wo at e;split at e
 .cases e
  cases b with
  |cons g a=>
   cases a with
   |cons a f=>cases f;cases g;cases a;exact⟨_,_,rfl,q.at (.int _)⟩
 .cases e
end
end L3
namespace PySem
open Sem (wp)
open AutoSeq1 (wpAny_loadPart')
open Builtin Builtin.Str
section
variable {prog:Rf} {w:RB} {A:Rv} {E:QH->QP->Prop} {s:QP}
theorem l6 (a:s.heap.IsTupleIter it t i) (j:s.heap.IsTuple t items) (h:items[i]? =lD x)
  (m:∀h',h'.IsTupleIter it t (i+1)->Heap.SameBut it s.heap h'->Q x {s with heap:=h'}):wpAny (model prog w) A (Builtin.SmallTypes.nextOf (.ref it)) Q E s:=by
 obtain⟨o,e,l,b⟩:=id a;obtain⟨n,f,_,p,g⟩:=j;unfold Builtin.SmallTypes.nextOf;refine QG (SS a.typeIs F.slot_tuple_iterator_next
  (S5 F.slot_tuple_iterator_next a.typeIs F.entry_tuple_iterator_next ?_ (F.args_tuple_iterator_next_1 _)))
 show wpAny _ _ (field (.ref it) 0>>=_) _ _ s;refine QG (RU e b rfl ?_);show wpAny _ _ (if(QH.ref t==QH.none)=QJ then _ else _) _ _ s;rw[if_neg (show¬((QH.ref t==QH.none)=QJ) from Q8)];refine QG (RU e b rfl ?_);refine QG (Sk f g ?_);simp only[RY,h];refine QG (UB e b (by simp) (QR ⟨x,rfl,QR (m _ ?_ (Heap.SameBut.update ..))⟩));exact⟨_,Heap.get?_update_self _ e (Obj.isFreed_of_fields (Obj.data_mapFields b _)),(Obj.cls_mapFields ..).trans l,by rw[Obj.data_mapFields b];simp[rawInt]⟩
theorem ny (j:A.handled=Ld) (a:s.heap.IsTupleIter it t i) (m:s.heap.IsTuple t items) (l:items[i]? =Ld)
  (n:∀h' e,Heap.ExtBut it s.heap h'->(∃o,h'.get? e=lD o/\o.cls= .type "StopIteration")->E (.ref e) {s with heap:=h'}):wpAny (model prog w) A (Builtin.SmallTypes.nextOf (.ref it)) Q E s:=by
 obtain⟨o,f,r,h⟩:=id a;obtain⟨p,b,_,q,g⟩:=m;unfold Builtin.SmallTypes.nextOf;refine QG (SS a.typeIs F.slot_tuple_iterator_next
  (S5 F.slot_tuple_iterator_next a.typeIs F.entry_tuple_iterator_next ?_ (F.args_tuple_iterator_next_1 _)))
 show wpAny _ _ (field (.ref it) 0>>=_) _ _ s;refine QG (RU f h rfl ?_);show wpAny _ _ (if(QH.ref t==QH.none)=QJ then _ else _) _ _ s;rw[if_neg (show¬((QH.ref t==QH.none)=QJ) from Q8)];refine QG (RU f h rfl ?_);refine QG (Sk b g ?_);simp only[RY,l];refine QG (Wh (QG (UB f h (by simp) ?_)));refine QG ?_;simp only[newExc,newTuple];refine QG (Sf ?_ (by size_fits));refine QG (Yo (by first|rfl|(simp only[firstArgMember];rfl)) ?_);refine Sf ?_ (by size_fits);simp only[raiseNew];refine QG (wpAny_handled ?_)
 first|rw[show A.in1.handled=Ld from j]|rw[j]
 refine QG (QR (wpAny_throw ?_));exact n _ _ (((Heap.SameBut.update ..).extBut.push _).push _) ⟨_,Heap.get?_push_size _ rfl,rfl⟩
end
end PySem
namespace L3
open PySem PySem.Spec PyProof.Rows L2
theorem JH (I:Inv X pins σ H s) (l:Vn X.K H a xs) (j:Vn X.K H a ys):xs=ys:=by
 obtain⟨g,i,⟨o,m,_,n,p⟩,_⟩:=I.tuple l;obtain⟨f,h,⟨r,b,_,t,e⟩,_⟩:=I.tuple j;rw[m] at b;cases b;rw[p] at e;have:g=f:=by
  have q:g.toArray=f.toArray:=by injection e
  simpa using q
 subst this;exact i.inj h
theorem CZ {bs:List Bool} (r:Vals (bs.map V.bl) RG) {i:Nat} (h:RG[i]? =lD v):∃b,bs[i]? =lD b/\v= .bool b:=by
 have e:=r.length;rw[QI] at e;have hi:i<bs.length:=by rw[e];exact(QM.mp h).1
 obtain⟨u,a,f⟩:=r.get (by rw[QW,QY hi];rfl);rw[h] at a;cases a;exact⟨bs[i],QY hi,f⟩
theorem zz (bs:List Bool):((Q0 bs.length).all fun i=>(bs[i]?).getD QJ)=bs.all id:=by
 rw[aa7,TU,TU];constructor
 .intro h b a;obtain⟨i,hi,e⟩:=List.mem_iff_getElem.mp a;have:=h i (Sg.mpr hi);rw[QY hi,e] at this;exact this
 .intro h i hi;have hi:=Sg.mp hi;rw[QY hi];exact h _ (aaR hi)
section
variable {X:Cx}
theorem xW (w:X.calm=QJ):Ub X (.builtin "all") (fun xs H Q=>∃(p:QN) (bs:List Bool),xs=[.ref p]/\Ve X.K H p (bs.map V.bl)/\Q (.bl (bs.all id)) H):=by
 intro f s C H xs E Q I r h;obtain⟨l,bs,rfl,n,q⟩:=h;obtain⟨u,rfl,m⟩:=jM r;cases m;obtain⟨j,rv,pl,J⟩:=I.list n;have a:=rv.length;rw[QI] at a;have B:l<s.heap.objs.size:=by obtain⟨_,_,e,_⟩:=pl;exact Heap.lt_size e
 refine call_all_walk (U6 pl.isList ?_);refine⟨s.heap.objs.size,[s.heap.objs.size,l],[s.heap.objs.size],j.toArray.size,_,_,fun i=>(bs[i]?).getD QJ,rfl,Walks.list (A:=X.A.in1) (I.ok.hd w) _ l (Rg B) j.toArray,
  ⟨⟨_,Heap.get?_push_size _ rfl,rfl,rfl⟩,pl.isList.push _⟩,fun i v G M N y g=> ?_,fun L F t=> ?_⟩
 .obtain⟨b,e,rfl⟩:=CZ rv (by simpa using y);simp only[e,W6] at g;exact SR g
 .rw[QZ,<-a,zz];refine⟨.bl _,H,I.kept fun b o e=>t b o (fun hm=> ?_) (Heap.get?_push_of_some _ e),rfl,q⟩;rw[Q2.mp hm] at e;exact Su _ (Heap.lt_size e)
end
section
variable {K:QF}
def uS:List D->Option (List Bool)
 |[]=>lD []
 | .bool b::r=>(uS r).map (b::·)
 |_=>Ld
theorem z4:∀{xs:List V} {ds:List D} {bs:List Bool},SE O K H xs ds->uS ds=lD bs->xs=bs.map V.bl
 |_,_,_,.nil,e=>by cases e;rfl
 |_,_,bs,.cons (ds:=r) h t,e=>by
  cases h with
  |bl b=>
   have a:(uS r).map (b::·)=lD bs:=e;cases q:uS r with
   |none=>rw[q] at a;cases a
   |some f=>rw[q] at a;cases a;rw[z4 t q];rfl
  |_=>cases e
def Fr:List D->Option RV
 |[.list ds]=>(uS ds).map fun bs=> .fz (.bool (bs.all id))
 |_=>Ld
theorem FQ:C3 K (fun xs H Q=>∃(p:QN) (bs:List Bool),xs=[.ref p]/\Ve K H p (bs.map V.bl)/\Q (.bl (bs.all id)) H) Fr:=by
 intro O H xs ds rv Q n g e q;unfold Fr at e;split at e
 .rename_i h
  cases qs:uS h with
  |none=>rw[qs] at e;cases e
  |some bs=>
   rw[qs] at e;cases e;cases g with
   |cons f b=>cases b;obtain⟨a,i,rfl,f,b⟩:=B6 f;have:=z4 b qs;subst this;exact⟨a,bs,rfl,f.sq,q.at (.bl _)⟩
 .cases e
def nk:List D->Option (List Int)
 |[]=>lD []
 | .int b::r=>(nk r).map (b::·)
 |_=>Ld
theorem pE:∀{xs:List V} {ds:List D} {bs:List Int},SE O K H xs ds->nk ds=lD bs->xs=bs.map V.int
 |_,_,_,.nil,e=>by cases e;rfl
 |_,_,bs,.cons (ds:=r) h t,e=>by
  cases h with
  |int b=>
   have a:(nk r).map (b::·)=lD bs:=e;cases q:nk r with
   |none=>rw[q] at a;cases a
   |some f=>rw[q] at a;cases a;rw[pE t q];rfl
  |_=>cases e
def zH (x:Int):List Int->List Int
 |[]=>[x]
 |y::r=>if x<=y then x::y::r else y::zH x r
def j8:List Int->List Int
 |[]=>[]
 |x::r=>zH x (j8 r)
theorem nO (x:Int):∀l,(zH x l).Perm (x::l)
 |[]=>Xe _
 |y::r=>by
  unfold zH;split
  .exact Xe _
  .exact((nO x r).cons y).trans (aiS x y r)
theorem fD:∀l,(j8 l).Perm l
 |[]=>Xe _
 |x::r=>(nO x _).trans ((fD r).cons x)
theorem nX (x:Int):∀l:List Int,l.Pairwise (·<=·)->(zH x l).Pairwise (·<=·)
 |[],_=>by simp[zH]
 |y::r,h=>by
  unfold zH;obtain⟨f,g⟩:=Sj.mp h;split
  .rename_i a
   refine Sj.mpr ⟨fun z b=> ?_,h⟩;rcases Rc.mp b with e|e
   .rw[e];exact a
   .have:=f z e;omega
  .rename_i a
   refine Sj.mpr ⟨fun z b=> ?_,nX x r g⟩;rcases Rc.mp ((nO x r).mem_iff.mp b) with e|e
   .rw[e];omega
   .exact f z e
theorem eK:∀l,(j8 l).Pairwise (·<=·)
 |[]=>VN
 |x::r=>nX x _ (eK r)
theorem kz {l m:List Int} (e:l.Perm m) (f:l.Pairwise (·<=·)) (hm:m.Pairwise (·<=·)):l=m:=e.eq_of_pairwise (fun a b _ _ h g=>Int.le_antisymm h g) f hm
def uJ:List D->Option RV
 |[.list ds]=>(match nk ds with
  |some a=>if a.length<64 then lD (.ow ((j8 a).map .int)) else Ld
  |none=>Ld)
 |_=>Ld
theorem qM (a:List Int):SE O K H (a.map V.int) (a.map .int):=by
 induction a with
 |nil=>exact .nil
 |cons n r b=>exact .cons (.int n) b
theorem sT:C3 K (fun xs H Q=>∃(p:QN) (b:List Int),xs=[.ref p]/\Ve K H p (b.map V.int)/\b.length<64/\∀(l:QN) (f:List Int),H l=Ld->f.Perm b->f.Pairwise (·<=·)->Q (.ref l) (bC H l (.lst (f.map V.int)))) uJ:=by
 intro O H xs ds rv Q n g e q;unfold uJ at e;split at e
 .rename_i o
  cases qs:nk o with
  |none=>rw[qs] at e;cases e
  |some b=>
   rw[qs] at e;dsimp only at e;split at e
   .rename_i h
    cases e;cases g with
    |cons j i=>cases i;obtain⟨a,t,rfl,j,i⟩:=B6 j;have:=pE i qs;subst this;refine⟨a,b,rfl,j.sq,h,fun l f h g m=> ?_⟩;have r:=kz (g.trans (fD b).symm) m (eK b);subst r;exact Fin.new (qM _) q l h
   .cases e
 .cases e
end
theorem BV {P:Rf} {w:RB} {K:QF} {mg m:Str->Option QH} {k:Nat} {fa a:QN} {fd:RZ} {x:Str} {F:FN} {b:QP} {vs:List QH} {f:List Int}
  (q:K.In b.heap) (g:b.heap.Ns Q4 mg) (C:b.heap.Ns builtinsNs m) (i:∀x:Str,x≠ "__name__"->m x=Se x) (j:b.heap.NoLimit) (B:b.gens= #[])
  (ha:b.heap.get? a=lD {cls:= .type "list",data:= .seq vs.toArray}) (hi:IntsAre vs f) (p:f.length<=QX) (A:Td k callerA)
  (L:∀base:Heap,K.In base->base.Ns Q4 mg->FnOk P w K mg base dm k fa fd [x] (nY K 1 F)) (l:∀(s:QP) (u:QH),Wd s fd ⟨[u],[]⟩ [(x,u)])
  (I:F [.list (f.map .int)]= .ok (.fz (.bool QJ))):
  codeAny (model P w) callerA (.call (.ref fa) ⟨[.ref a],[]⟩) (fun r s'=>r= .ok (.ret (.bool QJ))/\OldK b.heap s'.heap/\s'.os=b.os/\AllBare s'.gens) b:=by
 refine Fw (sp:=fun vs H Q E=>nY K 1 F vs H Q E\/(vs.length=1/\False)) q g C i j B ha hi p A (fun base y t=>(L base y t).imp fun vs H Q E h=> ?_) l (fun H M G=> ?_) fun _ _ _ h=>h
 .rcases h with h|h
  .exact h
  .exact h.2.elim
 .refine .inl ⟨rfl,YT,[.list (f.map .int)],fun a z=>z.elim,.cons (.lst ⟨?_,fun z=>z.elim⟩ (qM f)) .nil,?_⟩
  .rcases G with h|⟨o,RG,n,h1,h2,h3,h4,h5,h6⟩
   .exact .inl h
   .have e:=q a o h1;rw[ha] at e;cases e;cases h4;exact .inr ⟨vs,0,h1,by rw[QI];exact p,by simpa using h6⟩
  .rw[I];exact fun v N s J=>by cases J;rfl
theorem NY {l:Z8} {n k:Nat} {q:Rf} {i:List Str} {N:(Str->Option QH)->Heap->Prop} {B:RB->Heap->Prop} {d:DefRec} {K:Params->QF} {F:FN} {x:Str}
  (hn:l.most=lD n) (m:n<=QX) (r:d.params.defaults=[]) (E:Td k callerA)
  (J:∀(w:RB) (h:Heap),B w h->(K w.params).In h)
  (O:∀(w:RB) (mg:Str->Option QH) (fa:QN) (h:Heap),(K w.params).In h->h.Ns Q4 mg->mg d.name=lD (.ref fa)->
   ∃fd:RZ,(∀(s:QP) (u:QH),Wd s fd ⟨[u],[]⟩ [(x,u)])/\∀base:Heap,(K w.params).In base->base.Ns Q4 mg->FnOk l.prog w (K w.params) mg base dm k fa fd [x] (nY (K w.params) 1 F))
  (L:∀ns:List Int,ns.length<=n->F [.list (ns.map .int)]= .ok (.fz (.bool QJ))):
  PySem.W.WalkO q i N B l.row.toRowW d [] (fun f vs=>adn f vs):=by
 refine Att.attach_call hn r fun w A y mg Q fa o P U M a vs ns G Y R S X p v j e H=> ?_;have C:=J w _ Y;obtain⟨fd,I,t⟩:=O w mg fa _ C G.T.g p;exact BV C G.T.g G.T.b G.T.builtins G.T.nolimit H v j (RA e m) E t I (L ns e)
theorem Qy {P:Rf} {w:RB} {K:QF} {mg:Str->Option QH} {base:Heap} {x a:Str} {st:Th} {f:QN} {fd:RZ} {N ps:List Str} {k n m:Nat} {g:FS} {e:FN} (F:T9 K x a st f fd) (S:TK N ps (ay st)) (hn:ps.length=n) (hm:N.length=m) (h:e=gv m g)
  (i:∀(b:QH) (A:Rv) (outer:List Env) (s:QP) (H:Hp) (E:XK),Td k (A.deeper (Ri a (ay st) s.heap.objs.size f b))->
   ∃t,Xa (fT dm P w K mg base N a (ay st) f b A outer s H E).nox (cj st) t/\SO K E t g):FnOk P w K mg base dm (k+1) f fd ps (nY K n e):=by
 subst h hm;exact Qp F S hn i
abbrev iV (P:Rf) (w:RB) (K:QF) (mg:Str->Option QH) (base:Heap) (k:Nat) (x:Str) (ps:List Str) (n:Nat) (F:FN):Prop:=wV P w K mg base k x ps (nY K n F)
end L3
namespace L3
open PySem L2
abbrev nd (n:Nat):D:= .int (n:Int)
def a8 (a:List Nat):List D:=a.map nd
theorem cZ (a:List Nat):(a8 a).length=a.length:=by unfold a8;rw[QI]
theorem JG (xs a:List Nat):a8 (xs++a)=a8 xs++a8 a:=by unfold a8;rw[Rm]
theorem kW {i:Nat} (h:(a8 ns)[i]? =lD d):∃n,ns[i]? =lD n/\d=nd n:=by
 unfold a8 at h;rw[QW] at h;cases e:ns[i]? with
 |none=>rw[e] at h;cases h
 |some n=>rw[e] at h;exact⟨n,rfl,(Ra h).symm⟩
theorem aJ (a:α):Res.RO (lD a)= .ok a:=rfl
theorem wM (a:α):jB (Res.ok a)= .ok a:=rfl
theorem yD (i:Nat) (ρ:aU):aa i ρ=zW ρ i ρ[i]? :=rfl
theorem F1 (ρ:aU) (i:Nat) (d:D):zW ρ i (lD (lD (.fz d)))= .ok (.fz d,ρ):=rfl
theorem Eg (ρ:aU) (i:Nat) (ds:List D):zW ρ i (lD (lD (.ow ds)))= .ok (.pl i,ρ):=rfl
theorem nQ (ds:List D):GP (lD (lD (.ow ds)))=lD ds:=rfl
theorem DJ (i:Nat) (d:D) (ρ:aU):gN i (.fz d) ρ= .ok (ρ.set i (lD (.fz d))):=rfl
theorem AM (i:Int):PP (.int i)=lD i:=rfl
theorem wv (b:Bool):P7 (.bool b)=lD b:=rfl
theorem iS (ds:List D):gh [.tuple ds]=lD (.fz (nd ds.length)):=rfl
theorem i6 (ds:List D):gh [.list ds]=lD (.fz (nd ds.length)):=rfl
theorem ra (i j:Int):NM (.int i) (.int j)=lD (.fz (.bool (decide (i<j)))):=rfl
theorem Bo (i j:Int):L6 (.int i) (.int j)=lD (.fz (.bool (decide (i<=j)))):=rfl
theorem xw (i j:Int):x8 (.int i) (.int j)=lD (.fz (.bool (decide (j<i)))):=rfl
theorem BS (i j:Int):PZ (.int i) (.int j)=lD (.fz (.bool (decide (j<=i)))):=rfl
theorem gX (i j:Int):cH (.int i) (.int j)=lD (.fz (.int (i+j))):=rfl
theorem yC (i j:Int):se (.int i) (.int j)=lD (.fz (.int (i - j))):=rfl
theorem eV (h:0<j):df (.int i) (.int j)=lD (.fz (.int (i % j))):=by show(if Lh i j=QJ then _ else _)=_;rw[if_pos (show Lh i j=QJ from decide_eq_true h)]
theorem fL (h:0<j/\j<2^128):eW (.int i) (.int j)=lD (.fz (.int (i/j))):=by show(if Mp i j=QJ then _ else _)=_;rw[if_pos (show Mp i j=QJ from decide_eq_true h)]
theorem G7 (h: -(2^64)<i/\i<2^64):Cf (.int i) (.int j)=lD (.fz (.int (i*j))):=by show(if(gQ i||gQ j)=QJ then _ else _)=_;rw[if_pos (by rw[show gQ i=QJ from decide_eq_true h,UP])]
theorem HX (h: -(2^64)<j/\j<2^64):Cf (.int i) (.int j)=lD (.fz (.int (i*j))):=by show(if(gQ i||gQ j)=QJ then _ else _)=_;rw[if_pos (by rw[show gQ j=QJ from decide_eq_true h,YM])]
theorem Bb (h:jp j):gA [.int j]=lD (gw 0 j.toNat):=by show(if jp j then _ else _)=_;rw[if_pos h]
theorem xh (n:Nat):gw 0 n=a8 (Q0 n):=by unfold gw a8;apply UL;intro k _;rw[Int.zero_add]
theorem my (h:n<=1000000):gA [nd n]=lD (a8 (Q0 n)):=by rw[Bb (by unfold jp;omega),xh,RY]
theorem yU (h:f ρ= .ok (.nx ρ1)):bx f g ρ=g ρ1:=by unfold bx;rw[h];rfl
theorem EU (h:f ρ= .ok (.rt rv)):bx f g ρ= .ok (.rt rv):=by unfold bx;rw[h];rfl
theorem P2 (h:c ρ= .ok (QJ,ρ1)):lY c f g ρ=f ρ1:=by unfold lY;rw[h];rfl
theorem PL (h:c ρ= .ok (QQ,ρ1)):lY c f g ρ=g ρ1:=by unfold lY;rw[h];rfl
theorem zD (h:fi ρ= .ok (ds,ρ1)):oz fi gt b ρ=oJ gt b ds ρ1:=by unfold oz;rw[h];rfl
theorem LK (h:j<=1000000/\i.natAbs<2^64):DL (.int i) (nd j)=lD (.fz (.int (i^j))):=by show(if x5 i (j:Int)=QJ then lD (RV.fz (.int (i^((j:Nat):Int).toNat))) else Ld)=_;rw[if_pos (by unfold x5;exact decide_eq_true ⟨by omega,by omega,h.2⟩),RY]
theorem Kw:DL (.int 10) (.int 18)=lD (.fz (.int (10^18))):=LK ⟨by decide,by decide⟩
def j7 (gt:FG) (ft:FT) (fe:FE) (d:D) (ρ:aU):Res (Option D×aU):=(gt (.fz d) ρ).bind fun e=>(ft e).bind fun b=>if b.1=QJ then(fe b.2).bind fun a=>(Res.RO (wO a.2 a.1)).bind fun x=> .ok (lD x.1,cT x.2) else .ok (Ld,cT b.2)
theorem pQ (h:j7 gt ft fe d ρ= .ok (o,ρ')) (g:acc.length<1000000):dA gt ft fe (d::r) ρ acc=dA gt ft fe r ρ' (acc++o.toList):=by
 unfold j7 at h;show(gt (.fz d) ρ).bind _=_;cases q1:gt (.fz d) ρ with
 |er x=>rw[q1] at h;cases h
 |bad=>rw[q1] at h;cases h
 |ok f=>
  rw[q1,Res.bind_ok] at h;rw[Res.bind_ok];cases q2:ft f with
  |er x=>rw[q2] at h;cases h
  |bad=>rw[q2] at h;cases h
  |ok b=>
   obtain⟨b,e⟩:=b;rw[q2,Res.bind_ok] at h;rw[Res.bind_ok];cases b with
   |false=>rw[if_neg Q8] at h⊢;cases h;rw[Zt,RF]
   |true=>
    rw[if_pos rfl] at h⊢;cases q3:fe e with
    |er x=>rw[q3] at h;cases h
    |bad=>rw[q3] at h;cases h
    |ok a=>
     rw[q3,Res.bind_ok] at h;rw[Res.bind_ok];cases q4:wO a.2 a.1 with
     |none=>rw[q4] at h;cases h
     |some x=>rw[q4] at h;cases h;show(if acc.length<1000000 then _ else _)=_;rw[if_pos g];rfl
theorem O8 (c:Nat) (h:c<=1000):PB (.int 1) (nd c)=lD (.fz (nd (2^c))):=by show(if x5 1 (c:Int)=QJ then lD (RV.fz (.int (1*2^((c:Nat):Int).toNat))) else Ld)=_;rw[if_pos (by unfold x5;exact decide_eq_true ⟨by omega,by omega,by decide⟩),Int.one_mul,RY];congr 3
theorem LX (a c:Nat):B9 (nd a) (nd c)=lD (.fz (nd (a/2^c))):=by show(if Oj a (c:Int)=QJ then lD (RV.fz (.int ((a:Int)/2^((c:Nat):Int).toNat))) else Ld)=_;rw[if_pos (by unfold Oj;exact decide_eq_true (by omega)),RY];congr 3
theorem M9 (a b:Nat):decide ((a:Int)=(b:Int))=decide (a=b):=by
 by_cases h:a=b
 .rw[decide_eq_true h,decide_eq_true (by rw[h])]
 .rw[decide_eq_false h,decide_eq_false (by omega)]
theorem Df (a b:Nat):QK.eqv (nd a) (nd b)=decide (a=b):=M9 a b
theorem mQ (a b:Int):cV (.int a) (.int b)=lD (.fz (.bool (decide (a=b)))):=by rfl
theorem u7 (a b:Int):xE (.int a) (.int b)=lD (.fz (.bool (!decide (a=b)))):=by rfl
theorem ii:∀ns:List Nat,QK.canLayAll0 (a8 ns)=QJ
 |[]=>rfl
 |n::r=>by show(QK.canLay0 (nd n)&&QK.canLayAll0 (a8 r))=QJ;rw[ii r];rfl
theorem kH:∀ns:List Nat,QK.depthAll (a8 ns)=0
 |[]=>rfl
 |n::r=>by show max (QK.depth (nd n)) (QK.depthAll (a8 r))=0;rw[kH r];rfl
theorem u0:∀xs ys:List Nat,QK.eqvAll (a8 xs) (a8 ys)=decide (xs=ys)
 |[],[]=>rfl
 |[],_::_=>rfl
 |_::_,[]=>rfl
 |n::r,m::t=>by show(QK.eqv (nd n) (nd m)&&QK.eqvAll (a8 r) (a8 t))=_;rw[u0 r t,Df];rw[aa7];simp
theorem LQ (a:List Nat):lm (.tuple (a8 a))=QJ:=by show(QK.canLayAll0 (a8 a)&&decide (QK.depthAll (a8 a)+1<=64))=QJ;rw[ii,kH];rfl
theorem Nr (a:List Nat):lm (.list (a8 a))=QJ:=by show(QK.canLayAll0 (a8 a)&&decide (QK.depthAll (a8 a)+1<=64))=QJ;rw[ii,kH];rfl
theorem tF (xs a:List Nat):cV (.list (a8 xs)) (.list (a8 a))=lD (.fz (.bool (decide (xs=a)))):=by unfold cV;rw[Nr,show QK.canLay0 (.list (a8 a))=QJ from ii a,Tf,if_pos rfl,show QK.eqv (.list (a8 xs)) (.list (a8 a))=_ from u0 xs a]
theorem Ip (x:Nat) (xs:List Nat):((a8 xs).any fun e=>QK.eqv e (nd x))=decide (x∈xs):=by
 induction xs with
 |nil=>rfl
 |cons y r a=>
  show(QK.eqv (nd y) (nd x)||(a8 r).any fun e=>QK.eqv e (nd x))=_;rw[a,Df];by_cases h:y=x
  .rw[decide_eq_true h,decide_eq_true (show x∈y::r by rw[h];exact QS),UP]
  .rw[decide_eq_false h,Vk]
   by_cases g:x∈r
   .rw[decide_eq_true g,decide_eq_true (QV _ g)]
   .rw[decide_eq_false g,decide_eq_false (fun z=>(Rc.mp z).elim (fun e=>h e.symm) g)]
theorem ug (x:Nat) (xs:List Nat):Hj (nd x) (.tuple (a8 xs))=lD (.fz (.bool (decide (x∈xs)))):=by show(if(lm (nd x)&&QK.canLayAll0 (a8 xs))=QJ then _ else _)=_;rw[ii,show lm (nd x)=QJ from rfl,Tf,if_pos rfl,Ip]
theorem Gy {i:Nat} (h:xs[i]? =lD v):lL xs (i:Int)=lD v:=AH h
theorem JJ (h:ds[i]? =lD d):bc (.tuple ds) (nd i)=lD (.fz d):=by show(lL ds (i:Int)).map RV.fz=_;rw[Gy h];rfl
theorem Qq (h:ds[i]? =lD d):bc (.list ds) (nd i)=lD (.fz d):=by show(lL ds (i:Int)).map RV.fz=_;rw[Gy h];rfl
section
variable {ρ ρ1 Z ρ3:aU} {fa fb fc fe:FE} {pa pb pv:PV} {dx dy d:D} {rv:RV} {ps:List PV} {ds:List D}
theorem af (h:ρ[i]? =lD (lD (.fz d))):aa i ρ= .ok (.fz d,ρ):=by rw[yD,h,F1]
theorem ja (h:ρ[i]? =lD (lD (.ow ds))):aa i ρ= .ok (.pl i,ρ):=by rw[yD,h,Eg]
theorem aD:pC d ρ= .ok (.fz d,ρ):=rfl
theorem aE (ha:fa ρ= .ok (pa,ρ1)) (g:fb ρ1= .ok (pb,Z)) (b:rQ Z (bO pa)=lD dx) (a:rQ Z pb=lD dy) (e:f dx dy=lD rv):aC f fa fb ρ= .ok (rv.pv,Z):=by unfold aC;rw[ha,Res.bind_ok,g,Res.bind_ok,b,aJ,Res.bind_ok,a,aJ,Res.bind_ok,e,aJ,Res.bind_ok]
theorem bK (ha:fa ρ= .ok (pa,ρ1)) (a:rQ ρ1 pa=lD (.bool b)):aF fa ρ= .ok (b,ρ1):=by unfold aF;rw[ha,Res.bind_ok,a,aJ,Res.bind_ok,wv,aJ,Res.bind_ok]
theorem o0 (ha:f ρ= .ok (a,ρ1)) (e:a=QJ->g ρ1= .ok (b,ρ1)):ko f g ρ= .ok (a&&b,ρ1):=by
 unfold ko;rw[ha,Res.bind_ok];cases a with
 |true=>rw[if_pos rfl,e rfl,WB]
 |false=>rw[if_neg Q8,UU]
theorem HV (ha:f ρ= .ok (a,ρ1)):Cu f ρ= .ok (!a,ρ1):=by unfold Cu;rw[ha,Res.bind_ok]
theorem vj (ha:aF fa ρ= .ok (a,ρ1)) (e:a=QJ->fb ρ1= .ok (.fz (.bool b),ρ1)):Fi fa fb ρ= .ok (.fz (.bool (a&&b)),ρ1):=by
 unfold Fi;rw[ha,Res.bind_ok];cases a with
 |true=>rw[if_pos rfl,e rfl,WB]
 |false=>rw[if_neg Q8,UU]
theorem aA:aq ρ= .ok ([],ρ):=rfl
theorem ai (ha:fa ρ= .ok (pa,ρ1)) (a:fr ρ1= .ok (ps,Z)):ae fa fr ρ= .ok (bO pa::ps,Z):=by unfold ae;rw[ha,Res.bind_ok,a,Res.bind_ok]
theorem de (ha:fr ρ= .ok (ps,ρ1)) (hd:rU ρ1 ps=lD ds) (a:f ds=lD rv):gq f fr ρ= .ok (rv.pv,ρ1):=by unfold gq;rw[ha,Res.bind_ok,hd,aJ,Res.bind_ok,a,aJ,Res.bind_ok]
theorem eU (ha:fr ρ= .ok (ps,ρ1)) (hd:oy ρ1 ps=lD (ds,Z)) (hn:ds.length=n) (a:F ds= .ok rv):fq F n fr ρ= .ok (rv.pv,Z):=by unfold fq;rw[ha,Res.bind_ok,hd,aJ,Res.bind_ok];dsimp only;rw[if_pos hn,a,wM,Res.bind_ok]
theorem b8 (ha:fr ρ= .ok (ps,ρ1)) (hd:oy ρ1 ps=lD (ds,Z)) (hn:ds.length<=1000):bj fr ρ= .ok (.fz (.tuple ds),Z):=by unfold bj;rw[ha,Res.bind_ok,hd,aJ,Res.bind_ok];dsimp only;rw[if_pos hn]
theorem lM (ha:fr ρ= .ok (ps,ρ1)) (hd:oy ρ1 ps=lD (ds,Z)) (hn:ds.length<=1000):dC fr ρ= .ok (.ow ds,Z):=by unfold dC;rw[ha,Res.bind_ok,hd,aJ,Res.bind_ok];dsimp only;rw[if_pos hn]
theorem wE:Aa ρ= .ok (Ld,ρ):=rfl
theorem iW (ha:fa ρ= .ok (pa,ρ1)) (a:rQ ρ1 pa=lD (.int i)):mP fa ρ= .ok (lD i,ρ1):=by unfold mP;rw[ha,Res.bind_ok,a,aJ,Res.bind_ok,AM,aJ,Res.bind_ok]
theorem BE (ha:fa ρ= .ok (pa,ρ1)) (b:fl ρ1= .ok (lo,Z)) (e:fh Z= .ok (hi,ρ3)) (a:rQ ρ3 (bO pa)=lD dx) (g:f dx lo hi=lD rv):Lo f fa fl fh ρ= .ok (rv.pv,ρ3):=by unfold Lo;rw[ha,Res.bind_ok,b,Res.bind_ok,e,Res.bind_ok,a,aJ,Res.bind_ok,g,aJ,Res.bind_ok]
theorem nr (g:ρ[i]? =lD (lD (.ow es))) (ha:fe ρ= .ok (pa,ρ1)) (b:wO ρ1 pa=lD (d,Z)) (f:Z[i]? =lD (lD (.ow ds))) (e:ds.length<1000000) (a:Z.set i (lD (.ow (ds++[d])))=x):t9 i fe ρ= .ok (.fz .none,x):=by unfold t9;rw[g,nQ,aJ,Res.bind_ok,ha,Res.bind_ok,b,aJ,Res.bind_ok];dsimp only;rw[f,nQ,aJ,Res.bind_ok,if_pos e,a]
theorem dc (hi:fi ρ= .ok (ds,ρ1)) (b:sO ρ1 fv=lD (cs,Z)) (a:jB (dA gt ft fe ds (QT n Ld++cs.map fun d=>lD (.fz d)) [])= .ok xs):eP n fv fi gt ft fe ρ= .ok (.ow xs,Z):=by unfold eP;rw[hi,Res.bind_ok];dsimp only;rw[b,aJ,Res.bind_ok];dsimp only;rw[a,Res.bind_ok]
theorem M7 (a:c ρ= .ok (QJ,ρ1)) (h:fa ρ1= .ok (pv,Z)):MM c fa fb ρ= .ok (pv,Z):=by unfold MM;rw[a,Res.bind_ok,if_pos rfl,h]
theorem La (a:c ρ= .ok (QQ,ρ1)) (h:fb ρ1= .ok (pv,Z)):MM c fa fb ρ= .ok (pv,Z):=by unfold MM;rw[a,Res.bind_ok,if_neg Q8,h]
theorem ip:bc (.tuple (a::r)) (.int 0)=lD (.fz a):=JJ rfl
theorem i7:bc (.tuple (a::b::r)) (.int 1)=lD (.fz b):=JJ rfl
theorem rB:bc (.tuple (a::b::c::r)) (.int 2)=lD (.fz c):=JJ rfl
theorem Mw (b:k<=1000) (a:xs.length<=1000):Cf (.list xs) (nd k)=lD (.ow (QT k xs).flatten):=by show(if xs.length*((k:Nat):Int).toNat<=1000000/\ -(2^63)<=(k:Int)/\(k:Int)<2^63 then lD (RV.ow (QT ((k:Nat):Int).toNat xs).flatten) else Ld)=_;rw[RY,if_pos ⟨RA (X8 a b) (by decide),by omega,by omega⟩]
theorem jr (ha:fe ρ= .ok (pa,ρ1)) (a:wO ρ1 pa=lD (d,Z)) (b:fE d=lD es):kg fe ρ= .ok (es,Z):=by unfold kg;rw[ha,Res.bind_ok,a,aJ,Res.bind_ok];dsimp only;rw[b,aJ,Res.bind_ok]
theorem pp (ha:fr ρ= .ok (ps,ρ1)) (hd:rU ρ1 ps=lD ds) (a:f ds=lD es):kZ f fr ρ= .ok (es,ρ1):=by unfold kZ;rw[ha,Res.bind_ok,hd,aJ,Res.bind_ok,a,aJ,Res.bind_ok]
theorem pO (b:fe ρ= .ok (pv,ρ1)) (a:g pv ρ1= .ok Z) (hn:Z=ρ3):cL fe g ρ= .ok (.nx ρ3):=by unfold cL;rw[b,Res.bind_ok];dsimp only;rw[a,Res.bind_ok,hn]
theorem u6 (a:fe ρ= .ok (pv,ρ1)):jV fe ρ= .ok (.nx ρ1):=by unfold jV;rw[a,Res.bind_ok]
theorem tH (b:fe ρ= .ok (pv,ρ1)) (a:C1 ρ1 pv=lD rv):dQ fe ρ= .ok (.rt rv):=by unfold dQ;rw[b,Res.bind_ok];dsimp only;rw[a,aJ,Res.bind_ok]
theorem B3 (e:gt (.fz d) ρ= .ok ρ1) (b:ft ρ1= .ok (QJ,Z)) (g:fe Z= .ok (pv,ρ3)) (a:wO ρ3 pv=lD (x,ρ4)) (f:cT ρ4=ρ5):j7 gt ft fe d ρ= .ok (lD x,ρ5):=by unfold j7;rw[e,Res.bind_ok,b,Res.bind_ok,if_pos rfl,g,Res.bind_ok,a,aJ,Res.bind_ok,f]
theorem Md (b:gt (.fz d) ρ= .ok ρ1) (a:ft ρ1= .ok (QQ,Z)) (e:cT Z=ρ5):j7 gt ft fe d ρ= .ok (Ld,ρ5):=by unfold j7;rw[b,Res.bind_ok,a,Res.bind_ok,if_neg Q8,e]
end
end L3
namespace PySem
open Sem (wp)
open Builtin
open AutoSeq1 (wpAny_loadPart')
theorem ng:fillsNumberSlot (.type "tuple") "mul"=pure QQ:=
 fillsNumberSlot_seq F.slot_tuple_mul.lookup (by left) F.slot_tuple_rmul.lookup (by left)
theorem vx:seqRepeat? (.type "tuple")=pure (lD (.builtin "tuple.__mul__")):=by unfold seqRepeat?;rw[seqSlot_of (name:= "__mul__") F.slot_tuple_mul.lookup (by left),seqSlot_of (name:= "__rmul__") F.slot_tuple_rmul.lookup (by left)];rfl
theorem qY (a:Int) (t:Tok) (l:QN) (items:Array QH) (n:Nat) (WH:Option QN) (e:Array (Option QH)):
  Meets (Builtin.«int.__rmul__» ⟨[.int a t,.ref l],[]⟩) (fun _ R s=>s.heap.get? l=lD {cls:= .type "tuple",dict:=WH,data:= .seq items n,slots:=e}/\R (.ok (.ret QH.notImplemented)) s):=
 .of_wp fun b w A R s h=>by obtain⟨j,g,d,f,i⟩:=s;obtain⟨m,h⟩:=h;wp_walk;exact⟨_,rfl,h⟩
theorem wg (l:QN) (items:Array QH) (n:Nat) (WH:Option QN) (b:Array (Option QH)) (u:Tok):
  Meets (Builtin.«tuple.__mul__» ⟨[.ref l,.int 1 u],[]⟩) (fun _ R s=>s.heap.get? l=lD {cls:= .type "tuple",dict:=WH,data:= .seq items n,slots:=b}/\R (.ok (.ret (QH.ref l))) s):=
 .of_wp fun a w A R s h=>by
  obtain⟨i,g,d,e,f⟩:=s;obtain⟨j,h⟩:=h
  wp_walk
  exact⟨_,rfl,h⟩
theorem wH (l:QN) (items:Array QH) (n:Nat) (WH:Option QN) (i:Array (Option QH)) (x:Int) (u:Tok) (I:2<=x) (q:x<=1000) (f:items.isEmpty=QQ) (hz:items.size<=1000):
  Meets (Builtin.«tuple.__mul__» ⟨[.ref l,.int x u],[]⟩) (fun _ R s=>s.heap.get? l=lD {cls:= .type "tuple",dict:=WH,data:= .seq items n,slots:=i}/\R (.ok (.ret (QH.ref s.heap.objs.size))) {s with heap:=s.heap.push {cls:=QH.type "tuple",data:=Data.seq (VD (fun x1 x2=>x1++x2) #[] (QT x.toNat items))},toks:=s.toks}):=
 .of_wp fun a w A R s h=>by
  obtain⟨G,g,d,E,F⟩:=s;obtain⟨p,h⟩:=h;have C:¬(decide (x< -(2^63))||decide (x≥2^63))=QJ:=by simp;omega
  have B:(x==1)=QQ:=by simp;omega
  have y:decide (x<=0)=QQ:=by simp;omega
  have K:(items.isEmpty||x==1)=QQ:=by rw[f,B];rfl
  have J:(decide (x<=0)||items.isEmpty)=QQ:=by rw[f,y];rfl
  have e:(items.size:Int)*x<=1000000:=by have:(items.size:Int)*x<=1000*1000:=Int.mul_le_mul (by omega) q (by omega) (by omega);omega
  have v:¬(items.size:Int)*x>(2^63 - 1)/8:=by omega
  have t:¬Tuple.tupleTooMany ((items.size:Int)*x)=QJ:=by
   unfold Tuple.tupleTooMany;simp;have:(QX:Nat)=16777216:=by decide
   omega
  wp_walk
  rw[if_neg C]
  wp_walk using wpAny_loadPart' p
  rw[if_neg v];dsimp only;rw[if_neg t];have o:(VD (fun x1 x2=>x1++x2) #[] (QT x.toNat items)).size<=QX:=by
   have r:∀(m:Nat) (b:Array QH),(VD (fun x1 x2=>x1++x2) b (QT m items)).size=b.size+m*items.size:=by
    intro m
    induction m with
    |zero=>intro b;simp
    |succ m j=>intro b;rw[RP,VJ,j,Array.size_append,adm];omega
   rw[r];have H:x.toNat*items.size<=1000*1000:=X8 (by omega) hz;have:(QX:Nat)=16777216:=by decide
   simp;omega
  wp_walk
  exact⟨_,rfl,h⟩
end PySem
namespace L3
open PySem PySem.Spec PyProof.Rows L2
def JS (K:QF):R2:=fun x y H Q=>∃(a:QN) (k:Nat) (xs:List V),x= .ref a/\y= .int (k:Int)/\Vn K H a xs/\xs≠[]/\1<=k/\k<=1000/\xs.length<=1000/\
 (k=1->Q (.ref a) H)/\(2<=k->∀p,H p=Ld->Q (.ref p) (bC H p (.tup (QT k xs).flatten)))
theorem Iv:OpR X (SY .Mult) (JS X.K):=by
 intro i s S H x y v u Q I C B h;obtain⟨a,k,xs,rfl,rfl,J,R,Z,O,M,G,E⟩:=h;cases C;obtain⟨t,rfl⟩:=B;obtain⟨f,r,L,Y⟩:=I.tuple J;obtain⟨⟨cls,dd,o,g⟩,e,m,n,l⟩:=id L;simp only at m l;subst m l;have j:=r.length;refine Zs (by decide) ⟨_,e,rfl⟩ (fun A=>Xp A k t) ng F.fills_int_mul F.slot_int_rmul vx F.slot_int_index.lookup
  (Vp F.slot_int_rmul (Xp s k t) F.entry_int_rmul (F.args_int_rmul_2 _ _) (qY k t a f.toArray n dd g) ⟨e,rfl,⟨_,e,rfl⟩,?_⟩)
 by_cases N:k=1
 .subst N;exact Vp F.slot_tuple_mul ⟨_,e,rfl⟩ F.entry_tuple_mul (F.args_tuple_mul_2 _ _) (wg a f.toArray n dd g t) ⟨e,⟨.ref a,H,I,rfl,G rfl⟩⟩
 .refine Vp F.slot_tuple_mul ⟨_,e,rfl⟩ F.entry_tuple_mul (F.args_tuple_mul_2 _ _) (wH a f.toArray n dd g k t (by omega) (by omega) ?_ (by rw[QZ];omega)) ⟨e,?_⟩
  .cases f with
   |nil=>cases r;exact absurd rfl R
   |cons y T=>rfl
  .have P:VD (fun w p=>w++p) #[] (QT ((k:Nat):Int).toNat f.toArray)=(QT k f).flatten.toArray:=by
    have:=nU f k [];rw[XI] at this;rw[RY];exact this
   rw[P];refine⟨.ref s.heap.objs.size,_,I.laid (fun b U q=>Heap.get?_push_of_some _ q) (QU _) ?_,rfl,E (by omega) _ (I.Sh.fresh (QU _))⟩;refine⟨?_,_,r.rep k,Xj.new _ _⟩;rw[Bu];exact RA (X8 O M) (by decide)
def KG (K:QF):R2:=fun x y H Q=>E6 K x y H Q\/JS K x y H Q
theorem vC:OpR X (SY .Mult) (KG X.K):=OpR.or Ji Iv
def gl:D->D->Option RV
 | .tuple xs,.int k=>if xs≠[]/\1<=k/\k<=1000/\xs.length<=1000 then lD (.fz (.tuple (QT k.toNat xs).flatten)) else Ld
 |d,e=>Cf d e
theorem rC {K:QF}:k8 K (KG K) gl:=by
 intro O H x y dx l rv Q n g f e q;unfold gl at e;split at e
 .rename_i ds k
  split at e
  .rename_i h
   cases e;cases f;obtain⟨a,xs,rfl,i,b⟩:=EI g;obtain⟨m,rfl⟩:∃m:Nat,k=(m:Int):=⟨k.toNat,by omega⟩;rw[RY] at q;refine .inr ⟨a,m,xs,rfl,rfl,i.1,fun z=>h.1 (b.ne.mp z),by omega,by omega,by rw[b.length];exact h.2.2.2,fun e=> ?_,fun _=>Fin.aaK (b.flat m) n q⟩;subst e;have j:(QT 1 ds).flatten=ds:=by simp
   rw[j] at q;exact q.at (.tup i b)
  .cases e
 .exact .inl (Jg O H x y dx l rv Q n g f e q)
end L3
namespace PySem
open Sem (wp)
open Builtin Builtin.Str
def itAt:Bool->Heap->QN->QN->Nat->Prop
 |true,h,it,a,i=>h.IsTupleIter it a i
 |false,h,it,a,i=>h.IsListIter it a i
def sqAt:Bool->Heap->QN->Array QH->Prop
 |true,h,a,xs=>h.IsTuple a xs
 |false,h,a,xs=>h.IsList a xs
def wF:Bool->String
 |true=> "tuple_iterator"
 |false=> "list_iterator"
theorem itAt.ext (x:itAt b h it a i) (e:Heap.ExtBut c h h') (n:it≠c):itAt b h' it a i:=by
 cases b with
 |true=>exact Heap.IsTupleIter.extBut x e n
 |false=>exact Heap.IsListIter.extBut x e n
theorem itAt.to (x:itAt b h it a i) (e:∀o,h.get? it=lD o->h'.get? it=lD o):itAt b h' it a i:=by
 cases b with
 |true=>exact Heap.IsTupleIter.at x e
 |false=>exact Heap.IsListIter.at x e
theorem itAt.live (x:itAt b h it a i):∃o,h.get? it=lD o/\∀v,o.data≠ .cell v:=by
 cases b with
 |true=>obtain⟨o,e,_,d⟩:=(show h.IsTupleIter it a i from x);exact⟨o,e,fun v z=>by rw[d] at z;cases z⟩
 |false=>obtain⟨o,e,_,d⟩:=(show h.IsListIter it a i from x);exact⟨o,e,fun v z=>by rw[d] at z;cases z⟩
theorem sqAt.ext (x:sqAt b h a xs) (e:Heap.ExtBut c h h') (n:a≠c):sqAt b h' a xs:=by
 cases b with
 |true=>exact Heap.IsTuple.extBut x e n
 |false=>exact Heap.IsList.extBut x e n
theorem sqAt.psh (x:sqAt b h a xs) (o:Obj):sqAt b (h.push o) a xs:=by
 cases b with
 |true=>exact Heap.IsTuple.push x o
 |false=>exact Heap.IsList.push x o
theorem sqAt.lt (x:sqAt b h a xs):a<h.objs.size:=by
 cases b with
 |true=>obtain⟨o,e,_⟩:=(show h.IsTuple a xs from x);exact Heap.lt_size e
 |false=>obtain⟨o,e,_⟩:=(show h.IsList a xs from x);exact Heap.lt_size e
section
variable {prog:Rf} {w:RB} {A:Rv} {E:QH->QP->Prop} {s:QP}
theorem uM (hi:itAt b s.heap it l i) (e:sqAt b s.heap l xs) (a:xs[i]? =lD x)
  (q:∀h',itAt b h' it l (i+1)->Heap.SameBut it s.heap h'->Q x {s with heap:=h'}):wpAny (model prog w) A (SmallTypes.nextOf (.ref it)) Q E s:=by
 cases b with
 |true=>exact l6 hi e a q
 |false=>exact wpAny_nextOf_list_item hi e a q
theorem Ba (g:A.handled=Ld) (hi:itAt b s.heap it l i) (f:sqAt b s.heap l xs) (a:xs[i]? =Ld)
  (q:∀h' e,Heap.ExtBut it s.heap h'->(∃o,h'.get? e=lD o/\o.cls= .type "StopIteration")->E (.ref e) {s with heap:=h'}):wpAny (model prog w) A (SmallTypes.nextOf (.ref it)) Q E s:=by
 cases b with
 |true=>exact ny g hi f a q
 |false=>exact wpAny_nextOf_list_end g hi f a q
theorem Ay (a:sqAt b s.heap l xs)
  (q:Q (.ref s.heap.objs.size) {s with heap:=s.heap.push {cls:= .type (wF b),data:= .fields #[.ref l,.int 0 0]}}):wpAny (model prog w) A (pyIter (.ref l)) Q E s:=by
 cases b with
 |true=>exact WA a q
 |false=>exact U6 a q
theorem CS {Q:QH->QP->Prop} (D:XO z TI TO i1 i2 l1 l2) (hz:YY s.heap z TI TO .none)
  (hTI:IsPair s.heap TI (.ref i1) (.ref i2)) (hTO:IsPair s.heap TO a b) (h1:itAt b1 s.heap i1 l1 n) (h2:itAt b2 s.heap i2 l2 n) (YD:sqAt b1 s.heap l1 xs) (ZO:sqAt b2 s.heap l2 ys) (hx:xs[n]? =lD x) (hy:ys[n]? =lD y)
  (q:∀h',YY h' z TI TO (rawInt s.heap.objs.size)->IsPair h' TO x y->itAt b1 h' i1 l1 (n+1)->itAt b2 h' i2 l2 (n+1)->IsPair h' s.heap.objs.size x y->h'.objs.size=s.heap.objs.size+1->
   (∀c o,c≠z->c≠TO->c≠i1->c≠i2->s.heap.get? c=lD o->h'.get? c=lD o)->Q (.ref s.heap.objs.size) {s with heap:=h'}):
  wpAny (model prog w) A (Builtin.«zip.__next__» ⟨[.ref z],[]⟩) (fun fin s'=>∃v,fin= .done (.ret v)/\Q v s') E s:=by
 show wpAny _ _ (field (.ref z) 2>>=_) _ _ _;refine QG (RU hz rfl rfl ?_);show wpAny _ _ (field (.ref z) 3>>=_) _ _ _;refine QG (RU hz rfl rfl ?_);refine QG (Sk hTI rfl ?_);show wpAny _ _ (SmallTypes.ownedTupleIsFree (.ref z)>>=_) _ _ _;refine QG ?_;unfold SmallTypes.ownedTupleIsFree;refine QG (RU hz rfl rfl (QR ?_));simp only[if_true];refine QG (Wh ?_);refine QG (RU hz rfl rfl ?_);refine QG (Tv hz (by simp) fun k₁ t g=> ?_);have abd:=t;clear t;refine QG ?_;simp only[aaS,aa8,VO,X1];refine QG (QG (Xl ?_));show wpAny _ _ (SmallTypes.nextOf (.ref i1)>>=_) _ _ _;refine QG (uM (h1.ext g.extBut D.i1z) (YD.ext g.extBut D.l1z) hx fun k₂ Y i=>QR ?_);have J:=i.extBut _ _ D.TOi1 (g.extBut _ _ D.TOz hTO);refine QG (Sk J rfl ?_);refine QG (WY J fun k₃ I h=> ?_);have M:=I;clear I;refine QG (TZ (QR ?_));refine QG (QG (Xl ?_));show wpAny _ _ (SmallTypes.nextOf (.ref i2)>>=_) _ _ _;refine QG (uM (((h2.ext g.extBut D.i2z).ext i.extBut D.i12.symm).ext h.extBut D.TOi2.symm) (((ZO.ext g.extBut D.l2z).ext i.extBut D.l2i1).ext h.extBut D.l2TO) hy fun k₄ X l=>QR ?_);have H:=l.extBut _ _ D.TOi2 M;refine QG (Sk H rfl ?_);refine QG (WY H fun f G j=> ?_);have p:IsPair f TO x y:=G;clear G;refine QG (TZ (QR (QR ?_)));refine QG (Sk p rfl ?_);refine QG (wpAny_newTuple ?_);have U:f.objs.size=s.heap.objs.size:=by rw[j.1,l.1,h.1,i.1,g.1]
 have C:=j.extBut _ _ D.TOz.symm (l.extBut _ _ D.i2z.symm (h.extBut _ _ D.TOz.symm (i.extBut _ _ D.i1z.symm abd)));have kp:∀c o,c≠z->c≠TO->c≠i1->c≠i2->s.heap.get? c=lD o->f.get? c=lD o:=fun c o N Z c3 c4 e=>
  j.extBut _ _ Z (l.extBut _ _ c4 (h.extBut _ _ Z (i.extBut _ _ c3 (g.extBut _ _ N e))))
 have T:=((Y.ext h.extBut D.TOi1.symm).ext l.extBut D.i12).ext j.extBut D.TOi1.symm;have S:=X.ext j.extBut D.TOi2.symm;have U8:=Heap.lt_size C;show wpAny _ _ (SmallTypes.ownedTupleHandOut (.ref z) (.ref f.objs.size)>>=_) _ _ _;refine QG ?_;unfold SmallTypes.ownedTupleHandOut;have R:YY (f.push {cls:= .type "tuple",data:= .seq #[x,y]}) z TI TO .ellipsis:=Heap.get?_push_of_some _ C;refine QG (Tv R (by simp) fun k₇ P B=> ?_);have L:=P;refine Tv L (by simp) fun r O u=> ?_;have m:=O;have up:∀c o,c≠z->f.get? c=lD o->r.get? c=lD o:=fun c o N e=>u.extBut _ _ N (B.extBut _ _ N (Heap.get?_push_of_some _ e));have F:=u.extBut _ _ (Sa U8) (B.extBut _ _ (Sa U8) (Heap.get?_push_size _ rfl));have K:r.objs.size=f.objs.size+1:=by rw[u.1,B.1,Heap.size_push]
 rw[U] at m F K;refine QR ⟨_,rfl,?_⟩;rw[U];exact q r m (up _ _ D.TOz p) (T.to fun o e=>up _ o D.i1z e) (S.to fun o e=>up _ o D.i2z e) F K fun c o N Z c3 c4 e=>up c o N (kp c o N Z c3 c4 e)
theorem DN (R:A.handled=Ld) (D:XO z TI TO i1 i2 l1 l2) (hz:YY s.heap z TI TO .none)
  (K:IsPair s.heap TI (.ref i1) (.ref i2)) (J:IsPair s.heap TO a b) (S:itAt b1 s.heap i1 l1 n) (Y:itAt b2 s.heap i2 l2 n) (U:sqAt b1 s.heap l1 xs) (ZO:sqAt b2 s.heap l2 ys) (M:xs[n]? =Ld\/ys[n]? =Ld)
  (q:∀h' e,(∀c o,c≠z->c≠TO->c≠i1->c≠i2->s.heap.get? c=lD o->h'.get? c=lD o)->(∃o,h'.get? e=lD o/\o.cls= .type "StopIteration")->E (.ref e) {s with heap:=h'}):
  wpAny (model prog w) A (Builtin.«zip.__next__» ⟨[.ref z],[]⟩) Q E s:=by
 show wpAny _ _ (field (.ref z) 2>>=_) _ _ _;refine QG (RU hz rfl rfl ?_);show wpAny _ _ (field (.ref z) 3>>=_) _ _ _;refine QG (RU hz rfl rfl ?_);refine QG (Sk K rfl ?_);show wpAny _ _ (SmallTypes.ownedTupleIsFree (.ref z)>>=_) _ _ _;refine QG ?_;unfold SmallTypes.ownedTupleIsFree;refine QG (RU hz rfl rfl (QR ?_));simp only[if_true];refine QG (Wh ?_);refine QG (RU hz rfl rfl ?_);refine QG (Tv hz (by simp) fun P y f=> ?_);have G:=y;refine QG ?_;simp only[aaS,aa8,VO,X1];refine QG (QG (Xl ?_));show wpAny _ _ (SmallTypes.nextOf (.ref i1)>>=_) _ _ _;cases hx:xs[n]? with
 |none=>
  refine QG (Ba R (S.ext f.extBut D.i1z) (U.ext f.extBut D.l1z) hx fun C e g I=> ?_);obtain⟨H,i,j⟩:=I;have m:=g _ _ D.i1z.symm G;have ne:e≠z:=fun t=>by subst t;rw[m] at i;cases i;simp at j
  exact Tv m (by simp) fun r _ h=>q r e (fun c o F _ L _ t=>h.extBut _ _ F (g _ _ L (f.extBut _ _ F t))) ⟨H,h.extBut _ _ ne i,j⟩
 |some x=>
  have X:ys[n]? =Ld:=by
   rcases M with t|t
   .rw[hx] at t;cases t
   .exact t
  refine QG (uM (S.ext f.extBut D.i1z) (U.ext f.extBut D.l1z) hx fun C T g=>QR ?_);have p:=g.extBut _ _ D.TOi1 (f.extBut _ _ D.TOz J);refine QG (Sk p rfl ?_);refine QG (WY p fun r N h=> ?_);refine QG (TZ (QR ?_));refine QG (QG (Xl ?_));show wpAny _ _ (SmallTypes.nextOf (.ref i2)>>=_) _ _ _;refine QG (Ba R (((Y.ext f.extBut D.i2z).ext g.extBut D.i12.symm).ext h.extBut D.TOi2.symm) (((ZO.ext f.extBut D.l2z).ext g.extBut D.l2i1).ext h.extBut D.l2TO) X fun O e v I=> ?_);obtain⟨H,i,j⟩:=I;have l:=v _ _ D.i2z.symm (h.extBut _ _ D.TOz.symm (g.extBut _ _ D.i1z.symm G));have ne:e≠z:=fun t=>by subst t;rw[l] at i;cases i;simp at j
  exact Tv l (by simp) fun B _ u=>q B e (fun c o F c2 L Z t=>u.extBut _ _ F (v _ _ Z (h.extBut _ _ c2 (g.extBut _ _ L (f.extBut _ _ F t))))) ⟨H,u.extBut _ _ ne i,j⟩
end
section
variable {prog:Rf} {w:RB} {A:Rv} {E:QH->QP->Prop} {s:QP}
theorem wq (D:XO z TI TO i1 i2 l1 l2) (hz:YY s.heap z TI TO .none)
  (f:IsPair s.heap TI (.ref i1) (.ref i2)) (e:IsPair s.heap TO a b) (l:itAt b1 s.heap i1 l1 n) (j:itAt b2 s.heap i2 l2 n) (G:sqAt b1 s.heap l1 xs) (C:sqAt b2 s.heap l2 ys) (i:xs[n]? =lD x) (h:ys[n]? =lD y)
  (q:∀h',YY h' z TI TO (rawInt s.heap.objs.size)->IsPair h' TO x y->itAt b1 h' i1 l1 (n+1)->itAt b2 h' i2 l2 (n+1)->IsPair h' s.heap.objs.size x y->h'.objs.size=s.heap.objs.size+1->
   (∀c o,c≠z->c≠TO->c≠i1->c≠i2->s.heap.get? c=lD o->h'.get? c=lD o)->Q (lD (.ref s.heap.objs.size)) {s with heap:=h'}):
  wpAny (model prog w) A (pyNext (.ref z)) Q E s:=by
 have g:s.TypeIs (.ref z) "zip":=⟨_,hz,rfl⟩;unfold pyNext;refine QG (ahB (SS g F.slot_zip_next ?_));exact S5 F.slot_zip_next g F.entry_zip_next (CS D hz f e l j G C i h fun h' B v u t r p m=>QR (q h' B v u t r p m)) (F.args_zip_next_1 _)
theorem wK (m:A.handled=Ld) (D:XO z TI TO i1 i2 l1 l2) (hz:YY s.heap z TI TO .none)
  (g:IsPair s.heap TI (.ref i1) (.ref i2)) (f:IsPair s.heap TO a b) (u:itAt b1 s.heap i1 l1 n) (t:itAt b2 s.heap i2 l2 n) (y:sqAt b1 s.heap l1 xs) (v:sqAt b2 s.heap l2 ys) (h:xs[n]? =Ld\/ys[n]? =Ld)
  (q:∀h',(∀c o,c≠z->c≠TO->c≠i1->c≠i2->s.heap.get? c=lD o->h'.get? c=lD o)->Q Ld {s with heap:=h'}):wpAny (model prog w) A (pyNext (.ref z)) Q E s:=by
 have i:s.TypeIs (.ref z) "zip":=⟨_,hz,rfl⟩;unfold pyNext;refine QG (ahB (SS i F.slot_zip_next ?_));refine S5 F.slot_zip_next i F.entry_zip_next (DN m D hz g f u t y v h fun h' e l p=> ?_) (F.args_zip_next_1 _);obtain⟨o,j,r⟩:=p;exact QG (V4 ⟨o,j,r⟩ isSubtype_stop (QR (q _ l)))
end
abbrev OZ (h:Heap) (b:Bool) (a:QN):Heap:=h.push {cls:= .type (wF b),data:= .fields #[.ref a,.int 0 0]}
abbrev OL (h:Heap) (f e:Bool) (b a:QN):Heap:=(OZ h f b).push {cls:= .type (wF e),data:= .fields #[.ref a,.int 0 0]}
abbrev N0 (h:Heap) (b f:Bool) (a e:QN):Heap:=(OL h b f a e).push {cls:= .type "tuple",data:= .seq #[.ref h.objs.size,.ref (OZ h b a).objs.size]}
abbrev NK (h:Heap) (f e:Bool) (b a:QN):Heap:=(N0 h f e b a).push {cls:= .type "tuple",data:= .seq #[.none,.none]}
abbrev PH (h:Heap) (f e:Bool) (b a:QN):Heap:=(NK h f e b a).push {cls:= .type "zip",data:= .fields #[.none,.bool QQ,.bool QQ,.ref (OL h f e b a).objs.size,.ref (N0 h f e b a).objs.size]}
theorem qH (e f:Bool) (a b:QN) (xs l:Array QH):
  Meets (Builtin.«zip.__new__» ⟨[.type "zip",.ref a,.ref b],[]⟩) (fun _ R s=>sqAt e s.heap a xs/\sqAt f s.heap b l/\R (.ok (.ret (.ref (NK s.heap e f a b).objs.size))) {s with heap:=PH s.heap e f a b}):=
 .of_wp fun n w A R s h=>by
  obtain⟨p,g,d,m,o⟩:=s;obtain⟨t,r,h⟩:=h;have q:=sub_zip;have j:sqAt e (QP.heap ⟨p,g,d,m,o⟩) a xs:=t;have i:sqAt f (QP.heap ⟨p.push {cls:= .type (wF e),data:= .fields #[.ref a,.int 0 0]},g,d,m,o⟩) b l:=sqAt.psh r _
  wp_walk using Ay j,Ay i
  exact⟨_,rfl,h⟩
section
variable {prog:Rf} {w:RB} {A:Rv} {E:QH->QP->Prop} {s:QP}
theorem DK (e:h.get? it=lD {cls:= .type (wF b),data:= .fields #[.ref l,.int 0 0]}):itAt b h it l 0:=by
 cases b with
 |true=>exact⟨_,e,rfl,rfl⟩
 |false=>exact⟨_,e,rfl,rfl⟩
theorem Cw (y:sqAt b1 s.heap l1 xs) (v:sqAt b2 s.heap l2 ys)
  (q:∀h',YY h' (s.heap.objs.size+4) (s.heap.objs.size+2) (s.heap.objs.size+3) .none->IsPair h' (s.heap.objs.size+2) (.ref s.heap.objs.size) (.ref (s.heap.objs.size+1))->
   IsPair h' (s.heap.objs.size+3) .none .none->itAt b1 h' s.heap.objs.size l1 0->itAt b2 h' (s.heap.objs.size+1) l2 0->(∀c o,s.heap.get? c=lD o->h'.get? c=lD o)->Q (.ref (s.heap.objs.size+4)) {s with heap:=h'}):
  wpAny (model prog w) A (call (.type "zip") [.ref l1,.ref l2]) Q E s:=by
 refine callType_new F.called_zip (by decide) (F.typeCall_zip_2 _ _) (F.newCall_zip_2 _ _) (fun obj=>F.args_object_init_3 obj _ _) F.entry_zip_new (qH b1 b2 l1 l2 xs ys) ⟨y,v,?_⟩;have i:(OZ s.heap b1 l1).objs.size=s.heap.objs.size+1:=Heap.size_push ..;have h:(OL s.heap b1 b2 l1 l2).objs.size=s.heap.objs.size+2:=by rw[Heap.size_push,i]
 have g:(N0 s.heap b1 b2 l1 l2).objs.size=s.heap.objs.size+3:=by rw[Heap.size_push,h]
 have m:(NK s.heap b1 b2 l1 l2).objs.size=s.heap.objs.size+4:=by rw[Heap.size_push,g]
 have t:∀c o,s.heap.get? c=lD o->(OZ s.heap b1 l1).get? c=lD o:=fun c o e=>Heap.get?_push_of_some _ e;have l:∀c o,(OZ s.heap b1 l1).get? c=lD o->(OL s.heap b1 b2 l1 l2).get? c=lD o:=fun c o e=>Heap.get?_push_of_some _ e;have f:∀c o,(OL s.heap b1 b2 l1 l2).get? c=lD o->(N0 s.heap b1 b2 l1 l2).get? c=lD o:=fun c o e=>Heap.get?_push_of_some _ e;have b:∀c o,(N0 s.heap b1 b2 l1 l2).get? c=lD o->(NK s.heap b1 b2 l1 l2).get? c=lD o:=fun c o e=>Heap.get?_push_of_some _ e;have a:∀c o,(NK s.heap b1 b2 l1 l2).get? c=lD o->(PH s.heap b1 b2 l1 l2).get? c=lD o:=fun c o e=>Heap.get?_push_of_some _ e;have j:(PH s.heap b1 b2 l1 l2).get? (NK s.heap b1 b2 l1 l2).objs.size=lD _:=Heap.get?_push_size _ rfl;have n:=a _ _ (Heap.get?_push_size _ rfl);have p:=a _ _ (b _ _ (Heap.get?_push_size _ rfl));have r:=a _ _ (b _ _ (f _ _ (Heap.get?_push_size _ rfl)));have u:=a _ _ (b _ _ (f _ _ (l _ _ (Heap.get?_push_size _ rfl))));rw[h,g,m] at j;rw[i,h] at p;rw[g] at n;rw[i] at r;rw[m];exact⟨⟨_,j,rfl⟩,q _ j p n (DK u) (DK r) fun c o e=>a _ _ (b _ _ (f _ _ (l _ _ (t _ _ e))))⟩
end
end PySem
namespace L3
open PySem PySem.Spec PyProof.Rows L2
def C5 (b:Bool) (K:QF) (H:Hp) (a:QN) (xs:List V):Prop:=match b with
 |true=>Vn K H a xs
 |false=>Ve K H a xs
def P8 (K:QF) (e b:Bool) (a c:QN):It:=
 ⟨fun i H=>∃xs ys x y,C5 e K H a xs/\C5 b K H c ys/\xs[i]? =lD x/\ys[i]? =lD y,
  fun i H v f=>∃p x y,H p=Ld/\v= .ref p/\(∀xs,C5 e K H a xs->xs[i]? =lD x)/\(∀ys,C5 b K H c ys->ys[i]? =lD y)/\f=bC H p (.tup [x,y]),
  fun i H=>∃xs ys,C5 e K H a xs/\C5 b K H c ys/\(xs.length<=i\/ys.length<=i)⟩
theorem Iz (I:Inv X pins σ H s) (j:Ve X.K H a xs) (i:Ve X.K H a ys):xs=ys:=by
 obtain⟨f,h,⟨o,k,l,_,n,p⟩,_⟩:=I.list j;obtain⟨e,g,⟨r,u,b,_,t,m⟩,_⟩:=I.list i;rw[l] at b;cases b;have:f=e:=by
  have q:f.toArray=e.toArray:=by injection p.symm.trans m
  simpa using q
 subst this;exact h.inj g
theorem mV (I:Inv X pins σ H s) (h:C5 b X.K H a xs):∃RG,Vals xs RG/\sqAt b s.heap a RG.toArray:=by
 cases b with
 |true=>obtain⟨RG,rv,p,e⟩:=I.tuple h;exact⟨RG,rv,p⟩
 |false=>obtain⟨RG,rv,p,e⟩:=I.list h;exact⟨RG,rv,p.isList⟩
theorem Ao (I:Inv X pins σ H s) (f:C5 b X.K H a xs) (e:C5 b X.K H a ys):xs=ys:=by
 cases b with
 |true=>exact JH I f e
 |false=>exact Iz I f e
theorem CV {ch:List QN} (I:Inv X pins σ H s) (g:∀b∈ch,mn X pins H b)
  (k:∀b u,b∉ch->s.heap.get? b=lD u->h'.get? b=lD u):Inv X pins σ H {s with heap:=h',toks:=t'}:=by
 have f:∀b u,H b=lD u->b∉ch:=fun b u e z=>by rw[(g b z).1] at e;cases e
 refine I.step (fun b j=> ?_) (fun b u _ _ a e _=>k b u a e) (fun b u _ _ a e _=>⟨u.slots,k b u a e⟩) (fun _ _ _ _ n=>n)
  (fun b u a e=>⟨u,k b u a e⟩) (fun _ _ e=>e) (fun _ _ _ e=>e) (fun b ps e=>⟨#[],by rw[e];simp⟩) (fun m hm=> ?_) (fun b u e=> ?_) I.bare
 .obtain⟨_,t,_,p,o,l⟩:=g b j;exact⟨p,t,o,l⟩
 .obtain⟨h,w,y,i,r⟩:=hm;exact⟨h,w,y,k _ h (fun z=>(g _ z).2.1 rfl) i,r⟩
 .refine(I.Sh b u e).V7 (fun c v a q=>k c v ?_ q) (fun _ q=>q) fun _ _ q=>q
  rcases a with z|z
  .rw[z];exact f b u e
  .exact f c _ z
theorem Du {K:QF} {kk} (b1 b2:Bool) (z TI TO B A U T:QN) (D:XO z TI TO B A U T):
  Turn P w K (.Tuple elts kk tp) (P8 K b1 b2 U T) [z,TI,TO,B,A] z (fun i h=>YY h z TI TO .none/\IsPair h TI (.ref B) (.ref A)/\(∃a b,IsPair h TO a b)/\itAt b1 h B U i/\itAt b2 h A T i) where
 mem:=by simp
 obj:=fun i h f b e=>by
  obtain⟨l,g,⟨a,c,m⟩,r,p⟩:=f;simp only[Rc,Sm,or_false] at e;rcases e with rfl|rfl|rfl|rfl|rfl
  .exact⟨_,l,fun v q=>by cases(show Data.fields _=Data.cell v from q)⟩
  .exact⟨_,g,fun v q=>by cases(show Data.seq _ _=Data.cell v from q)⟩
  .exact⟨_,m,fun v q=>by cases(show Data.seq _ _=Data.cell v from q)⟩
  .exact r.live
  .exact p.live
 keep:=fun i h h' f k=>by obtain⟨l,g,⟨a,c,m⟩,r,p⟩:=f;exact⟨k z (by simp) _ l,k TI (by simp) _ g,⟨a,c,k TO (by simp) _ m⟩,r.to fun o q=>k B (by simp) o q,p.to fun o q=>k A (by simp) o q⟩
 item:=by
  intro X hP hw hK hc i j s σ H E I M f hg;subst hP hw hK;obtain⟨l,g,⟨a,c,m⟩,r,p⟩:=f;obtain⟨xs,ys,x,y,J,G,hx,hy⟩:=hg;obtain⟨RG,Q,S⟩:=mV I J;obtain⟨F,O,R⟩:=mV I G;obtain⟨u,hu,ru⟩:=Q.get hx;obtain⟨t,ht,rt⟩:=O.get hy;refine wq D l g m r p S R (by simpa using hu) (by simpa using ht) fun k z1 o1 g1 g2 pr sz L=>⟨_,rfl,?_⟩;refine wpAny_letOwnedTupleGo_zip z1 fun C z2 e2=> ?_;have Y:=Heap.lt_size l;have hIl:=Heap.lt_size g;have hOl:=Heap.lt_size m;have h1l:B<s.heap.objs.size:=by obtain⟨_,q,_⟩:=r.live;exact Heap.lt_size q
  have h2l:A<s.heap.objs.size:=by obtain⟨_,q,_⟩:=p.live;exact Heap.lt_size q
  have hn:=I.Sh.fresh (QU _);have kk:∀b o,b∉[z,TI,TO,B,A]->s.heap.get? b=lD o->C.get? b=lD o:=fun b o e q=>by simp only[Rc,Sm,or_false,not_or] at e;exact(e2.2 b e.1).trans (L b o e.1 e.2.2.1 e.2.2.2.1 e.2.2.2.2 q)
  have hT2:=(e2.2 _ (Sa Y)).trans pr
  have I2:Inv X j σ (bC H s.heap.objs.size (.tup [x,y])) {s with heap:=C}:=
   I.Y8 M kk (QU _) ⟨by show 2<=QX;decide,[u,t],.cons ru (.cons rt .nil),⟨_,hT2,⟨rfl,_,rfl⟩,rfl⟩⟩
  have N:∀b o,b≠z->k.get? b=lD o->C.get? b=lD o:=fun b o n q=>(e2.2 b n).trans q;refine⟨.ref s.heap.objs.size,_,I2,rfl,⟨_,x,y,hn,rfl,fun zs hs=>by rw[Ao I hs J];exact hx,fun zs hs=>by rw[Ao I hs G];exact hy,rfl⟩,
   ⟨z2,N _ _ D.TIz (L _ _ D.TIz D.TITO D.TIi1 D.TIi2 g),⟨_,_,N _ _ D.TOz o1⟩,g1.to fun o q=>N _ _ D.i1z q,g2.to fun o q=>N _ _ D.i2z q⟩,fun b e=> ?_⟩
  have hb2:b<s.heap.objs.size:=by simp only[Rc,Sm,or_false] at e;rcases e with rfl|rfl|rfl|rfl|rfl<;>assumption
  rw[az (Rg hb2)];exact(M b e).1
 done:=by
  intro X hP hw hK hc i j s σ H E I M f hg;subst hP hw hK;obtain⟨l,g,⟨a,c,m⟩,r,p⟩:=f;obtain⟨xs,ys,J,G,Z⟩:=hg;obtain⟨RG,Q,S⟩:=mV I J;obtain⟨F,O,R⟩:=mV I G;have YD:=Q.length;have ZO:=O.length;have hd:RG.toArray[i]? =Ld\/F.toArray[i]? =Ld:=by
   rcases Z with q|q
   .exact .inl (by simp;omega)
   .exact .inr (by simp;omega)
  refine wK (I.ok.hd hc) D l g m r p S R hd fun k L=>⟨rfl,?_⟩;exact CV I M fun b o e q=>by simp only[Rc,Sm,or_false,not_or] at e;exact L b o e.1 e.2.2.1 e.2.2.2.1 e.2.2.2.2 q
 self:=fun _ _ _ _ _ f h=>ado f.1 h
theorem CD (n b a:Nat) (f:b<n) (e:a<n):XO (n+4) (n+2) (n+3) n (n+1) b a:=by constructor<;>(show(_:Nat)≠_;omega)
def J4 (K:QF) (f:TA):TI:=fun e H R=>f e H fun vs b=>∃a c b1 b2,vs=[.ref a,.ref c]/\(∃xs,C5 b1 K b a xs)/\(∃ys,C5 b2 K b c ys)/\R (P8 K b1 b2 a c) b
theorem D7:Se "zip"=lD (.type "zip"):=by left
theorem Np {kk} (S:Gl X "zip") (hm:X.mg "zip"=Ld) (ha:PA X [l,m] ta) (O:Rh [l,m] X.env=(QQ,eval l X.env)::Rh [m] X.env:=by rfl) (P:(backTo pos (Rh [m] X.env)).any (·.1)=QQ:=by rfl):
  PI X (.Tuple elts kk tp) (.Call (.Name "zip" p) [l,m] [] pos) (J4 X.K ta):=by
 intro f s y H R I h;refine Call_ (lB I S hm D7 (SG (cA (ha pos f s y H _ I h) fun us g ⟨vs,w,j,G,J⟩=> ?_) O P));obtain⟨a,c,Z,Y,e,⟨xs,E⟩,⟨ys,C⟩,q⟩:=J;subst e;obtain⟨u,t,rfl,F,rt⟩:=Dn G;cases F;cases rt;obtain⟨RG,rx,r⟩:=mV j E;obtain⟨N,ry,o⟩:=mV j C;have U:∀b∈[g.heap.objs.size+4,g.heap.objs.size+2,g.heap.objs.size+3,g.heap.objs.size,g.heap.objs.size+1],mn X f w b:=fun b v=>by
  have i:g.heap.objs.size<=b:=by simp only[Rc,Sm,or_false] at v;have T:=v;omega
  exact j.YH i (j.Sh.fresh i)
 refine Cw r o fun h1 n M L B A Q=> ?_;refine ado n ?_;exact⟨g.heap.objs.size+4,_,_,_,w,rfl,j.kept Q,Du Z Y _ _ _ _ _ a c (CD _ _ _ r.lt o.lt),⟨n,M,⟨_,_,L⟩,B,A⟩,U,q⟩
def Oh:RM->Bool
 | .Starred _ _=>QJ
 |_=>QQ
theorem sL (e:RM) (es:List RM) (env:Env) (h:Oh e=QQ):Rh (e::es) env=(QQ,eval e env)::Rh es env:=by cases e<;>first|rfl|cases h
def lH:List D->List D->List D
 |x::r,y::q=> .tuple [x,y]::lH r q
 |_,_=>[]
theorem xu:∀(xs a:List D),(lH xs a).length=min xs.length a.length
 |[],_=>by simp[lH]
 |_::_,[]=>by simp[lH]
 |_::r,_::q=>by simp only[lH,Q5,xu r q];omega
theorem vU:∀(xs a:List D) (i:Nat),(lH xs a)[i]? =(xs[i]?).bind fun x=>(a[i]?).map fun y=> .tuple [x,y]
 |[],_,_=>by simp[lH]
 |x::r,[],i=>by cases i<;>simp[lH]
 |x::r,y::q,0=>by simp[lH]
 |x::r,y::q,i+1=>by simp only[lH,Yx];exact vU r q i
section
variable {K:QF} {E:XK} {B O Z:cb} {H0 H H':Hp} {σ:L2.St} {ρ ρ':aU} {v:V}
def YI (b:Bool) (O:cb) (K:QF) (H:Hp) (a:QN) (xs:List V):Prop:=match b with
 |true=>VZ O K H a xs
 |false=>Xk O K H a xs
theorem YI.ev (h:YI b O K H a xs) (e:Ev O H Z H'):YI b Z K H' a xs:=by
 cases b with
 |true=>exact VZ.ev h e
 |false=>exact Xk.ev h e
theorem YI.at (h:YI b O K H a xs):C5 b K H a xs:=by
 cases b with
 |true=>exact(show VZ O K H a xs from h).1
 |false=>exact(show Xk O K H a xs from h).1.sq
theorem LO (h:YI b1 O K H a xs) (hd:SE O K H xs ds) (g:YI b2 O K H c ys) (F:SE O K H ys es):yE K (P8 K b1 b2 a c) O H (lH ds es):=by
 intro Z H' e n;have j:=h.ev e;have f:=hd.ev e;have m:=g.ev e;have l:=F.ev e;rw[xu];refine⟨fun i hi=> ?_,⟨xs,ys,j.at,m.at,?_⟩⟩
 .have w:i<ds.length:=by omega
  have u:i<es.length:=by omega
  obtain⟨x,C,dx⟩:=f.get (QY w);obtain⟨y,A,G⟩:=l.get (QY u);refine⟨⟨xs,ys,x,y,j.at,m.at,C,A⟩,?_⟩;rintro t I ⟨p,L,J,b,rfl,Za,hy',rfl⟩;have r:=Za xs j.at;have o:=hy' ys m.at;rw[C] at r;rw[A] at o;cases r;cases o;refine⟨ce b _,.tuple [ds[i],es[i]],?_,.tup ⟨Vn.of aH,fun q=>absurd q (n p b)⟩ (.cons (dx.ev (Ev.grow (ce b _))) (.cons (G.ev (Ev.grow (ce b _))) .nil))⟩;rw[vU,QY w,QY u];rfl
 .rw[hd.length,F.length];omega
theorem Ko (h:DV O K H v d) (q:fE d=lD ds):∃b a xs,v= .ref a/\YI b O K H a xs/\SE O K H xs ds:=by
 cases h with
 |tup h e=>cases q;exact⟨QJ,_,_,rfl,h,e⟩
 |lst h e=>cases q;exact⟨QQ,_,_,rfl,h,e⟩
 |_=>cases q
def Gv (fa:FA):FI:=fun ρ=>(fa ρ).bind fun a=>(Res.RO (oy a.2 a.1)).bind fun b=>match b.1 with
 |[d,e]=>(Res.RO (fE d)).bind fun ds=>(Res.RO (fE e)).bind fun f=> .ok (lH ds f,b.2)
 |_=> .bad
theorem MR (h:AO K E ta fa):IO K E (J4 K ta) (Gv fa):=by
 intro B H0 O σ H ρ P R w;refine h B H0 O σ H ρ _ R (w.bind.imp fun a b Q vs L r I m=> ?_);obtain⟨⟨ds,i⟩,q,b⟩:=b.RO;obtain⟨J,p,R2,t⟩:=pL I m q;dsimp only at b;cases t with
 |nil=>exact b.elim
 |cons o e=>
  cases e with
  |nil=>exact b.elim
  |cons e n=>
   cases n with
   |cons _ _=>exact b.elim
   |nil=>obtain⟨N,l,b⟩:=WR.RO b;obtain⟨fs,j,b⟩:=WR.RO b;obtain⟨C,G,xs,rfl,g,y⟩:=Ko o l;obtain⟨A,F,M,rfl,f,u⟩:=Ko e j;exact⟨G,F,C,A,rfl,⟨_,g.at⟩,⟨_,f.at⟩,b J _ L (r.trans p) R2 (LO g y f u)⟩
def ka (d e:D):Option RV:=match d,e with
 | .str z,.int i=>if z.length<=1000000 then(lL z.cps.toList i).map fun c=> .fz (.str ⟨#[c]⟩) else Ld
 |_,_=>Ld
theorem Bl:k8 K (Pa K) ka:=by
 intro O H x y dx g rv Q n b a e q;unfold ka at e;split at e
 .split at e
  .rename_i z i f
   cases qa:lL z.cps.toList i with
   |none=>rw[qa] at e;cases e
   |some c=>rw[qa] at e;cases e;cases b;cases a;exact .inr (.inr ⟨z,i,c,rfl,rfl,rj f,qa,q.at (.str _)⟩)
  .cases e
 .cases e
def yS:List D->Option RV
 |[.str z]=>if z.length<=1000000 then lD (.fz (.int z.length)) else Ld
 |_=>Ld
theorem Az:C3 K (fun xs H Q=>∃x n,xs=[x]/\K1 K x H n/\Q (.int n) H) yS:=by
 intro O H xs ds rv Q n a e q;unfold yS at e;split at e
 .split at e
  .rename_i z b
   cases e;cases a with
   |cons g f=>cases f;cases g;exact⟨_,z.length,rfl,⟨rj b,rfl⟩,q.at (.int _)⟩
  .cases e
 .cases e
end
end L3
namespace L3
open PySem L2
def Qn (N C:aU->Prop) (T:RV->Prop):Res Fl->Prop
 | .ok (.nx ρ)=>N ρ
 | .ok (.ct ρ)=>C ρ
 | .ok (.rt v)=>T v
 |_=>False
structure Go (r:Res Fl) (N C:aU->Prop) (T:RV->Prop):Prop where
 out:Qn N C T r
section
variable {ρ ρ1 Z ρ3:aU} {f g:FS} {fe:FE} {pv:PV} {d:D} {rv:RV} {ds:List D} {N C:aU->Prop} {T:RV->Prop}
theorem Go.eq (e:r=r') (h:Go r' N C T):Go r N C T:=by rw[e];exact h
theorem Go.imp (h:Go r N C T) (b:∀ρ,N ρ->N' ρ) (e:∀ρ,C ρ->C' ρ) (a:∀v,T v->T' v):Go r N' C' T':=by
 refine⟨?_⟩;have h:=h.out;cases r with
 |bad=>exact h
 |er x=>exact h
 |ok i=>
  cases i with
  |nx r=>exact b _ h
  |ct r=>exact e _ h
  |rt v=>exact a _ h
  |bk r=>exact h
theorem zk (h:Go (f ρ) (fun r=>Go (g r) N C T) C T):Go (bx f g ρ) N C T:=by
 refine⟨?_⟩;have h:=h.out;unfold bx;cases q:f ρ with
 |bad=>rw[q] at h;exact h.elim
 |er x=>rw[q] at h;exact h.elim
 |ok a=>
  rw[q] at h;cases a with
  |nx r=>exact(show Go (g r) N C T from h).out
  |ct r=>exact h
  |rt v=>exact h
  |bk r=>exact h.elim
theorem Eo (b:fe ρ= .ok (pv,ρ1)) (a:gt pv ρ1= .ok Z) (h:N Z):Go (cL fe gt ρ) N C T:= .eq (pO b a rfl) ⟨h⟩
theorem oV (a:fe ρ= .ok (pv,ρ1)) (h:N ρ1):Go (jV fe ρ) N C T:= .eq (u6 a) ⟨h⟩
theorem eS (b:fe ρ= .ok (pv,ρ1)) (a:C1 ρ1 pv=lD rv) (h:T rv):Go (dQ fe ρ) N C T:= .eq (tH b a) ⟨h⟩
theorem AL (I:Nat->aU->Prop):∀(ds:List D) (k:Nat) (ρ:aU),I k ρ->(∀i d ρ,ds[i]? =lD d->I (k+i) ρ->∃ρ1,gt (.fz d) ρ= .ok ρ1/\Go (b ρ1) (I (k+i+1)) (I (k+i+1)) T)->Go (oJ gt b ds ρ) (I (k+ds.length)) C T
 |[],k,ρ,h0,_=>⟨h0⟩
 |d::r,k,ρ,h0,hs=>by
  obtain⟨ρ1,o,a⟩:=hs 0 d ρ rfl h0;have a:=a.out;have l:∀j,I (k+1) j->Go (oJ gt b r j) (I (k+(r.length+1))) C T:=fun j h=>by
   have e:k+(r.length+1)=k+1+r.length:=by omega
   rw[e];refine AL I r (k+1) j h fun i t m hi n=> ?_;have e:k+1+i=k+(i+1):=by omega
   rw[e] at n⊢;exact hs (i+1) t m (by simpa using hi) n
  refine⟨?_⟩;show Qn _ _ _ ((gt (.fz d) ρ).bind _);rw[o,Res.bind_ok];cases q:b ρ1 with
  |bad=>rw[q] at a;exact a.elim
  |er x=>rw[q] at a;exact a.elim
  |ok p=>
   rw[q] at a;cases p with
   |nx r=>exact(l _ a).out
   |ct r=>exact(l _ a).out
   |rt v=>exact a
   |bk r=>exact a.elim
theorem MP (I:Nat->aU->Prop) (hi:fi ρ= .ok (ds,ρ1)) (j:I 0 ρ1) (a:∀i d ρ,ds[i]? =lD d->I i ρ->∃ρ1,gt (.fz d) ρ= .ok ρ1/\Go (b ρ1) (I (i+1)) (I (i+1)) T) (e:∀ρ',I ds.length ρ'->N ρ'):Go (oz fi gt b ρ) N C T:=by have:=AL (C:=C) I ds 0 ρ1 j (by simpa using a);rw[Uk] at this;exact .eq (zD hi) (this.imp e (fun _ h=>h) fun _ h=>h)
theorem nF (a:ds.map (fun d=>lD (.fz d))++QT (n - ds.length) Ld=ρ) (h:Go (g ρ) (fun _=>T (.fz .none)) (fun _=>False) T):∃rv,gv n g ds= .ok rv/\T rv:=by
 have h:=h.out;unfold gv;rw[a];cases q:g ρ with
 |bad=>rw[q] at h;exact h.elim
 |er x=>rw[q] at h;exact h.elim
 |ok b=>
  rw[q] at h;cases b with
  |nx r=>exact⟨_,rfl,h⟩
  |ct r=>exact h.elim
  |rt v=>exact⟨_,rfl,h⟩
  |bk r=>exact h.elim
theorem im (a:ds.map (fun d=>lD (.fz d))++QT (n - ds.length) Ld=ρ) (h:Go (g ρ) (fun _=>RV.fz .none=v) (fun _=>False) (fun r=>r=v)):gv n g ds= .ok v:=by obtain⟨rv,e,b⟩:=nF (T:=fun r=>r=v) a h;rw[e,b]
theorem bJ (b:fe ρ= .ok (pv,ρ1)) (a:gt pv ρ1= .ok Z) (hn:Z=ρ3) (h:Go (g ρ3) N C T):Go (bx (cL fe gt) g ρ) N C T:= .eq (yU (pO b a hn)) h
theorem vq (a:fe ρ= .ok (pv,ρ1)) (h:Go (g ρ1) N C T):Go (bx (jV fe) g ρ) N C T:= .eq (yU (u6 a)) h
theorem gb (b:fe ρ= .ok (pv,ρ1)) (a:C1 ρ1 pv=lD rv) (h:T rv):Go (bx (dQ fe) g ρ) N C T:= .eq (EU (tH b a)) ⟨h⟩
theorem dF (h:Go (g ρ) N C T):Go (bx eO g ρ) N C T:= .eq rfl h
theorem iM (i:c ρ= .ok (b,ρ1)) (a:b=QJ->Go (bx f1 g ρ1) N C T) (h:b=QQ->Go (bx f2 g ρ1) N C T):Go (bx (lY c f1 f2) g ρ) N C T:=by
 have e:bx (lY c f1 f2) g ρ=if b=QJ then bx f1 g ρ1 else bx f2 g ρ1:=by unfold bx lY;rw[i,Res.bind_ok];cases b<;>rfl
 refine .eq e ?_;cases b with
 |true=>exact a rfl
 |false=>exact h rfl
theorem pZ (I:Nat->aU->Prop) (hi:fi ρ= .ok (ds,ρ1)) (h:I 0 ρ1) (a:∀i d ρ,ds[i]? =lD d->I i ρ->∃ρ1,gt (.fz d) ρ= .ok ρ1/\Go (b ρ1) (I (i+1)) (I (i+1)) T) (e:∀ρ',I ds.length ρ'->Go (g ρ') N C T):Go (bx (oz fi gt b) g ρ) N C T:=
 zk (MP I hi h a e)
theorem sD (I:aU->Prop) (P:Nat->D->Prop):∀(ds:List D) (k:Nat) (ρ:aU) (a:List D),I ρ->a.length+ds.length<=1000000->(∀i d,ds[i]? =lD d->∀ρ,I ρ->∃x ρ',j7 gt ft fe d ρ= .ok (lD x,ρ')/\I ρ'/\P (k+i) x)->
  ∃xs,dA gt ft fe ds ρ a= .ok (a++xs)/\xs.length=ds.length/\∀i x,xs[i]? =lD x->P (k+i) x
 |[],k,ρ,a,_,_,_=>⟨[],by show Res.ok a=_;simp,rfl,fun i x h=>by simp at h⟩
 |d::r,k,ρ,a,h0,hl,hs=>by
  obtain⟨x,ρ',o,n,m⟩:=hs 0 d rfl ρ h0;rw[Q5] at hl;obtain⟨xs,t,q,p⟩:=sD I P r (k+1) ρ' (a++[x]) n (by rw[QO];simp;omega) fun i u hi b l=>by
   have e:k+1+i=k+(i+1):=by omega
   rw[e];exact hs (i+1) u (by simpa using hi) b l
  refine⟨x::xs,?_,by rw[Q5,q,Q5],fun i y j=> ?_⟩
  .rw[pQ o (by omega)];show dA gt ft fe r ρ' (a++[x])=_;rw[t,RD];rfl
  .cases i with
   |zero=>cases(show lD x=lD y from j);exact m
   |succ i=>
    have e:k+(i+1)=k+1+i:=by omega
    rw[e];exact p i y (by simpa using j)
theorem rL (I:aU->Prop) (P:Nat->D->Prop) (e:I ρ) (b:ds.length<=1000000) (a:∀i d,ds[i]? =lD d->∀ρ,I ρ->∃x ρ',j7 gt ft fe d ρ= .ok (lD x,ρ')/\I ρ'/\P i x):
  ∃xs,jB (dA gt ft fe ds ρ [])= .ok xs/\xs.length=ds.length/\∀i x,xs[i]? =lD x->P i x:=by
 obtain⟨xs,l,j,h⟩:=sD I P ds 0 ρ [] e (by simpa using b) (by simpa using a);exact⟨xs,by rw[l];rfl,j,by simpa using h⟩
theorem oX {α:Type} {f:α->D} {Q:Nat->α->Prop}:∀(xs:List D) (k:Nat),(∀i x,xs[i]? =lD x->∃a,x=f a/\Q (k+i) a)->∃as:List α,xs=as.map f/\∀i a,as[i]? =lD a->Q (k+i) a
 |[],_,_=>⟨[],rfl,fun i a h=>by simp at h⟩
 |x::r,k,h=>by
  obtain⟨a,e,q⟩:=h 0 x rfl;obtain⟨as,n,l⟩:=oX (f:=f) (Q:=Q) r (k+1) fun i y m=>by
   have e:k+1+i=k+(i+1):=by omega
   rw[e];exact h (i+1) y (by simpa using m)
  refine⟨a::as,by rw[e,n];rfl,fun i b j=> ?_⟩;cases i with
  |zero=>cases(show lD a=lD b from j);exact q
  |succ i=>
   have e:k+(i+1)=k+1+i:=by omega
   rw[e];exact l i b (by simpa using j)
theorem O0 (ha:QK.strOk a=QJ) (e:QK.strOk b=QJ):cV (.str a) (.str b)=lD (.fz (.bool (a==b))):=by unfold cV;rw[show lm (.str a)=QJ by unfold lm;rw[show QK.canLay0 (.str a)=QJ from ha];rfl,show QK.canLay0 (.str b)=QJ from e,Tf,if_pos rfl];rfl
theorem JZ (ha:QK.strOk a=QJ):cV (.str a) (.str a)=lD (.fz (.bool QJ)):=by rw[O0 ha ha,beq_self_eq_true]
theorem z9 (ha:QK.strOk a=QJ) (e:QK.strOk b=QJ) (h:(a==b)=QQ):cV (.str a) (.str b)=lD (.fz (.bool QQ)):=by rw[O0 ha e,h]
theorem u9 {α:Type} {xs:List α} {i:Int} {v:α} (a:0<=i) (h:xs[i.toNat]? =lD v):lL xs i=lD v:=M0 a h
theorem Ol (a:0<=i) (h:ds[i.toNat]? =lD d):bc (.list ds) (.int i)=lD (.fz d):=by show(lL ds i).map RV.fz=_;rw[u9 a h];rfl
theorem zL (a:0<=n) (h:n<=1000000):gA [.int n]=lD (a8 (Q0 n.toNat)):=by rw[Bb (by unfold jp;omega),xh]
theorem Ic {s:List Nat} (e:s.Pairwise (·<·)) (h:∀k∈s,k<n):s.length<=n:=by
 have:∀(s:List Nat) (a:Nat),s.Pairwise (·<·)->(∀k∈s,a<=k/\k<n)->s.length<=n - a:=by
  intro s
  induction s with
  |nil=>intro a _ _;exact Rp _
  |cons x r i=>intro a e h;obtain⟨l,j⟩:=Sj.mp e;have m:=h x QS;have:=i (x+1) j fun k b=>⟨l k b,(h k (QV _ b)).2⟩;rw[Q5];omega
 exact this s 0 e fun k b=>⟨Rp _,h k b⟩
theorem BH (ha:fr ρ= .ok (ps,ρ1)) (hd:oy ρ1 ps=lD ([d,e],Z)) (b:fE d=lD es) (a:fE e=lD fs):Gv fr ρ= .ok (lH es fs,Z):=by unfold Gv;rw[ha,Res.bind_ok,hd,aJ,Res.bind_ok];dsimp only;rw[b,aJ,Res.bind_ok,a,aJ,Res.bind_ok]
theorem Gk {f g:D->D->Option RV} (ha:fa ρ= .ok (pa,ρ)) (j:fb ρ= .ok (pb,ρ)) (i:fc ρ= .ok (pc,ρ)) (b:rQ ρ (bO pa)=lD dx) (a:rQ ρ (bO pb)=lD dy) (hz:rQ ρ pc=lD dz) (h:f dx dy=lD (.fz (.bool b1))) (e:b1=QJ->g dy dz=lD (.fz (.bool b2))):qK f g fa fb fc ρ= .ok (.fz (.bool (b1&&b2)),ρ):=by
 unfold qK;rw[ha,Res.bind_ok,j,Res.bind_ok];dsimp only;rw[b,aJ,Res.bind_ok,a,aJ,Res.bind_ok,h,aJ,Res.bind_ok];cases b1 with
 |false=>rfl
 |true=>dsimp only;rw[i,Res.bind_ok];dsimp only;rw[a,aJ,Res.bind_ok,hz,aJ,Res.bind_ok,e rfl,aJ,Res.bind_ok];rfl
end
end L3
namespace L3
open PySem PySem.Spec PyProof.Rows L2 PySem.Builtin PySem.Builtin.Str
section
variable {X:Cx}
theorem DG {z:Str} {u:QH} (h:RelV (.str z) u):∃t,u= .str z t:=h
theorem sN:∀{a:List Str} {b:List QH},Vals (a.map V.str) b->∃l,b=strValues l/\l.map (·.1)=a
 |[],_,.nil=>⟨[],rfl,rfl⟩
 |z::r,_,.cons h t=>by obtain⟨k,rfl⟩:=DG h;obtain⟨l,rfl,e⟩:=sN t;exact⟨(z,k)::l,rfl,by rw[Q3,e]⟩
def J6 (K:QF):V->List V->Hp->VK->Prop:=fun x xs H Q=>∃a l ts,x= .str a/\xs=[.ref l]/\Ve K H l (ts.map V.str)/\aak a ts=QJ/\Q (.str (Txt.join a ts)) H
theorem Bq:Pm X "str.join" (J6 X.K):=by
 rintro f s j H x xs v m Q I h b ⟨a,l,n,rfl,rfl,hq,Sh,q⟩;obtain⟨t,rfl⟩:=DG h;obtain⟨u,rfl,i⟩:=b.one;cases i;obtain⟨r,rv,pl,p⟩:=I.list hq;obtain⟨e,rfl,rfl⟩:=sN rv;have g:tooLong ((e.map (·.1)).toArray.foldl (·+·.length+a.length) 0)=QQ:=by unfold aak at Sh;rwa [aal] at Sh
 exact Vp F.slot_str_join (YV _ _ _) F.entry_str_join (F.args_str_join_2 _ _) (meets_str_join_list a t l e g) ⟨pl.isList,post_join e ⟨joinFit_length g,fun o k=>⟨.str _,H,I.tok k,⟨_,rfl⟩,q⟩⟩⟩
def N7:V->Option Int->Option Int->Hp->VK->Prop:=fun x lo hi H Q=>∃z,x= .str z/\z.length<=QX/\Q (.str (Txt.slice z lo hi)) H
theorem MC:L7 X N7:=by
 rintro b s h H x v p o lo hi r Q I n e pl g ⟨z,rfl,hz,q⟩;obtain⟨t,rfl⟩:=DG n;refine⟨"str",_,F.slot_str_getitem.lookup,YV _ _ _,?_⟩;have a:(Txt.slice z lo hi).length<=QX/\∀f k,EP X b h Q (.str (Txt.slice z lo hi) f) {s with toks:=k}:=⟨RA (Txt.slice_le z _ _) hz,fun f k=>⟨.str _,H,I.tok k,⟨_,rfl⟩,q⟩⟩;cases pl with
 |none=>cases g with
  |none=>exact Uo (l:=Ld) (u:=Ld) (st:=Ld) e rfl (Wt a)
  |int j u=>exact Uo (l:=Ld) (u:=lD (j,u)) (st:=Ld) e rfl (Wt a)
 |int i u=>cases g with
  |none=>exact Uo (l:=lD (i,u)) (u:=Ld) (st:=Ld) e rfl (Wt a)
  |int j m=>exact Uo (l:=lD (i,u)) (u:=lD (j,m)) (st:=Ld) e rfl (Wt a)
end
section
variable {K:QF} {E:XK} {B O O':cb} {Y H H':Hp} {Z:L2.St} {ρ ρ':aU} {v:V}
def z0:PV->Option Str
 | .fz (.str z)=>lD z
 |_=>Ld
theorem Fz {pv:PV} {z:Str} (p:Vz K Y O Z H ρ v pv) (e:z0 pv=lD z):v= .str z:=by
 unfold z0 at e;split at e
 .cases e;cases(show DV O K H v (.str z) from p);rfl
 .cases e
def Qo (K:QF) (r:V->List V->Hp->VK->Prop) (f:Str->List D->Option RV):Prop:=∀(O:cb) (H:Hp) (z:Str) (xs:List V) (ds:List D) (rv:RV) (Q:VK),mi O H->Paired (DX O K H) xs ds->f z ds=lD rv->Fin O K H Q rv->r (.str z) xs H Q
def Oo (f:Str->List D->Option RV) (fo:FE) (fa:FA):FE:=fun ρ=>(fo ρ).bind fun a=>(Res.RO (z0 a.1)).bind fun z=>(fa a.2).bind fun b=>(Res.RO (rU b.2 b.1)).bind fun ds=>(Res.RO (f z ds)).bind fun rv=> .ok (rv.pv,b.2)
theorem KA {r:V->List V->Hp->VK->Prop} {f:Str->List D->Option RV} {to:TE} {h:TA} {fo:FE} {fa:FA} (p:Qo K r f) (q:EO K E to fo) (ha:AO K E h fa):EO K E (Py K "str" r to h) (Oo f fo fa):=by intro B Y O Z H ρ Q R w;refine q B Y O Z H ρ _ R (w.bind.imp fun a g I x M y C o=> ?_);obtain⟨z,i,g⟩:=g.RO;obtain rfl:=Fz o i;refine⟨rfl,?_⟩;refine ha B Y I Z M a.2 _ C (g.bind.imp fun b e G xs L u R2 n=> ?_);obtain⟨ds,l,e⟩:=e.RO;obtain⟨rv,j,e⟩:=e.RO;exact p G L z xs ds rv Q R2.od (vP R2 n l) j (j6 R2 fun F v J t A m=>e F v J (y.trans (u.trans t)) A m)
def uQ:List D->Option (List Str)
 |[]=>lD []
 | .str b::r=>(uQ r).map (b::·)
 |_=>Ld
theorem BC {O:cb} {H:Hp}:∀{xs:List V} {ds:List D} {bs:List Str},SE O K H xs ds->uQ ds=lD bs->xs=bs.map V.str
 |_,_,_,.nil,e=>by cases e;rfl
 |_,_,bs,.cons (vs:=vs) (ds:=r) h t,e=>by
  cases h with
  |str b=>
   have a:(uQ r).map (b::·)=lD bs:=e;cases q:uQ r with
   |none=>rw[q] at a;cases a
   |some f=>rw[q] at a;cases a;rw[BC t q];rfl
  |_=>cases e
theorem EC (a:List Str):uQ (a.map .str)=lD a:=by
 induction a with
 |nil=>rfl
 |cons n r b=>show(uQ (r.map .str)).map (n::·)=_;rw[b];rfl
def wG (z:Str):List D->Option RV
 |[.list ds]=>(match uQ ds with
  |some a=>if aak z a=QJ then lD (.fz (.str (Txt.join z a))) else Ld
  |none=>Ld)
 |_=>Ld
theorem vF:Qo K (J6 K) wG:=by
 intro O H z xs ds rv Q n h e q;unfold wG at e;split at e
 .rename_i j
  cases qs:uQ j with
  |none=>rw[qs] at e;cases e
  |some g=>
   rw[qs] at e;dsimp only at e;split at e
   .rename_i i
    cases e;cases h with
    |cons f b=>cases b;obtain⟨a,l,rfl,f,b⟩:=B6 f;have:=BC b qs;subst this;exact⟨z,a,g,rfl,rfl,f.sq,i,q.at (.str _)⟩
   .cases e
 .cases e
def ub:D->Option Int->Option Int->Option RV
 | .str z,lo,hi=>if z.length<=1000000 then lD (.fz (.str (Txt.slice z lo hi))) else Ld
 |_,_,_=>Ld
theorem G1:Po K N7 ub:=by
 intro O H x lo hi dx rv Q n a e q;unfold ub at e;split at e
 .split at e
  .rename_i b;cases e;cases a;exact⟨_,rfl,rj b,q.at (.str _)⟩
  .cases e
 .cases e
def CM:D->D->Option RV
 | .str i,.str j=>if i.length+j.length<=1000000 then lD (.fz (.str (i++j))) else Ld
 |_,_=>Ld
theorem DS:k8 K (fun x y H Q=>∃i j,x= .str i/\y= .str j/\i.length+j.length<=QX/\Q (.str (i++j)) H) CM:=by
 intro O H x y dx g rv Q n b a e q;unfold CM at e;split at e
 .split at e
  .rename_i f;cases e;cases b;cases a;exact⟨_,_,rfl,rfl,rj f,q.at (.str _)⟩
  .cases e
 .cases e
end
end L3
namespace PySem
open Sem (wp)
open AutoSeq1 (wpAny_loadPart')
open Builtin Builtin.Str
end PySem
namespace PySem
open Sem (wp)
open Builtin Builtin.Str
end PySem
namespace L3
open PySem PySem.Spec PyProof.Rows L2 PySem.Builtin
end L3
namespace L3
open PySem L2
end L3
namespace L2
open PySem PySem.Spec PyProof.Rows
end L2
namespace L3
open PySem PySem.Spec L2
end L3
namespace L2
open PySem PySem.Spec PyProof.Rows
section
variable {κ:Type} [DecidableEq κ]
def jA (Rj:List (κ×V)) (k:κ):Option V:=(Rj.find? fun a=>decide (a.1=k)).map (·.2)
def i4 (Rj:List (κ×V)) (k:κ) (v:V):List (κ×V):=
 if(Rj.any fun a=>decide (a.1=k))=QJ then Rj.map (fun a=>if a.1=k then(a.1,v) else a) else Rj++[(k,v)]
def mq (Rj:List (κ×V)) (k:κ):List (κ×V):=Rj.filter fun a=>decide (a.1≠k)
theorem qU {k:κ} (e:p.1=k):jA (p::r) k=lD p.2:=by simp[jA,RH,e]
theorem rM {k:κ} (e:¬p.1=k):jA (p::r) k=jA r k:=by simp[jA,RH,e]
theorem wk (k:κ):∀Rj:List (κ×V),(Rj.any fun kv=>decide (kv.1=k))=(jA Rj k).isSome
 |[]=>rfl
 |p::r=>by
  rw[T1];by_cases e:p.1=k
  .simp only[qU e,decide_eq_true e,UP,Zr]
  .rw[rM e,decide_eq_false e,Vk];exact wk k r
theorem jL (Rj:List (κ×V)) (k:κ) (v:V):(i4 Rj k v).length<=Rj.length+1:=by
 unfold i4;split
 .rw[QI];omega
 .rw[QO,Q5,Ta];omega
theorem Vg.V0 (r:Vg o u):o.isSome=u.isSome:=by
 cases o with
 |none=>cases u with
  |none=>rfl
  |some _=>exact(show False from r).elim
 |some _=>cases u with
  |none=>exact(show False from r).elim
  |some _=>rfl
theorem KV.val {Rj:List (κ×V)} {vs:List (κ×QH)} (r:KV Rj vs) (k:κ):Vg (jA Rj k) (valueAt vs k):=by
 unfold KV at r
 induction r with
 |nil=>exact True.intro
 | @cons p q ps qs h t ih=>
  obtain⟨f,g⟩:=h;by_cases e:p.1=k
  .have a:q.1=k:=f.symm.trans e
   have b:valueAt (q::qs) k=lD q.2:=by simp[valueAt,RH,a]
   rw[qU e,b];exact g
  .have a:¬q.1=k:=fun z=>e (f.trans z)
   have b:valueAt (q::qs) k=valueAt qs k:=by simp[valueAt,RH,a]
   rw[rM e,b];exact ih
theorem KV.any (r:KV Rj vs) (k:κ):(Rj.any fun kv=>decide (kv.1=k))=vs.any fun kv=>decide (kv.1=k):=by
 unfold KV at r
 induction r with
 |nil=>rfl
 |cons h t a=>rw[T1,T1,a,h.1]
theorem KV.acw (r:KV Rj vs) (k:κ) (b:RelV y u):
  KV (Rj.map fun kv=>if kv.1=k then(kv.1,y) else kv) (vs.map fun kv=>if kv.1=k then(kv.1,u) else kv):=by
 unfold KV at r⊢
 induction r with
 |nil=>exact .nil
 | @cons p q ps qs h t ih=>
  rw[Q3,Q3];refine .cons ?_ ih;obtain⟨a,f⟩:=h;by_cases e:p.1=k
  .rw[if_pos e,if_pos (a.symm.trans e)];exact⟨a,b⟩
  .rw[if_neg e,if_neg (fun z=>e (a.trans z))];exact⟨a,f⟩
theorem KV.put (r:KV Rj vs) (k:κ) (a:RelV y u):KV (i4 Rj k y) (stored vs k u):=by
 unfold i4 stored;rw[r.any k];by_cases e:(vs.any fun b=>decide (b.1=k))=QJ
 .rw[if_pos e,if_pos e];exact r.acw k a
 .rw[if_neg e,if_neg e];exact Paired.snoc r ⟨rfl,a⟩
theorem KV.drop (r:KV Rj vs) (k:κ):KV (mq Rj k) (without vs k):=by
 unfold KV at r⊢;unfold mq without
 induction r with
 |nil=>exact .nil
 | @cons p q ps qs h t ih=>
  obtain⟨f,g⟩:=h;rw[Ux,Ux];by_cases e:p.1=k
  .have a:¬decide (p.1≠k)=QJ:=by simp[e]
   have b:¬decide (q.1≠k)=QJ:=by simp[f.symm.trans e]
   rw[if_neg a,if_neg b];exact ih
  .have i:¬q.1=k:=fun z=>e (f.trans z)
   have a:decide (p.1≠k)=QJ:=by simp[e]
   have b:decide (q.1≠k)=QJ:=by simp[i]
   rw[if_pos a,if_pos b];exact .cons ⟨f,g⟩ ih
theorem KV.keys {vs:List (κ×QH)} (r:KV Rj vs):Rj.map (·.1)=vs.map (·.1):=by
 unfold KV at r
 induction r with
 |nil=>rfl
 |cons h t a=>rw[Q3,Q3,a,h.1]
theorem KV.length (r:KV Rj vs):Rj.length=vs.length:=Paired.length r
theorem En (Rj:List (κ×V)) (k:κ):(mq Rj k).length<=Rj.length:=Uu _ _
end
theorem si (r:RelV (kV k) u):(cK P w).is k u=QJ:=by
 cases k with
 |inl i=>obtain⟨t,e⟩:=(show∃t,u=QH.int i t from r);subst e;exact xl P w i t
 |inr x=>obtain⟨t,e⟩:=(show∃t,u=QH.str x t from r);subst e;exact wP P w x t
theorem sJ:∀{ks:List cE} {us:List QH},Vals (ks.map kV) us->ItemsAre (cK P w) ks us
 |[],_,r=>by rw[UO] at r;cases r;exact .nil
 |k::ks,_,r=>by
  rw[Q3] at r;cases r with
  |cons h t=>exact .cons (si h) (sJ t)
abbrev KT (H:Hp):List (List cE×V)->List (List cE×QN×QH)->Prop:=Paired fun p q=>p.1=q.1/\H q.2.1=lD (.tup (p.1.map kV))/\RelV p.2 q.2.2
theorem KT.val (r:KT H Rj xs) (k:List cE):Vg (jA Rj k) ((atKey xs k).map (·.2)):=by
 induction r with
 |nil=>exact True.intro
 | @cons p q ps qs h t ih=>
  obtain⟨f,_,g⟩:=h;by_cases e:p.1=k
  .have a:=f.symm.trans e
   have b:atKey (q::qs) k=lD q.2:=by simp[atKey,RH,a]
   rw[qU e,b];exact g
  .have a:¬q.1=k:=fun z=>e (f.trans z)
   have b:atKey (q::qs) k=atKey qs k:=by simp[atKey,RH,a]
   rw[rM e,b];exact ih
theorem KT.acw (r:KT H Rj xs) (k:List cE) (f:RelV y u):
  KT H (Rj.map fun kv=>if kv.1=k then(kv.1,y) else kv) (xs.map (putAt k u)):=by
 induction r with
 |nil=>exact .nil
 | @cons p q ps qs h t ih=>
  rw[Q3,Q3];refine .cons ?_ ih;obtain⟨a,b,g⟩:=h;unfold putAt;by_cases e:p.1=k
  .rw[if_pos e,if_pos (a.symm.trans e)];exact⟨a,b,f⟩
  .rw[if_neg e,if_neg (fun z=>e (a.trans z))];exact⟨a,b,g⟩
theorem KT.put (r:KT H Rj xs) (k:List cE) (g:H b=lD (.tup (k.map kV))) (a:RelV y u):
  KT H (i4 Rj k y) (storedH xs k b u):=by
 have e:(Rj.any fun f=>decide (f.1=k))=(atKey xs k).isSome:=by rw[wk,(r.val k).V0,WM]
 unfold i4 storedH;rw[e];by_cases q:(atKey xs k).isSome=QJ
 .rw[if_pos q,if_pos q];exact r.acw k a
 .rw[if_neg q,if_neg q];exact Paired.snoc r ⟨rfl,g,a⟩
theorem KT.keeps (r:KT H Rj xs) (a:∀b ys,H b=lD (.tup ys)->H' b=lD (.tup ys)):KT H' Rj xs:=
 Paired.U3 r fun _ _ z=>⟨z.1,a _ _ z.2.1,z.2.2⟩
section
variable {P:Rf} {w:RB} {H:Hp} {h:Heap} {a:QN}
theorem Kl (ok:V1 P w H h) (e:Rd H a u):ObjOk P w H h a u:=e.ok ok
theorem xb (ok:V1 P w H h) (e:Rd H a (.dK Rj)):Rj.length<=QX/\(a==S8)=QQ/\∃vs,KV Rj vs/\h.DictOf (cK P w) a vs:=
 show ObjOk P w H h a (.dK Rj) from Kl ok e
theorem vY (ok:V1 P w H h) (e:H a=lD (.dK Rj)):Rj.length<=QX/\(a==S8)=QQ/\∃vs,KV Rj vs/\h.DictOf (cK P w) a vs:=xb ok (.inl e)
theorem uY {ks:List cE} (ok:V1 P w H h) (e:H a=lD (.tup (ks.map kV))):(tupleKind (cK P w)).is h ks a:=by obtain⟨_,i,r,o,g,⟨f,n,b⟩,_⟩:=(show ObjOk P w H h a (.tup (ks.map kV)) from ok a _ e);exact⟨o,i.toArray,n,g,f,b,by simpa using sJ r⟩
theorem xU (ok:V1 P w H h) (e:Rd H a (.dT Rj)):Rj.length<=QX/\(a==S8)=QQ/\
  ∃xs,KT H Rj xs/\h.DictOfH (tupleKind (cK P w)) a xs:=by
 obtain⟨z,y,xs,r,o,u,v,n,j,i,g,f⟩:=(show ObjOk P w H h a (.dT Rj) from Kl ok e);refine⟨z,y,xs,r,o,u,v,n,j,i,g,fun x b=> ?_,f⟩;have all:∀{l:List (List cE×V)} {m:List (List cE×QN×QH)},KT H l m->∀x∈m,(tupleKind (cK P w)).is h x.1 x.2.1:=by
  intro l m q
  induction q with
  |nil=>intro x b;exact nomatch b
  | @cons p q ps qs hq t ih=>
   intro x b;rcases Rc.mp b with e|b
   .subst e;exact uY ok (by rw[<-hq.1];exact hq.2.1)
   .exact ih x b
 exact all r x b
theorem Og (ok:V1 P w H h) (e:H a=lD (.dT Rj)):Rj.length<=QX/\(a==S8)=QQ/\
  ∃xs,KT H Rj xs/\h.DictOfH (tupleKind (cK P w)) a xs:=xU ok (.inl e)
end
def Yk (H:Hp) (a:QN) (y:V) (r:Option V):Prop:=
 (∃Rj k,Rd H a (.dK Rj)/\y=kV k/\r=jA Rj k)\/∃Rj k b,Rd H a (.dT Rj)/\y= .ref b/\H b=lD (.tup (k.map kV))/\r=jA Rj k
def aaI (H:Hp) (a:QN) (y v:V) (H':Hp):Prop:=
 (∃Rj k,H a=lD (.dK Rj)/\y=kV k/\Rj.length<QX/\H'=bC H a (.dK (i4 Rj k v)))\/
 ∃Rj k b,H a=lD (.dT Rj)/\y= .ref b/\H b=lD (.tup (k.map kV))/\Rj.length<QX/\H'=bC H a (.dT (i4 Rj k v))
theorem Yk.k {k:cE} (e:H a=lD (.dK Rj)):Yk H a (kV k) (jA Rj k):= .inl ⟨Rj,k,.inl e,rfl,rfl⟩
theorem aaI.k {k:cE} (e:H a=lD (.dK Rj)) (b:Rj.length<QX):aaI H a (kV k) v (bC H a (.dK (i4 Rj k v))):= .inl ⟨Rj,k,e,rfl,b,rfl⟩
section
variable {X:Cx} {Z:List (QN×Obj)} {Y:St} {H:Hp} {s:QP} {a:QN} {y v:V} {u r:QH} {o:Option V} {A:Rv} {E:QH->QP->Prop}
theorem Inv.big (I:Inv X Z Y H s):S8<s.heap.objs.size:=by have h:=(I.mod.glob.keeps I.bk).lt;exact Uj (by decide) h
theorem CJ {Q:QH->QP->Prop} (t:A.units+1<cLine) (I:Inv X Z Y H s) (g:Yk H a y (lD v)) (q:RelV y u) (h:∀w' s',Inv X Z Y H s'->RelV v w'->Q w' s'):
  wpAny (model X.prog X.w) A (getItem (.ref a) u) Q E s:=by
 rcases g with⟨Rj,k,e,m,l⟩|⟨Rj,k,b,e,m,F,l⟩
 .subst m;obtain⟨z,C,vs,f,dd⟩:=xb I.Sh e;obtain⟨w',i,n⟩:=Vg.some_of (v:=v) (o:=valueAt vs k) (by rw[l];exact f.val k);exact wpAny_getItem_of (si q) dd.mapOf i (h w' _ (I.tok _) n)
 .subst m;cases(show u=QH.ref b from q);obtain⟨z,C,xs,f,dd⟩:=xU I.Sh e;obtain⟨w',i,n⟩:=Vg.some_of (v:=v) (o:=(atKey xs k).map (·.2)) (by rw[l];exact f.val k);obtain⟨p,B,j⟩:=Yp.mp i;refine abZ (Xq t) (uY I.Sh F) dd B ?_;rw[j];exact h w' _ (I.tok _) n
theorem PX {Q:QH->QP->Prop} (n:A.units+1<cLine) (I:Inv X Z Y H s) (g:Yk H a y o) (m:RelV y u) (h:∀s',Inv X Z Y H s'->Q (.bool o.isSome) s'):
  wpAny (model X.prog X.w) A (SH .In u (.ref a)) Q E s:=by
 rcases g with⟨Rj,k,e,j,l⟩|⟨Rj,k,b,e,j,p,l⟩
 .subst j;obtain⟨z,i,vs,f,dd⟩:=xb I.Sh e;refine wpAny_in_of (si m) i dd.mapOf ?_;rw[<-(f.val k).V0,<-l];exact h _ (I.tok _)
 .subst j;cases(show u=QH.ref b from m);obtain⟨z,i,xs,f,dd⟩:=xU I.Sh e;refine wpAny_in_heap (Xq n) (uY I.Sh p) i dd ?_;have q:=(f.val k).V0;rw[WM] at q;rw[<-q,<-l];exact h _ (I.tok _)
theorem oS {h':Heap} {t':Nat} {f:HO} (I:Inv X Z Y H s) (g:Os (H a)) (h:Heap.SameBut a s.heap h') (i:∃q,h'.get? a=lD q) (new:ObjOk X.prog X.w (bC H a f) h' a f):
  Inv X Z Y (bC H a f) {s with heap:=h',toks:=t'}:=
 I.write (x:=a) (e:=a) g (.inl rfl) (fun b q j z=>(h.2 b j).trans z) i new
theorem za (z:Rj.length<=QX) (hd:(a==S8)=QQ) (b:KV Rj vs) (dd:h'.DictOf (cK P w) a vs):
  ObjOk P w H' h' a (.dK Rj):=⟨z,hd,vs,b,dd⟩
theorem CF {H':Hp} {Q:Unit->QP->Prop} (L:A.units+1<cLine) (I:Inv X Z Y H s) (g:aaI H a y v H') (F:RelV y u) (rv:RelV v r) (h:∀s',Inv X Z Y H' s'->Q () s'):
  wpAny (model X.prog X.w) A (setItem (.ref a) u r) Q E s:=by
 rcases g with⟨Rj,k,e,B,l,C⟩|⟨Rj,k,b,e,B,K,l,C⟩
 .subst B C
  obtain⟨z,t,vs,f,dd⟩:=vY I.Sh e;have m:vs.length<=QX:=by rw[<-f.length];exact z
  have p:(i4 Rj k v).length<=QX:=by have:=jL Rj k v;omega
  refine wpAny_setItem_pairs (hsz:=m) (si F) dd fun G i n=>h _ ?_;have M:∃q,G.get? a=lD q:=let⟨q,_,_,j,_⟩:=i;⟨q,j⟩
  exact oS I (by rw[e];exact True.intro) n M (za p t (f.put k rv) i)
 .subst B C
  cases(show u=QH.ref b from F);obtain⟨z,t,xs,f,dd⟩:=Og I.Sh e;have m:xs.length<=QX:=by rw[<-Paired.length f];exact z
  have p:(i4 Rj k v).length<=QX:=by have:=jL Rj k v;omega
  refine ab0 (hsz:=m) (Xq L) (uY I.Sh K) dd fun G i n=>h _ ?_;obtain⟨q,S,T,j,R,P,O,_,N⟩:=i;refine oS I (by rw[e];exact True.intro) n ⟨q,j⟩ ⟨p,t,_,(f.put k K rv).keeps fun c U J=> ?_,q,S,T,j,R,P,O,N⟩;rw[az (NZ J e (fun z=>nomatch z))];exact J
end
section
variable {X:Cx} {Z:List (QN×Obj)} {σ:St} {H:Hp} {s:QP} {a:QN} {Y:List (cE×V)} {k:cE} {u:QH} {A:Rv} {E:QH->QP->Prop}
theorem Ow {v:V} {b:List QH} {Q:QH->QP->Prop} (I:Inv X Z σ H s) (e:H a=lD (.dK Y)) (j:RelV (kV k) u) (l:jA Y k=lD v) (hm:b=[]\/∃x,b=[x])
  (h:∀w' s',Inv X Z σ (bC H a (.dK (mq Y k))) s'->RelV v w'->Q w' s'):wpAny (model X.prog X.w) A (call (.builtin "dict.pop") (.ref a::u::b)) Q E s:=by
 obtain⟨z,y,vs,f,dd⟩:=vY I.Sh e;obtain⟨w',m,C⟩:=Vg.some_of (v:=v) (o:=valueAt vs k) (by rw[<-l];exact f.val k);have p:(keyPart u).isSome=QJ:=by
  cases k with
  |inl i=>obtain⟨t,q⟩:=(show∃t,u=QH.int i t from j);subst q;rfl
  |inr x=>obtain⟨t,q⟩:=(show∃t,u=QH.str x t from j);subst q;rfl
 have ha:argsOk "dict.pop" ⟨.ref a::u::b,[]⟩:=by
  rcases hm with q|⟨x,q⟩
  .subst q;exact PySem.F.args_dict_pop_2 _ _
  .subst q;exact PySem.F.args_dict_pop_3 _ _ _
 refine call_meetsIn Yq dd.typeIs PySem.F.entry_dict_pop ha (meets_dict_pop_there (cK X.prog X.w) a (si j) b hm p)
  ⟨vs,w',dd,by rw[<-f.length];exact z,m,fun B g n=>h w' _ ?_ C⟩
 have r:∃q,B.get? a=lD q:=let⟨q,_,_,hq,_⟩:=g;⟨q,hq⟩
 exact oS I (by rw[e];exact True.intro) n r (za (RA (En Y k) z) y (f.drop k) g)
end
def K0 (i:RM):Prop:=∀ov iv,subscripted i QQ ov iv=operate [ov,iv] (getItem ov iv)
theorem AJ {T l:String}
  (n:typeLookup (.type T) "__getitem__"=pure (lD (.builtin l))) (m:K0 slice)
  (h:wpAny (model prog w) A (eval value env) (fun o s₁=>wpAny (model prog w) A (eval slice env) (fun i s₂=>s₂.TypeIs o T/\wpAny (model prog w) A (getItem o i) Q E s₂) E s₁) E s):
  wpAny (model prog w) A (eval (.Subscript value slice pos) env) Q E s:=by
 refine Subscript_ (wpAny_mono h (fun o s₁ g=>wpAny_mono g (fun i s₂ a=> ?_) fun _ _ x=>x) fun _ _ x=>x);obtain⟨j,a⟩:=a;unfold subscriptTail;refine QG ?_;rw[getitemInPython_of_ne j.not_modules];refine QG (Wu j n ?_);have e:wpAny (model prog w) A (subscripted slice QQ o i) (fun r b=>wpAny (model prog w) A (letTemporaryGo value o r>>=fun _=>pure r) Q E b) E s₂:=by rw[m o i];exact wpAny_operating (wpAny_mono a (fun r b f=>QG (wpAny_letTemporaryGo (QR f))) fun _ _ x=>x)
 first
  |exact QR (QG e)
  |exact QG (QR (QG e))
  |exact QG e
theorem xJ (I:Inv X pins σ H s) (g:Yk H a y o):s.TypeIs (.ref a) "dict":=by
 rcases g with⟨Rj,k,e,_,_⟩|⟨Rj,k,b,e,_,_,_⟩
 .obtain⟨_,_,vs,_,dd⟩:=xb I.Sh e;exact dd.typeIs
 .obtain⟨_,_,xs,_,dd⟩:=xU I.Sh e;exact dd.typeIs
def JN (f ty:TE):TE:=fun b H Q=>f b H fun x g=>ty b g fun y e=>∃a v,x= .ref a/\Yk e a y (lD v)/\Q v e
def OM (ty f:TE):TE:=fun b H Q=>ty b H fun y g=>f b g fun x e=>∃a o,x= .ref a/\Yk e a y o/\Q (.bl o.isSome) e
def JW (f ty e:TE):TS:=fun D b H=>e b H fun v i=>f b i fun x h=>ty b h fun y g=>∃a H4,x= .ref a/\aaI g a y v H4/\D.nx b H4
section
variable {X:Cx} {o i e Z:RM} {pos Y af4:Pos} {T U tv:TE}
theorem A0 (r:X.A.units+1<cLine) (w:PE X o T) (hi:PE X i U) (t:K0 i):PE X (.Subscript o i pos) (JN T U):=by intro b s f H Q I h;refine AJ XJ.lookup t (cA (w b s f H _ I h) fun u l ⟨x,J,F,n,q⟩=>cA (hi b l f J _ F q) fun N M ⟨y,G,j,m,a,v,B,g,p⟩=> ?_);subst B;obtain rfl:=n;exact⟨xJ j g,CJ r j g m fun K L E C=>⟨v,G,E,C,p⟩⟩
theorem Mo (r:X.A.units+1<cLine) (hi:PE X i U) (t:PE X o T):PC X .In i o (OM U T):=by intro b s f H Q I h;refine cA (hi b s f H _ I h) fun K j ⟨y,F,C,l,p⟩=>cA (t b j f F _ C p) fun u J ⟨x,E,B,m,a,q,v,g,n⟩=> ?_;subst v;obtain rfl:=m;exact PX r B g l fun G w=>⟨.bl q.isSome,E,w,rfl,n⟩
theorem Jb (B:X.A.units+1<cLine) (E:PE X o T) (hi:PE X i U) (w:PE X Z tv) (C:Sy Z (lD (.Subscript o i Y)) pos.line X.env=pure QQ):
  PS X (.Assign [.Subscript o i Y] Z pos) (JW T U tv):=by
 intro b s f H D I h;refine aam (cA (w b s f H _ I h) fun r l ⟨v,O,L,rv,t⟩=>cA (E b l f O _ L t) fun u j ⟨x,N,K,n,q⟩=>cA (hi b j f N _ K q) fun R Q ⟨y,S,J,m,a,M,F,g,p⟩=> ?_) C;subst F;obtain rfl:=n;exact CF B J g m rv fun P G=>⟨f,M,G,p⟩
end
def nH (Rj a:List (cE×V)):List (cE×V):=a.foldl (fun b e=>i4 b e.1 e.2) Rj
theorem KV.merge:∀{a:List (cE×V)} {b:List (cE×QH)} {Rj:List (cE×V)} {vs:List (cE×QH)},KV a b->KV Rj vs->KV (nH Rj a) (merged vs b):=by
 intro a b Rj vs r;unfold KV at r
 induction r generalizing Rj vs with
 |nil=>intro q;exact q
 | @cons p q ps qs h t ih=>
  intro r0;have e:KV (i4 Rj p.1 p.2) (stored vs q.1 q.2):=by have:=r0.put p.1 h.2;rw[<-h.1];exact this
  exact ih e
theorem lj:∀(a Rj:List (cE×V)),(nH Rj a).length<=Rj.length+a.length
 |[],Rj=>by show Rj.length<=Rj.length+0;omega
 |p::r,Rj=>by have e:=lj r (i4 Rj p.1 p.2);have b:=jL Rj p.1 p.2;show(nH (i4 Rj p.1 p.2) r).length<=_;rw[Q5];omega
structure M1 (X:Cx) (o:RM) (m:Str) (apos:Pos) (e:RM) (Ua:Pos):Prop where
 base:attributeBase o m X.env (eval o X.env)=eval o X.env
 few:((backTo Ua (Rh [e] X.env)).all (fun x=> !x.1)&&(backToKw Ua (keywordEach [] X.env)).all (fun x=>x.1.isSome)
  &&decide (([e]:List RM).length+([]:List XM).length+(if([]:List XM).isEmpty then 0 else 1)<30))=QJ
 line:(apos.endLine==Ua.line)=QJ
 trees:backTo Ua (Rh [e] X.env)=[(QQ,eval e X.env)]
structure M2 (X:Cx) (o:RM) (m:Str) (apos:Pos) (e f:RM) (Ua:Pos):Prop where
 base:attributeBase o m X.env (eval o X.env)=eval o X.env
 few:((backTo Ua (Rh [e,f] X.env)).all (fun x=> !x.1)&&(backToKw Ua (keywordEach [] X.env)).all (fun x=>x.1.isSome)
  &&decide (([e,f]:List RM).length+([]:List XM).length+(if([]:List XM).isEmpty then 0 else 1)<30))=QJ
 line:(apos.endLine==Ua.line)=QJ
 trees:backTo Ua (Rh [e,f] X.env)=[(QQ,eval e X.env),(QQ,eval f X.env)]
def Qh (H:Hp) (a:QN):Prop:=(∃Rj,Rd H a (.dK Rj))\/∃Rj,Rd H a (.dT Rj)
theorem NB (I:Inv X pins σ H s) (d:Qh H a):
  s.TypeIs (.ref a) "dict"/\(∀b,QH.ref a= .ref b->∃ob,s.heap.get? b=lD ob/\ob.dict=Ld)/\(a==S8)=QQ:=by
 rcases d with⟨Rj,e⟩|⟨Rj,e⟩
 .obtain⟨_,f,vs,_,dd⟩:=xb I.Sh e;refine⟨dd.typeIs,fun b q=> ?_,f⟩;cases q;obtain⟨ob,_,_,h,g,_⟩:=dd;exact⟨ob,h,g.2.1⟩
 .obtain⟨_,f,xs,_,dd⟩:=xU I.Sh e;refine⟨dd.typeIs,fun b q=> ?_,f⟩;cases q;obtain⟨ob,_,_,h,g,_⟩:=dd;exact⟨ob,h,g.2.1⟩
def DD (g ty:TE):TE:=fun b H Q=>g b H fun x f=>∃a,x= .ref a/\Qh f a/\ty b f fun y e=>∃Rj k v,e a=lD (.dK Rj)/\y=kV k/\jA Rj k=lD v/\Q v (bC e a (.dK (mq Rj k)))
section
variable {X:Cx} {o e f:RM} {Z Ua:Pos} {td ty tx:TE}
theorem De (A:PE X o td) (B:PE X e ty) (m:M1 X o "pop" Z e Ua):PE X (.Call (.Attribute o "pop" Z) [e] [] Ua) (DD td ty):=by intro b s g H Q I h;refine wpAny_Call_method m.base m.few m.line Va Yq PySem.F.type_dict_pop (cA (A b s g H _ I h) fun u p ⟨x,M,i,r,a,E,d,w⟩=> ?_);subst E;obtain rfl:=r;obtain⟨n,j,_⟩:=NB i d;refine⟨n,j,?_⟩;rw[m.trees];refine Calls.callWith_builtin rfl (Calls.evalArgs_plain (Calls.spliced_cons (cA (B b p g M _ i w) fun R P ⟨y,S,L,q,Rj,k,v,G,C,l,t⟩=>Calls.spliced_nil ?_)));subst C;exact Ow L G q l (.inl rfl) fun N O K J=>⟨v,_,K,J,t⟩
end
end L2
namespace HT
open PySem PySem.Spec PyProof.Rows PySem.Calls
end HT
namespace L2
open PySem PySem.Spec PyProof.Rows
end L2
namespace PySem
open Sem (wp)
open Builtin
open AutoSeq1 (wpAny_loadPart')
end PySem
namespace L3
open PySem PySem.Spec PyProof.Rows L2
end L3
namespace L4
open PySem PySem.Spec PyProof.Rows L2 L3
def OD (h:Heap) (e:QN) (c:QH) (dx:Option QN) (a:QH) (hd:Option QN):Prop:=
 ∃ob fs,h.get? e=lD ob/\ob.cls=c/\ob.dict=dx/\ob.data= .fields fs/\fs[0]? =lD a/\
  match hd with
  |none=>fs[1]? =lD .none
  |some T=>fs[1]? =lD (.ref T)/\T≠e/\∃oT ts,h.get? T=lD oT/\oT.data= .fields ts/\ts[3]? =lD .none
structure Lft (l:List Env) (e:QN) (hd:Option QN) (h h':Heap):Prop where
 keep:∀b o,h.get? b=lD o->b≠e->hd≠lD b->b∉yZ l->h'.get? b=lD o
 slot:∀b o,h.get? b=lD o->b≠e->hd≠lD b->∃sl,h'.get? b=lD {o with slots:=sl}
 here:∀b o,h.get? b=lD o->∃o',h'.get? b=lD o'
section
variable {M:Model} {A:Rv} {E:QH->QP->Prop} {s:QP}
theorem pV
  (I:A.frames=lD (env::outer)) (B:s.heap.FunFrames base (env::outer)) (H:env.frame=lD L) (C:s.heap.get? e=lD ob) (p:ob.data= .fields fs) (m:1<fs.size) (J:fs[0]? =lD a0)
  (k:∀h' T,s.heap.objs.size<=T->OD h' e ob.cls ob.dict a0 (lD T)->Lft (env::outer) e Ld s.heap h'->Q () {s with heap:=h'}):
  wpAny M A (frameOf env>>=fun fr=>entryPlaceOf L nx>>=fun pl=>EntryCells.newEntry hv fr .none (rawInt L) .none pl>>=fun b=>setField (.ref e) 1 b) (fun _ s'=>wpAny M A (setFlight (.ref e) Ld) Q E s') E s:=by
 have j:e∉(env::outer).filterMap (·.frame):=fun z=>by obtain⟨_,o,q,n⟩:=B.mem z;rw[C] at q;cases q;exact n fs p
 refine QG (wpAny_frameOf_fun I B H fun a S=> ?_);refine QG (wpAny_entryPlaceOf fun pl P=> ?_);unfold EntryCells.newEntry newFields;refine QG (Sf ?_ (P.sizeOk5 _ _ _ _ _));have y:=(S.2.1 e j).trans C;generalize hN:({cls:= .type "traceback",dict:=Ld,data:= .fields ([hv,.ref L,.none,rawInt L,.none]++(if pl.isEmpty then QT 6 QH.none else pl)).toArray}:Obj)=N;have g:N.data= .fields ([hv,.ref L,.none,rawInt L,.none]++(if pl.isEmpty then QT 6 QH.none else pl)).toArray:=by rw[<-hN]
 have K:=Obj.isFreed_of_fields g;have w:=Heap.get?_push_of_some N y;refine UB w p m ?_;have l:=Sa (Heap.lt_size y);have r:=Obj.data_mapFields p (·.setIfInBounds 1 (QH.ref a.objs.size));have i:=Heap.get?_update_self (Obj.mapFields (·.setIfInBounds 1 (QH.ref a.objs.size))) w (Obj.isFreed_of_fields r)
 have u:=
  (Heap.get?_update_other (a.push N) (Obj.mapFields (·.setIfInBounds 1 (QH.ref a.objs.size))) l.symm).trans (Heap.get?_push_size a K)
 unfold setFlight;refine QG (RU i r (x:= .ref a.objs.size) (by simp[m]) ?_);rw[if_pos (show(QH.ref a.objs.size !=QH.none)=QJ from by simp)];have t:3<([hv,.ref L,.none,rawInt L,.none]++(if pl.isEmpty then QT 6 QH.none else pl)).toArray.size:=by simp only[QZ,QO,Q5,Ta];omega
 refine UB u g t ?_;have v:=Heap.get?_update_other ((a.push N).update e (Obj.mapFields (·.setIfInBounds 1 (QH.ref a.objs.size)))) (Obj.mapFields (·.setIfInBounds 3 ((Ld:Option QN).elim QH.none fun f=>rawInt f))) l;have F:=Heap.get?_update_self (Obj.mapFields (·.setIfInBounds 3 ((Ld:Option QN).elim QH.none fun f=>rawInt f))) u (Obj.isFreed_of_fields (Obj.data_mapFields g _));have V7:∀b o,b≠e->a.get? b=lD o->(((a.push N).update e (Obj.mapFields (·.setIfInBounds 1 (QH.ref a.objs.size)))).update a.objs.size (Obj.mapFields (·.setIfInBounds 3 ((Ld:Option QN).elim QH.none fun f=>rawInt f)))).get? b=lD o:=fun b o ne q=>by rw[Heap.get?_update_other _ _ (Sa (Heap.lt_size q)),Heap.get?_update_other _ _ ne.symm];exact Heap.get?_push_of_some N q
 refine k _ a.objs.size (by rw[S.1];exact QU _) ⟨_,_,v.trans i,Obj.cls_mapFields _ _,?_,r,?_,?_,l,_,_,F,Obj.data_mapFields g _,?_⟩ ⟨fun b o q ne _ G=>V7 b o ne ((S.2.1 b G).trans q),fun b o q ne _=> ?_,fun b o q=> ?_⟩
 .cases ob with
  |mk c d O h=>cases O<;>rfl
 .rw[W7 (by decide)];exact J
 .simp[m]
 .rw[Array.getElem?_setIfInBounds_self_of_lt t];rfl
 .obtain⟨h,z⟩:=S.2.2 b o q;exact⟨h,V7 b _ ne z⟩
 .by_cases ne:b=e
  .subst ne;exact⟨_,v.trans i⟩
  .obtain⟨h,z⟩:=S.2.2 b o q;exact⟨_,V7 b _ ne z⟩
theorem CH
  (v:A.frames=lD (env::outer)) (u:s.heap.FunFrames base (env::outer)) (h:env.frame=lD L) (F:OD s.heap e c dx a0 hd)
  (k:∀h' T,s.heap.objs.size<=T->OD h' e c dx a0 (lD T)->Lft (env::outer) e hd s.heap h'->Q () {s with heap:=h'}):wpAny M A (leaving env (.ref e)) Q E s:=by
 obtain⟨N,fs,q,I,H,d,w,r⟩:=F;subst I H;cases hd with
 |none=>have r:=r;unfold leaving noteFrame;simp only[h];refine QG (QG (RU q d r ?_));rw[if_neg (by decide)];exact pV v u h q d (TH.mp r).1 w k
 |some T=>
  obtain⟨r,C,O,B,g,dT,p⟩:=r;unfold leaving noteFrame;simp only[h];refine QG (QG (RU q d r ?_));rw[if_pos (show(QH.ref T !=QH.none)=QJ from by simp)];refine QG (RU g dT p ?_);rw[if_neg (show¬((QH.none==rawInt L)=QJ) from by simp[rawInt])];refine QG (UB g dT (TH.mp p).1 ?_);have f:∀b,b≠T->(s.heap.update T (Obj.mapFields (·.setIfInBounds 3 QH.none))).get? b=s.heap.get? b:=fun b ne=>Heap.get?_update_other _ _ ne.symm;have a:=Heap.get?_update_self (Obj.mapFields (·.setIfInBounds 3 QH.none)) g (Obj.isFreed_of_fields (Obj.data_mapFields dT _));have m:∀b o,s.heap.get? b=lD o->(∀vs,o.data≠ .fields vs)->b≠T:=fun b o z n y=>by rw[y,g] at z;cases z;exact n B dT
  refine pV v (u.of_keeps fun b o z n=>⟨o,(f b (m b o z n)).trans z,rfl⟩) h ((f e C.symm).trans q) d (TH.mp r).1 w fun h' J t K i=>k h' J (by rw[Heap.size_after_update] at t;exact t) K ⟨fun b o z l j G=> ?_,fun b o z l j=> ?_,fun b o z=> ?_⟩
  .exact i.keep b o ((f b fun y=>j (by rw[y])).trans z) l (by simp) G
  .exact i.slot b o ((f b fun y=>j (by rw[y])).trans z) l (by simp)
  .by_cases y:b=T
   .subst y;exact i.here b _ a
   .exact i.here b o ((f b y).trans z)
end
theorem Lft.Sh {P:Rf} {w:RB} {l:List Env} {e:QN} {hd:Option QN} {H:Hp} {h h':Heap} (L:Lft l e hd h h') (m:V1 P w H h) (ne:H e=Ld) (i:∀T,hd=lD T->H T=Ld) (j:∀b∈yZ l,H b=Ld):V1 P w H h':=fun b u q=>by
 have free:∀c v,H c=lD v->c≠e/\hd≠lD c/\c∉yZ l:=fun c v z=>⟨(fun y=>by rw[y,ne] at z;cases z),(fun y=>by rw[i c y] at z;cases z),(fun y=>by rw[j c y] at z;cases z)⟩;refine(m b u q).V7 (fun c v n z=> ?_) (fun _ z=>z) fun _ _ z=>z;rcases n with y|y
 .rw[y] at z⊢;obtain⟨g,f,a⟩:=free b u q;exact L.keep b v z g f a
 .obtain⟨g,f,a⟩:=free c _ y;exact L.keep c v z g f a
def lw (P:Rf) (w:RB):ul:=fun a H s E x b=>
 ∃e c dx a0 T H',x= .ref e/\s.heap.get? e=Ld/\s.heap.get? T=Ld/\OD b.heap e c dx a0 (lD T)/\H' e=Ld/\H' T=Ld/\
  b.os=s.os/\AllBare b.gens/\Un (yZ a) [] H H' s.heap b.heap/\V1 P w H' b.heap/\E c dx H'
theorem Kg {P:Rf} {w:RB} {K:QF} {mg:Str->Option QH} {base:Heap} {N:List Str} {i:Str} {a:Uy} {f:QN} {v:QH} {A:Rv} {outer:List Env} {g:QP} {G:Hp} {E:XK}
  {l:List (QN×Obj)} {J:L2.St} {H:Hp} {s:QP} {e:QN} {c C:QH} {dx hd:Option QN} (I:L2.Inv (fT (lw P w) P w K mg base N i a f v A outer g G E) l J H s)
  (F:OD s.heap e c dx C hd) (u:g.heap.get? e=Ld) (S:∀T,hd=lD T->g.heap.get? T=Ld) (ne:H e=Ld) (Q:∀T,hd=lD T->H T=Ld) (q:E c dx H):
  (fT (lw P w) P w K mg base N i a f v A outer g G E).xe (.ref e) s:=by
 have Z:=I.ok.frames;have Y:=I.stack;refine CH (L:=g.heap.objs.size) Z Y rfl F fun h' T t F' L=> ?_;have R:=L.Sh I.Sh ne Q I.Yd;have X:H T=Ld:=I.Sh.fresh t;have p:∀b o,g.heap.get? b=lD o->b<g.heap.objs.size:=fun b o z=>Heap.lt_size z;have h:∀b o,g.heap.get? b=lD o->b≠e/\hd≠lD b:=fun b o z=>⟨(fun y=>by rw[y,u] at z;cases z),(fun y=>by rw[S b y] at z;cases z)⟩;have sz:=I.sz;refine⟨e,c,dx,C,T,H,rfl,u,Heap.get?_none_of_le (RA sz t),F',ne,X,I.os,I.bare,?_,R,q⟩;have B:=I.base;refine⟨fun b o z n r _=> ?_,fun b o z n U _=> ?_,fun b o z n _=> ?_,fun b o z _=> ?_,B.XU,B.Xv,B.XX⟩
 .have j:=B.keep b o z n r (fun y=>nomatch y)
  refine L.keep b o j (h b o z).1 (h b o z).2 fun y=> ?_;rcases Rc.mp (I.Yg b y) with y|y
  .have y:b=g.heap.objs.size:=y;exact absurd (p b o z) (by rw[y];exact Su _)
  .exact r y
 .obtain⟨sl,j⟩:=B.slot b o z n U (fun y=>nomatch y);obtain⟨m,M⟩:=L.slot b _ j (h b o z).1 (h b o z).2;exact⟨m,M⟩
 .exact B.free b o z n (fun y=>nomatch y)
 .obtain⟨O,j⟩:=B.there b o z (fun y=>nomatch y);exact L.here b O j
theorem mh {P:Rf} {w:RB} {K:QF} {mg:Str->Option QH} {base:Heap} {N:List Str} {g:Str} {a:Uy} {f:QN} {l:QH} {A:Rv} {outer:List Env} {h:QP} {p:Hp} {E:XK}:
  gf (lw P w) (fT (lw P w) P w K mg base N g a f l A outer h p E) E:=by
 rintro j r H s x t I ⟨e,c,dx,v,T,B,rfl,le,lT,F,ne,nT,os,bare,un,Sh,q⟩;have n:=I.abS (ch:=[]) os un Sh bare (fun b z=>nomatch z);have old:∀b,s.heap.get? b=Ld->h.heap.get? b=Ld:=fun b z=>by
  cases y:h.heap.get? b with
  |none=>rfl
  |some o=>obtain⟨u,i⟩:=I.base.there b o y (fun y=>nomatch y);rw[z] at i;cases i
 exact Kg n F (old e le) (fun m z=>by cases z;exact old T lT) ne (fun m z=>by cases z;exact nT) q
theorem Mv (x:ObjOk P w H h a o):∃ob,h.get? a=lD ob:=by
 cases o with
 |lst xs=>obtain⟨_,_,_,_,e⟩:=x;exact⟨_,e⟩
 |tup xs=>obtain⟨_,_,_,ob,e,_⟩:=x;exact⟨ob,e⟩
 |dK Rj=>obtain⟨_,_,_,_,o,_,_,e,_⟩:=x;exact⟨o,e⟩
 |dT Rj=>obtain⟨_,_,_,_,o,_,_,e,_⟩:=x;exact⟨o,e⟩
 |set S n=>obtain⟨o,_,_,_,e,_⟩:=x;exact⟨o,e⟩
 |ins C dx fs=>obtain⟨_,_,_,e,_⟩:=x;exact⟨_,e⟩
 |own y=>exact x
 |xd fs=>obtain⟨_,⟨o,_,_,e,_⟩,_⟩:=x;exact⟨o,e⟩
 |rng lo hi=>obtain⟨_,_,_,e⟩:=x;exact⟨_,e⟩
 |frz ob u=>exact⟨ob,x.1⟩
 |tbl ps=>exact⟨_,x⟩
 |met f y=>exact⟨_,x⟩
 |ext φ=>exact x.2.1
 |exw φ=>exact x.2.1
theorem wx (k:V1 P w H h) (n:h.get? a=Ld):H a=Ld:=by
 cases q:H a with
 |none=>rfl
 |some o=>obtain⟨b,z⟩:=Mv (k a o q);rw[n] at z;cases z
section
variable {P:Rf} {w:RB} {K:QF} {mg:Str->Option QH} {base:Heap} {N:List Str} {qual:Str} {scope:Uy} {f:QN} {cd:QH} {A:Rv} {outer:List Env} {s0:QP} {H0:Hp} {E:XK} {CX:ul}
  {σ:L2.St} {H:Hp} {s:QP} {h':Heap} {X:Cx}
end
def Kh (K:QF) (C:QN) (m:List QH):Prop:=∃nm q N bs hd sn sub ab col dd k0 k1 k2 k3 k5 id,K.lookup C=lD (excClassObj nm q C N bs m hd sn sub ab col dd k0 k1 k2 k3 k5 id)
structure Apart (X:Cx) (a:QN):Prop where
 n0:X.s₀.heap.get? a=Ld
 nL:a≠X.env.locals
 nC:∀y c,X.env.cells.lookup y=lD c->c≠a
 nP:∀p∈X.pn,p.1≠a
end L4
namespace L4
open PySem PySem.Spec L2 L3
end L4
namespace L4
open PySem PySem.Spec PySem.W PyProof.Rows L2 L3
section
variable {prog:Rf} {w:RB} {A:Rv} {E:QH->QP->Prop} {h:Heap} {g:Array WU} {d:aa3} {t:Nat} {os:aan} {a C:QN} {o:Obj} {K:QF}
  {n1 q1:Str} {N1:QN} {b1 m1:List QH} {d1:Bool} {s1:List Str} {u1:List QH} {a1:Bool} {c1:Option Bool} {x1:Option QN} {i0 i1 i2 i3 i5:Option QH} {id1:String}
structure af3 (K:QF) (C:QN) (m:List QH):Prop where
 cl:Kh K C m
 be:m.contains (.type "BaseException")=QJ
 ga:findIn K (.ref C) "__getattribute__"=lD (lD (.builtin "BaseException.__getattribute__"))
 gt:findIn K (.ref C) "__getattr__"=lD Ld
 cs:findIn K (.ref C) "__class__"=lD (lD (.builtin "object.__class__"))
 ob:mroIn K C (.type "object")=lD QJ
end
end L4
namespace L4
open PySem PySem.SeqAt PySem.Spec PySem.W PyProof.Rows L2 L3
end L4
namespace L4
open PySem PySem.Spec PySem.W PyProof.Rows L2 L3
end L4
namespace PySem
open Sem (wp)
open PyProof.Rows
end PySem
namespace L3
open PySem PySem.Spec PyProof.Rows L2
end L3
namespace HT
open PySem PySem.Spec PyProof.Rows
section
variable {prog:Rf} {w:RB} {A:Rv} {E:QH->QP->Prop} {s:QP}
theorem getItem_tuple_all {t b:QN} {items:Array QH} {l j:QH} {lo hi:Option Int} {Q:QH->QP->Prop} (a:IsTup s.heap t items) (o:s.heap.IsSliceOf b l j .none) (pl:WX l lo) (p:WX j hi)
  (n:sIx items.size 0 lo=0/\sIx items.size items.size hi=items.size) (h:Q (.ref t) s):wpAny (model prog w) A (getItem (.ref t) (.ref b)) Q E s:=by
 obtain⟨q,e,f,r⟩:=id o;have g:s.TypeIs (.ref b) "slice":=⟨q,e,f⟩;unfold getItem
 try specialize Sx ?_
 first|refine QG (QR ?_)|skip
 refine QG (acH a.typeIs (by decide) ?_);refine QG (SS (name:=Str.ofString "__getitem__") a.typeIs Sb
  (S5 Sb a.typeIs entry_tuple_getitem ?_ (args_tuple_getitem _ _)))
 show wpAny _ _ (Builtin.Tuple.tupleItemsOf (.ref t)>>=_) _ _ s;refine QG (tupleItemsOf_ a ?_);refine QG (UA g ?_);rw[if_pos (by decide)];refine QG (iU o pl p ?_);have i:((((sIx items.size 0 lo:Nat):Int)==0&&(1:Int)==1&&(sIx items.size items.size hi - sIx items.size 0 lo)==items.size)=QJ):=by rw[n.1,n.2];simp
 show wpAny _ _ (if(((sIx items.size 0 lo:Nat):Int)==0&&(1:Int)==1&&(sIx items.size items.size hi - sIx items.size 0 lo)==items.size)=QJ then _ else _) _ _ s;rw[if_pos i];refine QG (m:=Builtin.Tuple.tupleIsExact _) ?_;unfold Builtin.Tuple.tupleIsExact;refine QG (UA a.typeIs (QR ?_));rw[if_pos (by decide)];refine QG (Wh ?_);exact QR ⟨_,rfl,QR h⟩
end
end HT
namespace L3
open PySem PySem.Spec PyProof.Rows L2
def OS (K:QF):V->Option Int->Option Int->Hp->VK->Prop:=fun x lo hi H Q=>∃(a:QN) (xs:List V),x= .ref a/\Vn K H a xs/\(HT.sIx xs.length 0 lo=0/\HT.sIx xs.length xs.length hi=xs.length)/\Q (.ref a) H
theorem Dw {X:Cx}:L7 X (OS X.K):=by
 intro e s o H x v t p lo hi u Q I g m pl i h;obtain⟨a,xs,rfl,j,l,q⟩:=h;cases g;obtain⟨n,r,f,w⟩:=I.tuple j;have b:n.toArray.size=xs.length:=by rw[QZ];exact r.length.symm
 refine⟨"tuple",_,Sb.lookup,f.typeIs,?_⟩;exact HT.getItem_tuple_all f m pl i (by rw[b];exact l) ⟨.ref a,H,I,rfl,q⟩
def NS (K:QF):V->Option Int->Option Int->Hp->VK->Prop:=fun x lo hi H Q=>KS K x lo hi H Q\/OS K x lo hi H Q
theorem IJ {X:Cx}:L7 X (NS X.K):=by
 intro a s b H x v f e lo hi g Q I h j pl i q;rcases q with q|q
 .exact zK a s b H x v f e lo hi g Q I h j pl i q
 .exact Dw a s b H x v f e lo hi g Q I h j pl i q
def PR:D->Option Int->Option Int->Option RV
 | .list ds,lo,hi=>lD (.ow (nM ds lo hi))
 | .tuple ds,lo,hi=>lD (.fz (.tuple (nM ds lo hi)))
 |_,_,_=>Ld
theorem G2 {ds:List D} {lo hi:Option Int} (h:HT.sIx ds.length 0 lo=0/\HT.sIx ds.length ds.length hi=ds.length):nM ds lo hi=ds:=by unfold nM;rw[h.1,h.2,aby,adp,aaT]
theorem Oy {K:QF}:Po K (NS K) PR:=by
 intro O H x lo hi dx rv Q n b e q;cases dx with
 |list ds=>exact .inl (oW O H x lo hi _ rv Q n b e q)
 |tuple ds=>
  cases e;by_cases f:HT.sIx ds.length 0 lo=0/\HT.sIx ds.length ds.length hi=ds.length
  .obtain⟨a,xs,rfl,h,g⟩:=EI b;rw[G2 f] at q;refine .inr ⟨a,xs,rfl,h.1,by rw[g.length];exact f,q.at (.tup h g)⟩
  .refine .inl (oW O H x lo hi (.tuple ds) _ Q n b ?_ q)
   show(if jP ds.length lo hi=QJ then Ld else lD (RV.fz (.tuple (nM ds lo hi))))=_;have z:jP ds.length lo hi=QQ:=by unfold jP;exact decide_eq_false f
   rw[z,if_neg Q8]
 |_=>cases e
section
variable {K:QF} {E:XK}
open Classical in
end
end L3
namespace L9
open PySem PySem.Spec PyProof.Rows
section
variable {M:Model} {A:Rv} {E:QH->QP->Prop} {env:Env}
variable {nm q:Str} {C N:QN} {bs Z:List QH} {hdct:Bool} {sn:List Str} {sub:List QH} {ab:Bool} {col:Option Bool} {dd:Option QN} {k0 k1 k2 k3 k5:Option QH} {newId:String}
theorem iJ (r:Z.contains (.type "BaseException")=QJ) (n:A.handled=Ld)
  (h:wpAny M A x (fun v s₁=>∃e ob,v= .ref e/\s₁.heap.get? C=lD (excClassObj nm q C N bs Z hdct sn sub ab col dd k0 k1 k2 k3 k5 newId)/\s₁.heap.get? e=lD ob/\ob.cls= .ref C/\(∃fs,ob.data= .fields fs/\fs[1]? =lD QH.none)/\E (.ref e) s₁) E s):
  wpAny M A (raiseStmt env (lD x) Ld) Q E s:=by
 have f:(QH.ref C::Z).contains (.type "BaseException")=QJ:=by rw[List.contains_cons,r,YM]
 unfold raiseStmt;refine QG (wpAny_mono h (fun v s₁ a=> ?_) fun _ _ x=>x);obtain⟨e,ob,rfl,l,o,j,⟨fs,i,b⟩,p⟩:=a;obtain⟨y,w,m⟩:=ob;dsimp only at j i;subst j i;obtain⟨B,g,d,t,u⟩:=s₁
 repeat (first|specialize UC o ?_|specialize UC l ?_|(specialize abz l ?_;rw[f])|wp_step)
 rw[b]
 repeat wp_step
 exact abA n p
end
section
variable {prog:Rf} {w:RB} {A:Rv} {E:QH->QP->Prop} {h:Heap} {g:Array WU} {d:aa3} {t:Nat} {os:aan}
variable {nm q:Str} {C N:QN} {bs S Z:List QH} {hdct:Bool} {sn:List Str} {sub:List QH} {ab:Bool} {col:Option Bool} {dd:Option QN} {k0 k1 k2 k3 k5:Option QH} {B R newId Y Wj X:String} {U:List QH}
theorem oO (y:UD R newId X U) (j:Z.contains (.type R)=QJ) (F:UD B Y Wj Z) (T:acJ h Z S)
  (i:h.get? C=lD (excClassObj nm q C N bs S hdct sn sub ab col dd k0 k1 k2 k3 k5 newId)) (hn:h.Ns N mN) (hi:mN "__init__"=lD (.ref fI)) (p:h.get? fI=lD oI) (n:oI.cls= .type "function")
  (H:∀h' e,Heap.MadeExcOf h h' e (.ref C) rest->wpAny (model prog w) A (call (.ref fI) (.ref e::rest)) (fun r s'=>r= .none/\Q (.done (.ret (.ref e))) s') E ⟨h',g,d,t,os⟩) (hrest:rest.length<=QX):
  wpAny (model prog w) A (Builtin.«type.__call__» ⟨.ref C::rest,[]⟩) Q E ⟨h,g,d,t,os⟩:=by
 repeat (first|specialize UC i ?_|specialize wpAny_madeBy_exc i ?_|wp_step)
 refine codeAny_call_builtin_code (YU.quiet_builtin _ y.quiet) (wpAny_check_new_subU y j T i ?_);refine codeAny_exc_new_subU y j F T i ?_ hrest
 have a:=Heap.get?_push_of_some {cls:= .ref C,data:= .fields #[.ref h.objs.size,.none,.none,.none,.bool QQ,.none]}
  (Heap.get?_push_of_some {cls:= .type "tuple",data:= .seq rest.toArray} i)
 have v:=Heap.get?_push_of_some {cls:= .ref C,data:= .fields #[.ref h.objs.size,.none,.none,.none,.bool QQ,.none]}
  (Heap.get?_push_of_some {cls:= .type "tuple",data:= .seq rest.toArray} p)
 have f:((h.push {cls:= .type "tuple",data:= .seq rest.toArray}).push {cls:= .ref C,data:= .fields #[.ref h.objs.size,.none,.none,.none,.bool QQ,.none]}).Ns N mN:=
  let⟨o,es,ep,e,r⟩:=hn;⟨o,es,ep,Heap.get?_push_of_some _ (Heap.get?_push_of_some _ e),r⟩
 have l:((h.push {cls:= .type "tuple",data:= .seq rest.toArray}).push
   {cls:= .ref C,data:= .fields #[.ref h.objs.size,.none,.none,.none,.bool QQ,.none]}).get? (h.objs.size+1)=lD
   {cls:= .ref C,data:= .fields #[.ref h.objs.size,.none,.none,.none,.bool QQ,.none]}:=by heap_get
 have u:(QH.ref C::S).contains (.ref C)=QJ:=by simp
 have m:=T.keeps (h':=(h.push {cls:= .type "tuple",data:= .seq rest.toArray}).push {cls:= .ref C,data:= .fields #[.ref h.objs.size,.none,.none,.none,.bool QQ,.none]})
  fun b o e=>Heap.get?_push_of_some _ (Heap.get?_push_of_some _ e)
 unfold isInstance
 repeat (first|specialize UC l ?_|(specialize abz a ?_;rw[u])|wp_step)
 refine wpAny_typeLookup_tail a f m F.mroIs F.init.lookup ?_;rw[hi];refine Sx (QG ?_);unfold bindSpecial;refine QG (UA ⟨_,v,n⟩ ?_);rw[if_pos (by decide)];refine QR (QG (wpAny_mono (H _ (h.objs.size+1) ⟨fun b o I=>Heap.get?_push_of_some _ (Heap.get?_push_of_some _ I),Heap.get?_none_of_le (Vh _),h.objs.size,l,Heap.get?_none_of_le (QU _),?_⟩) (fun r s' G=> ?_) fun _ _ x=>x))
 .exact Heap.get?_push_of_some _ (Heap.get?_push_at rfl rfl)
 .obtain⟨rfl,J⟩:=G
  wp_walk
  exact J
theorem zB (l:UD R newId X U) (i:Z.contains (.type R)=QJ) (F:UD B Y Wj Z) (T:acJ h Z S)
  (a:h.get? C=lD (excClassObj nm q C N bs S hdct sn sub ab col dd k0 k1 k2 k3 k5 newId)) (hn:h.Ns N mN) (hi:mN "__init__"=lD (.ref fI)) (f:h.get? fI=lD oI) (b:oI.cls= .type "function")
  (j:∀h' e,Heap.MadeExcOf h h' e (.ref C) rest->wpAny (model prog w) (A.under (.builtin "type.__call__" ⟨.ref C::rest,[]⟩)) (call (.ref fI) (.ref e::rest)) (fun r s'=>r= .none/\Q (.ref e) s') E ⟨h',g,d,t,os⟩) (hrest:rest.length<=QX):
  wpAny (model prog w) A (call (.ref C) rest) Q E ⟨h,g,d,t,os⟩:=by
 have o:=tc_lookup;have n:=tc_bind (.ref C);have m:(⟨h,g,d,t,os⟩:QP).TypeIs (.ref C) "type":=⟨_,a,rfl⟩;refine We (codeAny_of_tree ?_)
 repeat (any_goals (first|assumption|specialize UC a ?_|wp_step))
 refine⟨rfl,?_⟩;refine codeAny_call_builtin_at (YU.quiet_builtin _ (by left)) entry_typeCall (wpAny_check_type_call_sub a (oO (hrest:=hrest) l i F T a hn hi f b fun h' e hm=> ?_));exact j h' e hm
end
section
variable {prog:Rf} {w:RB} {A:Rv} {E:QH->QP->Prop} {s:QP} {env:Env}
variable {nm q:Str} {C N:QN} {bs Z S:List QH} {hdct:Bool} {sn:List Str} {sub:List QH} {ab:Bool} {col:Option Bool} {dd:Option QN} {k0 k1 k2 k3 k5:Option QH} {B Bn newId Y Wj X:String} {U:List QH}
theorem xq (Fn:UD Bn newId X U) (t:S.contains (.type Bn)=QJ) (F:UD B Y Wj S)
  (u:Z.contains (.type "BaseException")=QJ) (o:A.handled=Ld) (R:(backTo Ua (Rh args env)).any (·.1)=QQ) (hi:mN "__init__"=lD (.ref fI)) (p:oI.cls= .type "function")
  (h:wpAny (model prog w) A (eval (.Name x np) env) (fun f s₁=>f= .ref C/\wpAny (model prog w) A (evalArgs (.ref C) QJ (backTo Ua (Rh args env)) [])
   (fun a s₂=>a.kw=[]/\a.pos.length<=QX/\s₂.heap.get? C=lD (excClassObj nm q C N bs Z hdct sn sub ab col dd k0 k1 k2 k3 k5 newId)/\s₂.heap.Ns N mN/\s₂.heap.get? fI=lD oI/\acJ s₂.heap S Z/\
    ∀h' e,Heap.MadeExcOf s₂.heap h' e (.ref C) a.pos->wpAny (model prog w) (A.under (.builtin "type.__call__" ⟨.ref C::a.pos,[]⟩)) (call (.ref fI) (.ref e::a.pos)) (fun r s'=>r= .none/\∃ob,s'.heap.get? C=lD (excClassObj nm q C N bs Z hdct sn sub ab col dd k0 k1 k2 k3 k5 newId)/\s'.heap.get? e=lD ob/\ob.cls= .ref C/\(∃fs,ob.data= .fields fs/\fs[1]? =lD QH.none)/\E (.ref e) s') E {s₂ with heap:=h'}) E s₁) E s):
  wpAny (model prog w) A (exec (.Raise (lD (.Call (.Name x np) args [] Ua)) Ld pos) env) Q E s:=by
 rw[arm_exec_Raise]
 first
  |refine QG (Tn (iJ u o (QG (wpAny_mono (XQ (wpAny_mono h (fun f s₁ i=> ?_) fun _ _ x=>x)) (fun v l b=>QG (Tn (QR b))) fun _ _ x=>x))))
  |(simp only[evalOpt,Option.map];refine QG (Tn (iJ (C:=C) (nm:=nm) (q:=q) (N:=N) (bs:=bs) (hdct:=hdct) (sn:=sn) (sub:=sub) (ab:=ab) (col:=col) (dd:=dd) (k0:=k0) (k1:=k1) (k2:=k2) (k3:=k3) (k5:=k5) (newId:=newId) u o (QG (wpAny_mono (XQ (wpAny_mono h (fun f s₁ i=> ?_) fun _ _ x=>x)) (fun v l b=>QG (Tn (QR b))) fun _ _ x=>x)))))
  |(refine QG (Tn (iJ u o ?_));refine QG (wpAny_mono (XQ (wpAny_mono h (fun f s₁ i=> ?_) fun _ _ x=>x)) (fun v l b=>QG (Tn (QR b))) fun _ _ x=>x))
 obtain⟨rfl,i⟩:=i;unfold callWith;refine QG (Sx (wpAny_mono i (fun a s₂ j=>QG (Tn ?_)) fun _ _ x=>x));obtain⟨G,P⟩:=a;obtain⟨n,m,y,hn,I,T,j⟩:=j;obtain rfl:=n;obtain⟨hp,g,d,tk,os⟩:=s₂;simp only[R];refine QG (wpAny_keeperOf_exc y ?_);refine QG (zB (hrest:=m) Fn t F T y hn hi I p fun h' e hm=>wpAny_mono (j h' e hm) (fun r s' ⟨H,ob,O,M,L,K,J⟩=>⟨H,QG (Sx (wpAny_point (QR ?_)))⟩) fun _ _ x=>x);exact⟨e,ob,rfl,O,M,L,K,J⟩
end
end L9
namespace L9
open PySem PySem.W PyProof.Rows Builtin Builtin.ObjectAttr
abbrev GR:List QH:=[.type "ValueError",.type "Exception",.type "BaseException",.type "object"]
section
variable {prog:Rf} {w:RB} {A:Rv} {K:Frag} {B C x:QN} {s:QP} {R:WW->QP->Prop} {Z:ClassData} {name:Str} {Y:Tok} {v:QH} {fs:Array QH}
theorem Jx (X:K.In s.heap) (u:clsIn K C=lD Z) (hm:Z.mro= .ref C:: .ref B::GR) (hd:Z.hasDict=QJ) (hn:findIn K (.ref C) name=lD Ld) (i:s.heap.get? x=lD ⟨.ref C,Ld,.fields fs,#[]⟩)
  (H:∀h' YQ,h'.get? x=lD ⟨.ref C,lD s.heap.objs.size,.fields fs,#[]⟩->h'.Ns1 s.heap.objs.size (fun y=>if y=name then lD v else Ld)->(∀b o,b≠x->s.heap.get? b=lD o->h'.get? b=lD o)->R (.ok (.ret .none)) {s with heap:=h',toks:=YQ}):
  codeAny (model prog w) A (.call (.builtin "object.__setattr__") ⟨[.ref x,.str name Y,v],[]⟩) R s:=by
 have I:InstAt s.heap x ⟨.ref C,Ld,.fields fs,#[]⟩ C Ld:=⟨i,rfl,rfl,True.intro⟩;have m:=PySem.F.store_object;have sub:Looks (model prog w) s.heap (isInstance (.ref x) (.type "object")) QJ:=I.type.andThen (looks_mroIn X (by unfold mroIn;rw[u,Option.bind_some,hm,if_neg (by simp)];simp));refine UR m.slot.plain m.entry (@check_slot (model prog w) _ _ s "object.__setattr__" "object" "__setattr__" (.ref x) [.str name Y,v] [] _ m.kind m.split sub (m.args (.ref x) (.str name Y) v) ?_);have l:Looks (model prog w) s.heap (mroOf (.ref C)) Z.mro:=(looks_clsIn X u).andThen .now;rw[osa_eq,refuse_eq];refine QG (QG (I.type.here (QG (l.here ?_))));rw[hm,afB,afB,PySem.F.store_ValueError.passes];refine QR (QG (I.type.here (QG ((looks_findIn X hn).here (QG (QR ?_))))));unfold storeInOwnDict;refine QG (QR (QG ?_));unfold ownDictForStores instanceDict;refine QG (afu i (QG ((looks_clsIn X u).here ?_)));rw[hd,if_neg (by decide)];show wpAny _ _ (if(!QJ|| !typeHasDict (.ref C))=QJ then pure Ld else(do
        let d<-alloc {cls:=QH.type "dict",data:=Data.dict #[]}
        update x fun o=>{cls:=o.cls,dict:=lD d,data:=o.data,slots:=o.slots}
        dictMade (.ref C) x d)) _ _ _
 rw[if_neg (by simp[typeHasDict])];obtain⟨h,g,d,t,os⟩:=s;dsimp only at X i H I sub l⊢;have f:(h.push {cls:= .type "dict",data:= .dict #[]}).get? x=lD ⟨.ref C,Ld,.fields fs,#[]⟩:=Heap.get?_push_of_some _ i;have a:=Rg (Heap.lt_size i);refine QG (wpAny_alloc' ?_);refine QG (wpAny_update' f ?_);refine QR ?_
 have p:((h.push {cls:= .type "dict",data:= .dict #[]}).update x fun o=>{cls:=o.cls,dict:=lD h.objs.size,data:=o.data,slots:=o.slots}).get? h.objs.size
   =lD {cls:= .type "dict",data:= .dict #[]}:=
  (Heap.get?_update_ne _ _ _ _ a.symm).trans (Heap.get?_push_at rfl rfl)
 have ZV:((h.push {cls:= .type "dict",data:= .dict #[]}).update x fun o=>{cls:=o.cls,dict:=lD h.objs.size,data:=o.data,slots:=o.slots}).Ns h.objs.size (fun _=>Ld):=
  ⟨_,#[],_,p,rfl,fun e M=>absurd M (by simp),fun _=>rfl⟩
 unfold storeInDict newKeyGuard;refine QG (QR (QG (wpAny_nsSet1 (Heap.Ns1.of_empty ZV) fun h' j G=> ?_)));obtain⟨oD,O,Q,n,q,r⟩:=j.count (Within.cons name v Within.nil);refine QG (adi n (by rw[q];exact adj (RA r (by rw[Q5,Ta,Tt];omega))) ?_);refine QR (H h' _ ?_ ?_ fun b ob E J=> ?_)
 .exact(G.2 x a).trans (Heap.get?_update_self _ f rfl)
 .obtain⟨L,P,S,e1,e2,U,N,T⟩:=j;exact⟨L,P,S,e1,e2,U,N,fun y=>by rw[T y]⟩
 .exact(G.2 b (Rg (Heap.lt_size J))).trans ((Heap.get?_update_ne _ _ _ _ E).trans (Heap.get?_push_of_some _ J))
theorem IZ (X:K.In s.heap) (g:clsIn K C=lD Z) (hm:Z.mro= .ref C:: .ref B::GR) (hd:Z.hasDict=QJ) (a:findIn K (.ref C) "__setattr__"=lD (lD (.builtin "object.__setattr__"))) (hn:findIn K (.ref C) name=lD Ld) (e:s.heap.get? x=lD ⟨.ref C,Ld,.fields fs,#[]⟩)
  (f:∀h' YQ,h'.get? x=lD ⟨.ref C,lD s.heap.objs.size,.fields fs,#[]⟩->h'.Ns1 s.heap.objs.size (fun y=>if y=name then lD v else Ld)->(∀b o,b≠x->s.heap.get? b=lD o->h'.get? b=lD o)->Q () {s with heap:=h',toks:=YQ}):
  wpAny (model prog w) A (setAttr (.ref x) name v) Q E s:=
 set_plain X (⟨e,rfl,rfl,True.intro⟩:InstAt s.heap x ⟨.ref C,Ld,.fields fs,#[]⟩ C Ld) a (Jx X g hm hd hn e f)
end
section
variable {prog:Rf} {w:RB} {A:Rv} {E:QH->QP->Prop} {h:Heap} {g:Array WU} {d:aa3} {t:Nat} {os:aan}
variable {nm q:Str} {C N:QN} {bs bm ZN:List QH} {hdct:Bool} {sn:List Str} {sub:List QH} {ab:Bool} {col:Option Bool} {dd:Option QN} {k0 k1 k2 k3 k5:Option QH} {B newId Z Wj:String}
theorem CL (F:UD B Z Wj ZN) (T:acJ h ZN bm)
  (p:h.get? C=lD (excClassObj nm q C N bs bm hdct sn sub ab col dd k0 k1 k2 k3 k5 newId)) (j:h.get? e=lD ⟨.ref C,Ld,.fields fs,#[]⟩) (l:fs[0]? =lD (.ref t0))
  (m:∀h' fs',h'.get? e=lD ⟨.ref C,Ld,.fields fs',#[]⟩->fs'[0]? =lD (.ref h.objs.size)->(∀i,i≠0->fs'[i]? =fs[i]?)->(∀b o,b≠e->h.get? b=lD o->h'.get? b=lD o)->Q .none ⟨h',g,d,t,os⟩) (hrest:rest.length<=QX):
  wpAny (model prog w) A (call (.builtin Wj) (.ref e::rest)) Q E ⟨h,g,d,t,os⟩:=by
 refine We (UR F.init.plain F.initEntry (wpAny_check_init_subU F T p j rfl ?_));unfold Builtin.«BaseException.__init__»;dsimp only;rw[if_neg (by simp)];unfold newTuple Builtin.BaseException.bexcPut;have f:=(TH.mp l).1;have a:(h.push {cls:= .type "tuple",data:= .seq rest.toArray}).get? e=lD ⟨.ref C,Ld,.fields fs,#[]⟩:=Heap.get?_push_of_some _ j;refine QG (Sf (QG (QG (RU a rfl l (QG (UB a rfl f ?_))))) (by show rest.toArray.size<=QX;rw[QZ];exact hrest));refine TZ (QR (m _ (fs.setIfInBounds 0 (.ref h.objs.size)) ?_ (by simp[f]) (fun i hi=>by rw[W7 (Ne.symm hi)]) fun b o n z=> ?_))
 .exact Heap.get?_update_self (Obj.mapFields (·.setIfInBounds 0 (.ref h.objs.size))) a rfl
 .exact(Heap.get?_update_other _ _ (Ne.symm n)).trans (Heap.get?_push_of_some _ z)
end
end L9
namespace L9
open PySem PySem.Spec PyProof.Rows L2
def Pk (v:V):Prop:=v= .TN\/∃i:Int,v= .int i/\i.natAbs.log2<1920
theorem JB {i:Int} (h:i.natAbs.log2<1920):(Str.ofString (toString i)).length<=5000:=by have e:=int_text_length_le (by decide) h;rw[PySem.ofString_length];omega
theorem M5 (I:Inv X pins σ H s) (r:RelV v u) (f:Pk v)
  (h:∀(y:Str) (t:Tok) (a:QP),y.length<=5000->Inv X pins σ H a->Q (.str y t) a):wpAny (model X.prog X.w) A (formatField u Str.empty) Q E s:=by
 rcases f with rfl|⟨i,rfl,hi⟩
 .obtain rfl:=r;exact wpAny_formatField_none (h _ _ _ (by decide) (I.tok _))
 .obtain⟨t,rfl⟩:=r;exact formatField_int_small hi (h _ _ _ (JB hi) (I.tok _))
def PJ (X:Cx) (es:List RM) (n:Nat) (t:L2.St->Hp->(Hp->Prop)->Prop):Prop:=
 ∀(a:List (QN×Obj)) (s:QP) (e:L2.St) (H:Hp) (b:Str) (Q:Hp->Prop),Inv X a e H s->b.length+n<=1000000->t e H Q->
  wpAny (model X.prog X.w) X.A (joinParts b (evalEach es X.env)) (fun v h=>∃(y:Str) (g:Tok) (f:Hp),v= .str y g/\Inv X a e f h/\Q f) X.xe s
section
variable {X:Cx} {e:RM} {es:List RM} {n:Nat} {te:TE} {t:L2.St->Hp->(Hp->Prop)->Prop} {pos:Pos}
theorem M8:PJ X [] 0 (fun _ H Q=>Q H):=by intro a s f H b Q I g h;exact joinParts_nil ⟨_,_,H,rfl,I.tok _,h⟩ (by rw[Tt];omega)
theorem Ng (i:x.length<=5000) (g:PJ X es n t):PJ X (.Constant (.str x) k pos::es) (n+5000) t:=by intro a s f H b Q I j h;refine joinParts_consE (joinParts_cons (Calls.Constant_str ?_));have e:=ahC b x;exact⟨by rw[Tt];omega,g a _ f H (b++x) Q (I.tok _) (by omega) h⟩
theorem Ll (i:PE X e te) (g:PJ X es n t):PJ X (.FormattedValue e (-1) Ld pos::es) (n+5000) (fun σ H Q=>te σ H fun v H1=>Pk v/\t σ H1 Q):=by intro a s σ H b Q I A h;refine joinParts_consE (joinParts_cons (FormattedValue_plain (cA (i a s σ H _ I h) fun u o ⟨v,H1,j,r,f,q⟩=> ?_)));refine M5 j r f fun y m p w l=> ?_;have e:=ahC b y;exact⟨by rw[Tt];omega,g a _ σ H1 (b++y) Q l (by omega) q⟩
theorem JE (h:PJ X (g::e2::es) n t) (hn:n<=900000):PE X (.JoinedStr (g::e2::es) pos) (fun σ H Q=>t σ H fun H1=>∀y:Str,Q (.str y) H1):=by intro a s σ H Q I b;refine JoinedStr_many (cA (h a s σ H Str.empty _ I (by show 0+n<=1000000;omega) b) fun v l ⟨y,j,H1,f,i,q⟩=> ?_);subst f;exact⟨.str y,H1,i,⟨_,rfl⟩,q y⟩
end
def HB (C e:QN):Heap->Prop:=fun h=>∃fs t0,h.get? e=lD ⟨.ref C,Ld,.fields fs,#[]⟩/\fs[0]? =lD (.ref t0)/\fs[1]? =lD .none
def Oz (C e p:QN):Heap->Prop:=fun h=>∃fs a0,h.get? e=lD ⟨.ref C,lD p,.fields fs,#[]⟩/\fs[0]? =lD a0/\fs[1]? =lD .none
structure XC (K:QF) (C B fI:QN):Prop where
 obj:∃nm q N bs sn sub ab col dd k0 k1 k2 k3 k5,K.lookup C=lD (excClassObj nm q C N bs (.ref B::GR) QJ sn sub ab col dd k0 k1 k2 k3 k5 "ValueError.__new__")/\Xr K N=QJ/\Q9 K N "__init__"=lD (lD (.ref fI))
 base:V9 K B GR "ValueError.__new__"=QJ
 sa:RI K (.ref C) "__setattr__"=lD (lD (.builtin "object.__setattr__"))
theorem xj {K:QF} (q:V9 K B GR n=QJ):VQ K GR (.ref B::GR)=QJ:=by
 unfold V9 at q;split at q
 .rename_i dd f e b
  split at q
  .simp only[Q6,beq_iff_eq,aal] at q;obtain⟨⟨⟨⟨⟨_,_⟩,_⟩,_⟩,Sh⟩,a⟩:=q;unfold VQ;dsimp only;rw[b];dsimp only;rw[Sh,a,show VQ K GR GR=QJ from by unfold VQ;rw[beq_self_eq_true,UP],beq_self_eq_true,Tf,Tf,YM]
  .cases q
 .cases q
section
variable {X:Cx} {B C fI:QN} {pos S U:Pos} {Y:RM} {Z:List RM} {t:TA} {b:Str}
theorem D6 (h:H a=lD o):bC H a o=H:=by
 funext c;by_cases z:c=a
 .rw[z,aH,h]
 .rw[az z]
def LA (C:QN) (t:TA):TE:=fun f H Q=>t f H fun vs a=>∃e y,vs=[.ref e,.str y]/\a e=lD (.ext (HB C e))/\Q .TN a
theorem D8 {pl:Sem Bool} (hg:Gl X b) (hm:X.mg b=lD (.ref B)) (hr:Xf X.K B (.type "type")=QJ) (hf:Xg X.K (.ref B) (.type "type") "__init__"=lD (.val (.builtin "ValueError.__init__")))
  (hs:T7 X.K (.ref B) "__getattribute__"=lD (lD (.builtin "type.__getattribute__"))) (v:XC X.K C B fI) (ha:PA X (Y::Z) t)
  (ef:Rh (Y::Z) X.env=(QQ,eval Y X.env)::Rh Z X.env:=by rfl) (Xn:(backTo pos (Rh Z X.env)).any (·.1)=QQ:=by rfl) (YG:(b==("__debug__":Str))=QQ:=by decide)
  (ht:eval (.Call (.Attribute (.Name b S) "__init__" U) (Y::Z) [] pos) X.env=(do
   let ov<-eval (.Name b S) X.env
   standAt U.atName
   let(f,first)<-holding [ov] (getMethod ov "__init__" pl)
   callWith pos f first (backTo pos (Rh (Y::Z) X.env)) (backToKw pos (keywordEach [] X.env))):=by rfl):
  PE X (.Call (.Attribute (.Name b S) "__init__" U) (Y::Z) [] pos) (LA C t):=by
 intro a s F H Q I h;refine Vy (pl:=pl) (mJ I hg hm ?_ YG) ht;refine PySem.W.method_cls I.Xy hs (PySem.W.cls_value I.Xy hr hf (by decide) ?_);have A:=ha pos a {s with toks:=s.toks+1} F H _ (I.tok _) h;rw[ef] at A⊢;refine Calls.callWith_builtin (by show(QQ||(backTo pos (Rh Z X.env)).any (·.1))=QQ;rw[Xn]<;>rfl) (Calls.evalArgs_plain (cA A fun us p ⟨vs,E,i,r,e,y,ev,l,q⟩=> ?_));subst ev;obtain⟨M,u2,rfl,R,P⟩:=Dn r;obtain rfl:M= .ref e:=R;obtain⟨tk,rfl⟩:=P;obtain⟨⟨fs,t0,g1,g2,g3⟩,_,gk⟩:=(show ObjOk X.prog X.w E p.heap e (.ext (HB C e)) from i.Sh e _ l);obtain⟨nm,q',N,bs,sn,sub,ab,col,dd,k0,k1,k2,k3,k5,lk,Sh,hin⟩:=v.obj;have T:=YZ i.Xy (xj v.base);obtain⟨h2,g,d,j,os⟩:=p;refine CL Tw T (i.Xy _ _ lk) g1 g2 (fun h' m n e2 e3 e4=> ?_) (by show 1<=QX;decide);refine⟨.TN,E,?_,rfl,q⟩;have w:=i.write (x:=e) (e:=e) (o:= .ext (HB C e)) (h':=h') (t':=j) (by rw[l];exact True.intro) (.inl rfl) (fun b u hb z=>e4 b u hb z) ⟨_,n⟩ ⟨⟨m,_,n,e2,by rw[e3 1 (by decide)];exact g3⟩,⟨_,n⟩,fun h1 h2 ⟨f1,O,L,J,G⟩ hk=>⟨f1,O,hk _ L,J,G⟩⟩;rw[D6 l] at w;exact w
def Ou (C:QN) (f:Str) (i h:TE):TS:=fun D a H=>h a H fun v j=>i a j fun x g=>∃e,x= .ref e/\g e=lD (.ext (HB C e))/\∀p,g p=Ld->p≠e->D.nx a (bC (bC g e (.ext (Oz C e p))) p (.xd [(f,v)]))
theorem Jy (Q:XC X.K C B fI) (hn:RI X.K (.ref C) f=lD Ld) (ha:PE X o ta) (hv:PE X value tv) (hs:Sy value (lD (.Attribute o f pos')) pos.line X.env=pure QQ):PS X (.Assign [.Attribute o f pos'] value pos) (Ou C f ta tv):=by
 intro l s G H D I h;refine XY (cA (hv l s G H _ I h) fun u s1 ⟨v,H1,I1,rv,q⟩=>cA (ha l s1 G H1 _ I1 q) fun ov p ⟨x,T,A,rx,e,ex,j,q2⟩=> ?_) hs;subst ex;obtain rfl:=rx;obtain⟨⟨fs,t0,R,g2,g3⟩,_,gk⟩:=(show ObjOk X.prog X.w T p.heap e (.ext (HB C e)) from A.Sh e _ j);obtain⟨nm,q',N,bs,sn,sub,ab,col,dd,k0,k1,k2,k3,k5,lk,Sh,hin⟩:=Q.obj;obtain⟨F,hc,L,M⟩:∃F,aaU X.K C=lD F/\F.mro= .ref C:: .ref B::GR/\F.hasDict=QJ:=by unfold aaU;rw[lk];exact⟨_,rfl,rfl,rfl⟩
 refine IZ A.Xy hc L M Q.sa hn R fun h' YQ O e2 E=> ?_;have pe:=Sa (Heap.lt_size R);have r:=A.Sh.fresh (QU _);refine⟨G,_,?_,q2 p.heap.objs.size r pe⟩;have m:∀b o,p.heap.get? b=lD o->b≠p.heap.objs.size:=fun b o z=>Rg (Heap.lt_size z);refine A.un ⟨fun b o z n _ _=>E b o (fun y=>by rw[y,j] at n;cases n) z,fun b o z n _ _=>⟨o.slots,E b o (fun y=>by rw[y,j] at n;cases n) z⟩,fun b o z n _=> ?_,fun b o z _=> ?_,fun b xs z=> ?_,fun b o u z=> ?_,fun b ps z=>⟨#[],?_⟩⟩ ?_
 .rw[az (m b o z),az (fun y=>by rw[y,j] at n;cases n)];exact n
 .by_cases y:b=e
  .subst y;exact⟨_,O⟩
  .exact⟨o,E b o y z⟩
 .rw[az (fun y=>by rw[y,r] at z;cases z),az (fun y=>by rw[y,j] at z;cases z)];exact z
 .rw[az (fun y=>by rw[y,r] at z;cases z),az (fun y=>by rw[y,j] at z;cases z)];exact z
 .rw[az (fun y=>by rw[y,r] at z;cases z),az (fun y=>by rw[y,j] at z;cases z),z];simp
 .intro a o z
  by_cases P:a=p.heap.objs.size
  .subst P
   rw[aH] at z;cases z;refine⟨_,e2,fun g=> ?_⟩;show Vg (match g==f with|true=>lD v|false=>Tq g []) (if g=f then lD u else Ld);cases i:g==f with
   |true=>rw[if_pos (beq_iff_eq.mp i)];exact rv
   |false=>rw[if_neg (fun w=>by rw[beq_iff_eq.mpr w] at i;cases i)];exact True.intro
  .rw[az P] at z
   by_cases J:a=e
   .subst J;rw[aH] at z;cases z;exact⟨⟨fs,_,O,g2,g3⟩,⟨_,O⟩,fun h1 h2 ⟨f1,t1,z1,z2,z3⟩ hk=>⟨f1,t1,hk _ z1,z2,z3⟩⟩
   .rw[az J] at z
    have own:∀b,T b=lD (.own a)->b≠e/\b≠p.heap.objs.size:=fun b y=>⟨(fun k=>by rw[k,j] at y;cases y),(fun k=>by rw[k,r] at y;cases y)⟩;refine(A.Sh a o z).V7 (fun b w i y=>E b w (fun k=> ?_) y) (fun b y=>by rw[az (own b y).2,az (own b y).1];exact y) fun b xs y=>by rw[az (fun k=>by rw[k,r] at y;cases y),az (fun k=>by rw[k,j] at y;cases y)];exact y
    rcases i with i|i
    .exact J (i.symm.trans k)
    .exact(own b i).1 k
end
end L9
namespace L9
open PySem PySem.Spec PyProof.Rows L2 L4
def NN (H:Hp) (e:QN):Hp:=fun a=>if a=e then Ld else H a
theorem qp:NN H e e=Ld:=if_pos rfl
theorem jo (h:a≠e):NN H e a=H a:=if_neg h
theorem yr {K:QF} (X:K.In h) (G:h.Ns N mg) (e:Q9 K N n=lD (lD v)):mg n=lD v:=by
 obtain⟨o,p,q,f,j,_,g⟩:=G;unfold Q9 at e;split at e
 .rename_i l m b a
  have:=(X _ _ a).symm.trans f;cases this;cases j;split at e
  .rename_i r i;cases e;rw[<-g];unfold nsFind findBy;rw[<-ZH,i];rfl
  .split at e<;>cases e
 .cases e
theorem Ly {K:QF} (i:TF K (.ref f)=QJ) (l:K.lookup f=lD o):o.cls= .type "function":=by unfold TF aai at i;dsimp only at i;rw[l] at i;exact Ra (beq_iff_eq.mp i)
section
variable {X:Cx} {Z:List (QN×Obj)} {Y:L2.St} {H:Hp} {s:QP} {h':Heap} {e:QN} {o:HO}
theorem Hf (I:L2.Inv X Z Y H s) (k:∀b u,s.heap.get? b=lD u->h'.get? b=lD u) (n:s.heap.get? e=Ld) (new:ObjOk X.prog X.w (bC H e o) h' e o):L2.Inv X Z Y (bC H e o) {s with heap:=h',toks:=t'}:=by
 have hn:=wx I.Sh n;have ne:∀b u,s.heap.get? b=lD u->b≠e:=fun b u z y=>by rw[y,n] at z;cases z
 refine I.un ⟨fun b u z _ _ _=>k b u z,fun b u z _ _ _=>⟨u.slots,k b u z⟩,fun b u z q _=>by rw[az (ne b u z)];exact q,fun b u z _=>⟨u,k b u z⟩,fun b xs z=> ?_,fun b u v z=> ?_,fun b ps z=>⟨#[],?_⟩⟩ ?_
 .rw[az (fun y=>by rw[y,hn] at z;cases z)];exact z
 .rw[az (fun y=>by rw[y,hn] at z;cases z)];exact z
 .rw[az (fun y=>by rw[y,hn] at z;cases z),z];simp
 .intro a u z
  by_cases y:a=e
  .subst y;rw[aH] at z;cases z;exact new
  .rw[az y] at z;refine(I.Sh a u z).V7 (fun b w _ q=>k b w q) (fun b q=>by rw[az (fun w=>by rw[w,hn] at q;cases q)];exact q) fun b xs q=>by rw[az (fun w=>by rw[w,hn] at q;cases q)];exact q
theorem Ja (I:L2.Inv X Z Y H s) (f:H e=lD (.ext φ)):L2.Inv X Z Y (NN H e) s:=by
 have:=I.un (t':=s.toks) (H':=NN H e) ⟨fun b u z _ _ _=>z,fun b u z _ _ _=>⟨u.slots,z⟩,fun b u z q _=> ?_,fun b u z _=>⟨u,z⟩,fun b xs z=> ?_,fun b u v z=> ?_,fun b ps z=>⟨#[],?_⟩⟩ ?_
 .exact this
 .by_cases y:b=e
  .rw[y];exact qp
  .rw[jo y];exact q
 .rw[jo (fun y=>by rw[y,f] at z;cases z)];exact z
 .rw[jo (fun y=>by rw[y,f] at z;cases z)];exact z
 .rw[jo (fun y=>by rw[y,f] at z;cases z),z];simp
 .intro a u z
  have y:a≠e:=fun y=>by rw[y,qp] at z;cases z
  rw[jo y] at z;exact(I.Sh a u z).V7 (fun b w _ q=>q) (fun b q=>by rw[jo (fun w=>by rw[w,f] at q;cases q)];exact q) fun b xs q=>by rw[jo (fun w=>by rw[w,f] at q;cases q)];exact q
end
def AY (C:QN) (sp:Sp) (E:XK) (g:TA):TS:=fun _ f H=>g f H fun vs b=>vs.length<=QX/\∀e,b e=Ld->sp (.ref e::(vs++[])) (bC b e (.ext (HB C e))) (fun v a=>v= .TN/\∃p,a e=lD (.ext (Oz C e p))/\E (.ref C) (lD p) (NN a e)) E0
theorem CC {K:QF}
  (Y:XC K C B fI) (R:K.lookup fI=lD oI) (iI:TF K (.ref fI)=QJ) (FI:FnOk P w K mg base dm k fI fdI ps sp) (bI:Binds K fdI ps [])
  (hr:Td (k+1) (fT (lw P w) P w K mg base N qual scope f cd A outer s0 H0 E).A)
  (hg:Gl (fT (lw P w) P w K mg base N qual scope f cd A outer s0 H0 E) x) (hm:mg x=lD (.ref C)) (ha:PA (fT (lw P w) P w K mg base N qual scope f cd A outer s0 H0 E) (e0::es) ta)
  (YG:(x==("__debug__":Str))=QQ:=by decide)
  (U:Rh (e0::es) (fT (lw P w) P w K mg base N qual scope f cd A outer s0 H0 E).env=(QQ,eval e0 (fT (lw P w) P w K mg base N qual scope f cd A outer s0 H0 E).env)::Rh es (fT (lw P w) P w K mg base N qual scope f cd A outer s0 H0 E).env:=by rfl)
  (Xn:(backTo Ua (Rh es (fT (lw P w) P w K mg base N qual scope f cd A outer s0 H0 E).env)).any (·.1)=QQ:=by rfl):
  PS (fT (lw P w) P w K mg base N qual scope f cd A outer s0 H0 E) (.Raise (lD (.Call (.Name x np) (e0::es) [] Ua)) Ld pos) (AY C sp E ta):=by
 intro l s σ H D I h;obtain⟨nm,qn,Nn,bs,sn,sub,ab,col,dd,k0,k1,k2,k3,k5,Q,Sh,F⟩:=Y.obj;have a:=I.ok.mod.kin;have oC:=a _ _ Q;have O:=Heap.Ns.of_isNs (PySem.W.isNs_of_in a Sh);have ni:=yr a O F;have oF:=a _ _ R;have T:=YZ a (xj Y.base);refine xq (nm:=nm) (q:=qn) (N:=Nn) (bs:=bs) (hdct:=QJ) (sn:=sn) (sub:=sub) (ab:=ab) (col:=col) (dd:=dd) (k0:=k0) (k1:=k1) (k2:=k2) (k3:=k3) (k5:=k5) Tw (by left) Tw (T.hasType Tw.hasBase) (I.ok.hd rfl)
  (by rw[U];exact(Vk _).trans Xn) ni (Ly iI R) (mJ I hg hm ⟨rfl,?_⟩ YG)
 have go:=ha Ua l s σ H _ I h;rw[U] at go⊢;refine Calls.evalArgs_plain (cA go fun g j ⟨vs,H1,i,r,hl,q⟩=> ?_);refine⟨rfl,by rw[<-r.length];exact hl,i.bk _ _ oC,O.keeps i.bk,i.bk _ _ oF,T.keeps i.bk,fun h' e m=> ?_⟩;obtain⟨t,y,y2,y3⟩:=m.there;have hn:=wx i.Sh m.new;have S:=q e hn;have J:=Hf (t':=j.toks) (o:= .ext (HB C e)) i m.keeps m.new ⟨⟨_,t,y,rfl,rfl⟩,⟨_,y⟩,fun h1 h2 ⟨f1,t1,z1,z2,z3⟩ hk=>⟨f1,t1,hk _ z1,z2,z3⟩⟩;have M:Vals (V.ref e::(vs++[])) (QH.ref e::(g++[])):= .cons rfl (r.append .nil);have n:(QH.ref e::g++[]).length=ps.length:=by have z:=M.length;rw[FI.len _ _ _ _ S] at z;exact z.symm
 have old:s0.heap.get? e=Ld:=by
  cases z:s0.heap.get? e with
  |none=>rfl
  |some o=>obtain⟨o',L⟩:=i.base.there e o z (fun y=>nomatch y);rw[m.new] at L;cases L
 have bi:=bI {heap:=h',gens:=j.gens,drawn:=j.drawn,toks:=j.toks,os:=j.os} (QH.ref e::g) J.Xy n;rw[aaV] at bi;refine We (Wf (FI.run _ (fT (lw P w) P w K mg base N qual scope f cd A outer s0 H0 E).stack _ _ ⟨QH.ref e::g,[]⟩ (QH.ref e::(g++[])) _ _ E0 (hr.make C g []) (J.aco.make C g []) bi M S) fun r s' b=> ?_);cases r with
 |error e=>exact b.elim
 |ok fl=>
  cases fl with
  |ret u=>obtain⟨v,H',G,rv,ev,p,X,q3⟩:=J.after b;subst ev;obtain⟨⟨fs,a0,g1,g2,Z⟩,_,_⟩:=(show ObjOk _ _ H' s'.heap e (.ext (Oz C e p)) from G.Sh e _ X);refine⟨rv,_,G.Xy _ _ Q,g1,rfl,⟨fs,rfl,Z⟩,?_⟩;exact Kg (hd:=Ld) (Ja G X) ⟨_,_,g1,rfl,rfl,rfl,g2,Z⟩ old (fun T z=>nomatch z) qp (fun T z=>nomatch z) q3
  |next=>exact False.elim b
  |brk=>exact False.elim b
  |cont=>exact False.elim b
end L9
namespace L9
open PySem PySem.Spec PySem.W PyProof.Rows L2 L3 L4
section
variable {prog:Rf} {w:RB} {A:Rv} {E:QH->QP->Prop} {h:Heap} {g:Array WU} {d:aa3} {t:Nat} {os:aan} {a C:QN} {o:Obj} {K:QF} {od:Option Obj} {name:Str} {v:QH}
  {n1 q1:Str} {N1:QN} {b1 m1:List QH} {d1:Bool} {s1:List Str} {u1:List QH} {a1:Bool} {c1:Option Bool} {x1:Option QN} {i0 i1 i2 i3 i5:Option QH} {id1:String}
end
def tS (C:QN) (f:Str):Sp:=fun vs H Q _=>∃e v,vs=[.ref e,v]/\Pk v/\H e=lD (.ext (HB C e))/\∀p,H p=Ld->p≠e->Q .TN (bC (bC H e (.ext (Oz C e p))) p (.xd [(f,v)]))
def Oq:D->Bool
 | .none=>QJ
 | .int i=>decide (i.natAbs.log2<1920)
 |_=>QQ
end L9
namespace L3
open PySem PySem.Spec PyProof.Rows L2
mutual
def Qe:QK->Bool
 | .tuple ds=>Lr ds
 | .int _=>QJ
 | .str _=>QJ
 | .bool _=>QJ
 | .none=>QJ
 |_=>QQ
def Lr:List QK->Bool
 |[]=>QJ
 |d::r=>Qe d&&Lr r
end
section
variable {K:QF} {E:XK} {B:cb} {H0:Hp} {O Z:cb} {σ:L2.St} {H H':Hp} {ρ:aU}
theorem HI (h:Vn K H a xs) (l:H a=lD (.lst ys)):Vn K (fun _=>Ld) a xs:=by
 rcases h with(h|⟨o,h⟩)|h
 .rw[l] at h;cases h
 .rw[l] at h;cases h
 .exact .inr h
mutual
theorem Hs (f:∀b,O b->¬Z b->∃ys,H b=lD (.lst ys)):∀{v:V} {d:D},DV Z K H v d->Qe d=QJ->DV O K H v d
 |_,_,.TN,_=> .TN
 |_,_,.bl b,_=> .bl b
 |_,_,.int i,_=> .int i
 |_,_,.str x,_=> .str x
 |_,_,.tup (a:=a) h hs,e=> .tup ⟨h.1,fun z=>by
   by_cases y:Z a
   .exact h.2 y
   .obtain⟨ys,q⟩:=f a z y;exact HI h.1 q⟩ (wu f hs e)
 |_,_,.lst h hs,e=>by cases e
theorem wu (a:∀b,O b->¬Z b->∃ys,H b=lD (.lst ys)):∀{vs:List V} {ds:List D},SE Z K H vs ds->Lr ds=QJ->SE O K H vs ds
 |_,_,.nil,_=> .nil
 |_,_,.cons h hs,e=>by have f:=Bool.and_eq_true_iff.mp e;exact .cons (Hs a h f.1) (wu a hs f.2)
end
end
end L3
namespace PySem
end PySem
namespace PyProof.Rows
open PySem
section
variable {prog:Rf} {w:RB} {A:Rv} {E:QH->QP->Prop} {s:QP}
theorem rF (b:h.get? a=lD (seqObj "list" vs.toArray n)):∃e,(sortedHeap h a vs out).get? a=lD (seqObj "list" out e):=by have f:=get?_update_seq b (fun _=> #[]);exact⟨_,get?_update_seq (Heap.get?_push_of_some _ (Heap.get?_push_of_some _ f)) _⟩
theorem om (f:b≠a) (e:h.get? b=lD o):(sortedHeap h a vs out).get? b=lD o:=
 (Heap.get?_update_other _ _ (Ne.symm f)).trans (Heap.get?_push_of_some _ (Heap.get?_push_of_some _ ((Heap.get?_update_other _ _ (Ne.symm f)).trans e)))
theorem yi {l:QN} {vs:List QH} {j:List Int} {Q:QH->QP->Prop} (p:s.heap.IsTuple l vs.toArray) (y:IntsAre vs j) (i:vs.length<64)
  (h:∀(a h':Heap) (out:Array QH) (e:Nat) (f:List Int),(∀b o,s.heap.get? b=lD o->a.get? b=lD o)->h'.get? a.objs.size=lD (seqObj "list" out e)->(∀b o,a.get? b=lD o->h'.get? b=lD o)->IntsAre out.toList f->f.Perm j->f.Pairwise (·<=·)->Q (.ref a.objs.size) {s with heap:=h'}):
  wpAny (model prog w) A (call (.builtin "sorted") [.ref l]) Q E s:=by
 obtain⟨o,q,v,n,u⟩:=p;refine Calls.call_function_entry kind_sorted plain_sorted entry_sorted (args_sorted1 _) (QG (m:=checkCount "sorted" 1 1 _) (QR (QG (wpAny_collect_seq l (.inr rfl) q v u (fun a r=>QG (ahD ?_)) (by rw[QZ,Tt];omega)))));have g:(a.push (seqObj "list" vs.toArray 0)).get? a.objs.size=lD (seqObj "list" vs.toArray 0):=Heap.get?_push_size _ rfl;refine QG (Sx (S5 slot_list_sort ⟨_,g,rfl⟩ entry_list_sort (list_sort_tree g y i fun out f F C B=>⟨_,rfl,QR ⟨_,rfl,?_⟩⟩) (args_list_sort _)));obtain⟨e,t⟩:=rF (out:=out) g;exact h a _ out e f r t (fun b G z=>om (Rg (Heap.lt_size z)) (Heap.get?_push_of_some _ z)) F C B
end
end PyProof.Rows
namespace L9
open PySem PySem.Spec PyProof.Rows L2 L3
section
variable {K:QF} {E:XK}
theorem tV:Ub X (.builtin "sorted") (fun xs H Q=>∃(p:QN) (f:List Int),xs=[.ref p]/\Vn X.K H p (f.map V.int)/\f.length<64/\∀(l:QN) (a:List Int),H l=Ld->a.Perm f->a.Pairwise (·<=·)->Q (.ref l) (bC H l (.lst (a.map V.int)))):=by
 intro i s F H xs G Q I r h;obtain⟨p,f,rfl,t,A,q⟩:=h;obtain⟨u,rfl,n⟩:=jM r;cases n;obtain⟨M,rv,pl,J⟩:=I.tuple t;have v:=rv.length;rw[QI] at v;refine yi pl (lG rv) (by omega) fun B L g e a w y C hi j o=> ?_;have b:=j.length_eq;have m:=I.kept (t':=s.toks) w;refine⟨.ref B.objs.size,_,m.laid C (QU _) ?_,rfl,q _ a (m.Sh.fresh (QU _)) j o⟩;refine⟨?_,g.toList,e,iO hi,y⟩;rw[QI,b];have:(64:Nat)<=QX:=by decide
 omega
theorem tI:Ub X (.builtin "sorted") (fun xs H Q=>(∃(p:QN) (a:List Int),xs=[.ref p]/\Ve X.K H p (a.map V.int)/\a.length<64/\∀(l:QN) (b:List Int),H l=Ld->b.Perm a->b.Pairwise (·<=·)->Q (.ref l) (bC H l (.lst (b.map V.int))))\/
  (∃(p:QN) (a:List Int),xs=[.ref p]/\Vn X.K H p (a.map V.int)/\a.length<64/\∀(l:QN) (b:List Int),H l=Ld->b.Perm a->b.Pairwise (·<=·)->Q (.ref l) (bC H l (.lst (b.map V.int))))):=L2.Ub.or vZ tV
def gI:List D->Option RV
 |[.tuple ds]=>(match nk ds with
  |some a=>if a.length<64 then lD (.ow ((j8 a).map .int)) else Ld
  |none=>Ld)
 |ds=>uJ ds
theorem yN:C3 K (fun xs H Q=>(∃(p:QN) (b:List Int),xs=[.ref p]/\Ve K H p (b.map V.int)/\b.length<64/\∀(l:QN) (f:List Int),H l=Ld->f.Perm b->f.Pairwise (·<=·)->Q (.ref l) (bC H l (.lst (f.map V.int))))\/
  (∃(p:QN) (b:List Int),xs=[.ref p]/\Vn K H p (b.map V.int)/\b.length<64/\∀(l:QN) (f:List Int),H l=Ld->f.Perm b->f.Pairwise (·<=·)->Q (.ref l) (bC H l (.lst (f.map V.int))))) gI:=by
 intro O H xs ds rv Q n h e q;unfold gI at e;split at e
 .split at e
  .rename_i b j
   split at e
   .rename_i hn
    cases e;cases h with
    |cons r o=>cases o;obtain⟨a,vs,rfl,i,t⟩:=EI r;rw[pE t j] at i;refine .inr ⟨a,b,rfl,i.1,hn,fun l f m g ef=> ?_⟩;have u:=kz (g.trans (fD b).symm) ef (eK b);subst u;exact q.new (qM _) l m
   .cases e
  .cases e
 .exact .inl (sT O H xs ds rv Q n h e q)
end
end L9
namespace L9
open PySem PySem.W PyProof.Rows Builtin Builtin.ObjectAttr
open PySem.Spec L2
open L3 L4
end L9
namespace LD
open PySem PyProof.Rows L2 L3
mutual
def kd:QK->Bool
 | .none=>QJ
 | .int _=>QJ
 | .str x=>QK.strOk x
 | .tuple xs=>kds xs
 |_=>QQ
def kds:List QK->Bool
 |[]=>QJ
 |x::r=>kd x&&kds r
end
def keyD:QK->Bool
 | .tuple xs=>kds xs&&decide ((QK.tuple xs).depth<=8)
 |_=>QQ
mutual
theorem kd_lay:∀d:QK,kd d=QJ->d.canLay0=QJ
 | .none,_=>rfl
 | .int _,_=>rfl
 | .str x,h=>by unfold QK.canLay0;unfold kd at h;exact h
 | .tuple xs,h=>by unfold QK.canLay0;unfold kd at h;exact Ax xs h
 | .bool _,h| .list _,h| .dict _,h=>by simp[kd] at h
theorem Ax:∀xs:List QK,kds xs=QJ->QK.canLayAll0 xs=QJ
 |[],_=>rfl
 |x::r,h=>by unfold kds at h;rw[Q6] at h;unfold QK.canLayAll0;rw[kd_lay x h.1,Ax r h.2];rfl
end
mutual
theorem kd_eqv:∀d e:QK,kd d=QJ->kd e=QJ->QK.eqv d e=QJ->d=e
 | .none,e,_,h,q=>by cases e<;>simp_all [kd,QK.eqv]
 | .int i,e,_,h,q=>by cases e<;>simp_all [kd,QK.eqv]
 | .str x,e,_,h,q=>by cases e<;>simp_all [kd,QK.eqv]
 | .tuple xs,e,g,h,q=>by
  cases e with
  |tuple a=>rw[QK.eqv] at q;unfold kd at g h;rw[A1 xs a g h q]
  |_=>simp_all [kd,QK.eqv]
 | .bool _,_,h,_,_| .list _,_,h,_,_| .dict _,_,h,_,_=>by simp[kd] at h
theorem A1:∀xs ys:List QK,kds xs=QJ->kds ys=QJ->QK.eqvAll xs ys=QJ->xs=ys
 |[],[],_,_,_=>rfl
 |[],_::_,_,_,q=>by simp[QK.eqvAll] at q
 |_::_,[],_,_,q=>by simp[QK.eqvAll] at q
 |x::xs,y::ys,g,h,q=>by unfold kds at g h;rw[QK.eqvAll] at q;rw[Q6] at g h q;rw[kd_eqv x y g.1 h.1 q.1,A1 xs ys g.2 h.2 q.2]
end
theorem FB [Decidable (d=e)] (hd:kd d=QJ) (a:kd e=QJ):QK.eqv d e=decide (d=e):=by
 by_cases q:d=e
 .subst q;rw[decide_eq_true rfl];exact SeqAt.eqv_refl d (kd_lay d hd)
 .rw[decide_eq_false q]
  cases z:QK.eqv d e with
  |false=>rfl
  |true=>exact absurd (kd_eqv d e hd a z) q
theorem keyD_kd (h:keyD d=QJ):kd d=QJ/\d.depth<=8:=by
 cases d with
 |tuple xs=>unfold keyD at h;rw[Q6] at h;exact⟨by unfold kd;exact h.1,of_decide_eq_true h.2⟩
 |_=>simp[keyD] at h
mutual
def rG (w:RB):QK->Int
 | .none=>reduceHash 0xFCA86420
 | .int i=>hashInt i
 | .str x=>hashStr w x
 | .tuple xs=>reduceHash (Builtin.Tuple.tupleHashOf (rH w xs))
 |_=>0
def rH (w:RB):List QK->List Int
 |[]=>[]
 |x::r=>rG w x::rH w r
end
mutual
def Pp:QK->Nat
 | .tuple xs=>HQ xs+1
 |_=>1
def HQ:List QK->Nat
 |[]=>0
 |x::r=>Pp x+HQ r
end
section
variable {prog:Rf} {w:RB} {E:QH->QP->Prop}
mutual
theorem Av:∀(d:QK) (v:QH) (f:List QN) (A:Rv) (s:QP) (Q:Int->QP->Prop),kd d=QJ->aa6 s.heap v d f->A.units+d.depth<cLine->Q (rG w d) {s with toks:=s.toks+Pp d}->wpAny (model prog w) A (pyHash v) Q E s
 | .none,_,_,A,s,Q,_,r,hu,h=>by cases r;exact YN (T:= "NoneType") rfl F.slot_NoneType_hash F.entry_NoneType_hash (F.args_NoneType_hash_1 _) (adq _) (.inr (by omega)) (QG (QR (QG (wpAny_mkInt (QR ⟨_,_,rfl,h⟩)))))
 | .int i,_,_,A,s,Q,_,r,_,h=>by cases r;exact ade h
 | .str x,_,_,A,s,Q,_,r,_,h=>by cases r;exact adf h
 | .tuple xs,_,_,A,s,Q,hk,r,hu,h=>by
  cases r with
  | @tuple a o vs n _ _ h1 h2 h3 h4=>
   refine YN (T:= "tuple") ⟨_,h1,h2⟩ F.slot_tuple_hash F.entry_tuple_hash (F.args_tuple_hash_1 _) (adq _) (.inr (by omega)) ?_;show wpAny _ _ (Builtin.Tuple.tupleItemsOf (.ref a)>>=_) _ _ s;refine QG (wpAny_tupleItemsOf h1 h3 ?_);refine QG ?_;rw[<-ZK];unfold kd at hk;refine tm xs vs.toList _ A.in1 s #[] _ hk h4 (by simp only[QK.depth,Rv.in1_units] at hu⊢;omega) fun b e=> ?_;show wpAny _ _ (retInt (Builtin.Tuple.tupleHashOf b.toList)) _ _ _;rw[e];refine QG (wpAny_mkInt (QR ⟨_,_,rfl,?_⟩));unfold rG Pp at h
   simpa [WN] using h
 | .bool _,_,_,_,_,_,h,_,_,_| .list _,_,_,_,_,_,h,_,_,_| .dict _,_,_,_,_,_,h,_,_,_=>by simp[kd] at h
theorem tm:∀(xs:List QK) (vs:List QH) (g:List QN) (A:Rv) (s:QP) (b:Array Int) (Q:Array Int->QP->Prop),kds xs=QJ->YX s.heap vs xs g->A.units+QK.depthAll xs<cLine->
  (∀b':Array Int,b'.toList=b.toList++rH w xs->Q b' {s with toks:=s.toks+HQ xs})->
  wpAny (model prog w) A (forIn vs b fun x r=>do let h<-pyHash x;pure PUnit.unit;pure (ForInStep.yield (r.push h))) Q E s
 |[],_,_,A,s,b,Q,_,x,_,h=>by cases x;exact QR (h b (by simp[rH]))
 |k::xs,_,_,A,s,b,Q,hk,x,hu,h=>by
  cases x with
  |cons e a=>
   unfold kds at hk;simp only[Q6,QK.depthAll] at hk hu;rw[VO];refine QG (QG (Av k _ _ A s _ hk.1 e (by omega) ?_));refine QG (QR (QR ?_));refine tm xs _ _ A _ _ Q hk.2 a (by omega) fun b' f=> ?_;have:=h b' (by simp[f,rH]);unfold HQ at this
   simpa [WN] using this
end
theorem wy:∀(n:Nat) (d:QK) (v:QH) (j:List QN) (A:Rv) (s:QP) (Q:Bool->QP->Prop),kd d=QJ->aa6 s.heap v d j->d.depth<=n->Q QJ s->wpAny (model prog w) A (eqIsQuiet n v) Q E s
 |n,.none,_,_,A,s,Q,_,r,_,h=>by cases r;rw[XS _ rfl];exact QR h
 |n,.int i,_,_,A,s,Q,_,r,_,h=>by cases r;rw[XS _ rfl];exact QR h
 |n,.str i,_,_,A,s,Q,_,r,_,h=>by cases r;rw[XS _ rfl];exact QR h
 |0,.tuple xs,_,_,A,s,Q,hk,r,hn,h=>by simp only[QK.depth] at hn;omega
 |n+1,.tuple xs,_,_,A,s,Q,hk,r,hn,h=>by
  cases r with
  | @tuple a o vs m _ _ h1 h2 h3 h4=>
   have g:s.TypeIs (.ref a) "tuple":=⟨_,h1,h2⟩;simp only[QK.depth] at hn;unfold eqIsQuiet;refine QG (Wu g F.slot_tuple_eq.lookup ?_);refine QG (V4 g isSubtype_tuple_tuple ?_);simp only[Yr,Tr,if_false];refine QG (Sk h1 h3 ?_);refine QG ?_;rw[<-ZK];unfold kd at hk;refine wpAny_forIn_list _ (fun b r e=>r.1=Ld/\e=s/\∃ys bs,kds ys=QJ/\YX s.heap b ys bs/\QK.depthAll ys<=n) _ ?_ ?_ _ _ ⟨rfl,rfl,xs,_,hk,h4,by omega⟩
   .rintro v b r e ⟨f,rfl,ys,bs,k1,k2,k3⟩
    cases k2 with
    | @cons _ _ y ys' _ _ g1 g2=>unfold kds at k1;simp only[Q6,QK.depthAll] at k1 k3;refine QG (wy n y v _ A e _ k1.1 g1 (by omega) ?_);simp only[Yr,Tr,if_false];exact QR ⟨rfl,rfl,ys',_,k1.2,g2,by omega⟩
   .rintro⟨p,l⟩ e ⟨f,rfl,_⟩;simp only at f;subst f;exact QR h
 |_,.bool _,_,_,_,_,_,h,_,_,_|_,.list _,_,_,_,_,_,h,_,_,_|_,.dict _,_,_,_,_,_,h,_,_,_=>by simp[kd] at h
end
mutual
theorem sF {h h':Heap} {x:QN} {b:Obj} {es:Array Um} {j:Nat} (e:h.get? x=lD b) (g:b.data= .dict es j) (f:Heap.SameBut x h h'):∀(d:QK) (v:QH) (i:List QN),kd d=QJ->aa6 h v d i->aa6 h' v d i
 | .none,_,_,_,r=>by cases r;exact .none
 | .int _,_,_,_,r=>by cases r;exact .int _ _
 | .str _,_,_,_,r=>by cases r;exact .str _ _
 | .tuple xs,_,_,k,r=>by
  cases r with
  | @tuple a o vs n _ _ h1 h2 h3 h4=>
   have l:a≠x:=by rintro rfl;rw[e] at h1;cases h1;rw[g] at h3;exact nomatch h3
   unfold kd at k;exact .tuple ((f.2 a l).trans h1) h2 h3 (rD e g f xs _ _ k h4)
 | .bool _,_,_,h,_| .list _,_,_,h,_| .dict _,_,_,h,_=>by simp[kd] at h
theorem rD {h h':Heap} {x:QN} {a:Obj} {es:Array Um} {l:Nat} (b:h.get? x=lD a) (f:a.data= .dict es l) (e:Heap.SameBut x h h'):∀(ds:List QK) (vs:List QH) (g:List QN),kds ds=QJ->YX h vs ds g->YX h' vs ds g
 |[],_,_,_,r=>by cases r;exact .nil
 |d::ds,_,_,k,r=>by
  cases r with
  |cons j i=>unfold kds at k;rw[Q6] at k;exact .cons (sF b f e d _ _ k.1 j) (rD b f e ds _ _ k.2 i)
end
abbrev KD:={d:QK//keyD d=QJ}
noncomputable instance kdDec:DecidableEq KD:=fun _ _=>Classical.propDecidable _
def gU (prog:Rf) (w:RB):HeapKind prog w KD where
 is:=fun h k a=>∃as,aa6 h (.ref a) k.1 as
 hash:=fun k=>rG w k.1
 draws:=fun k=>Pp k.1
 room:=fun A=>A.units+8<cLine
 inj:=fun⟨_,r⟩ ⟨_,f⟩=>Subtype.ext (aa6.unique r _ _ f).1
 keeps:=fun{h h' k a d o es ep} ⟨as,r⟩ ho hd hs=>⟨as,sF ho hd hs k.1 _ _ (keyD_kd k.2).1 r⟩
 pyHash:=fun{A E s k a Q} hu ⟨as,r⟩ q=>Av k.1 _ as A s Q (keyD_kd k.2).1 r (by have:=(keyD_kd k.2).2;omega) q
 eqBool:=fun{A E s x y a b Q} hu ⟨as,r⟩ ⟨bs,f⟩ q=>SeqAt.eqAt_reads x.1 y.1 A s _ _ as bs r f (kd_lay _ (keyD_kd x.2).1) (kd_lay _ (keyD_kd y.2).1) (by have:=(keyD_kd x.2).2;omega) prog w E Q (by
  haveI:Decidable (x.1=y.1):=Classical.propDecidable _
  rw[FB (keyD_kd x.2).1 (keyD_kd y.2).1];by_cases e:x=y
  .rw[decide_eq_true e] at q;rw[decide_eq_true (congrArg Subtype.val e)];exact q
  .rw[decide_eq_false e] at q;rw[decide_eq_false fun z=>e (Subtype.ext z)];exact q)
 quiet:=fun{A E s k a Q} ⟨as,r⟩ q=>wy 8 k.1 _ as A s Q (keyD_kd k.2).1 r (keyD_kd k.2).2 q
def Qt (a:QN) (xs:List (KD×QN×V)) (w:RB) (h:Heap):Prop:=
 (xs.length<=QX/\(a==S8)=QQ/\(xs.map (·.1)).Nodup)/\∃o es ep,h.get? a=lD o/\o.ExactDict/\o.data= .dict es ep/\Paired (fun(x:KD×QN×V) (e:Um)=>e.hash=rG w x.1.1/\e.key= .ref x.2.1/\RelV x.2.2 e.val) xs es.toList
abbrev DkO (a:QN) (xs:List (KD×QN×V)):HO:= .exw (Qt a xs)
abbrev PrD (O:cb) (K:QF) (H:Hp):List (KD×QN×V)->List (D×D)->Prop:=
 Paired fun x a=>x.1.1=a.1/\L3.DV O K H (.ref x.2.1) a.1/\L3.DV O K H x.2.2 a.2
end LD
namespace L10
open PySem L2 L3
inductive AV where
 |fz (d:D)
 |rf (i:Nat)
inductive SV where
 |fz (d:D)
 |rf (i:Nat)
 |tp (l:List AV)
def AV.sv:AV->SV
 | .fz d=> .fz d
 | .rf i=> .rf i
inductive Cell where
 |lst (xs:List SV)
 |WH (Rj:List (cE×SV))
 |obj (C:Str) (fs:List (Str×SV))
 |dd (Rj:List (D×D))
 |dead
abbrev aV:=List Cell
abbrev bp:=List (Option SV)
inductive RS (α:Type) where
 |ok (a:α) (Z:aV)
 |er (x:Xc) (Z:aV)
 |bad
def RS.bind (r:RS α) (f:α->aV->RS β):RS β:=match r with
 | .ok a Z=>f a Z
 | .er x Z=> .er x Z
 | .bad=> .bad
def RS.RO (Z:aV):Option α->RS α
 |some a=> .ok a Z
 |none=> .bad
theorem RS.bind_ok (a:α) (Z:aV) (f:α->aV->RS β):(RS.ok a Z).bind f=f a Z:=rfl
def Lv (α:List QN) (Z:aV):cb:=fun b=>∃(i:Nat) (c:Cell),α[i]? =lD b/\Z[i]? =lD c/\c≠Cell.dead
def ow (B:cb) (α:List QN) (Z:aV):cb:=fun b=>B b\/Lv α Z b
section
variable (O:cb) (K:QF) (H:Hp) (Z:List QN)
def AOk (v:V):AV->Prop
 | .fz d=>DV O K H v d
 | .rf i=>∃a,Z[i]? =lD a/\v= .ref a
def Ud (v:V):SV->Prop
 | .fz d=>DV O K H v d
 | .rf i=>∃a,Z[i]? =lD a/\v= .ref a
 | .tp l=>∃a xs,v= .ref a/\VZ O K H a xs/\Paired (AOk O K H Z) xs l
abbrev TQ:List V->List SV->Prop:=Paired (Ud O K H Z)
def COk (a:QN):Cell->Prop
 | .lst xs=>∃vs,H a=lD (.lst vs)/\TQ O K H Z vs xs
 | .WH Rj=>∃ws:List (cE×V),H a=lD (.dK ws)/\Paired (fun(p:cE×V) (q:cE×SV)=>p.1=q.1/\Ud O K H Z p.2 q.2) ws Rj
 | .obj C fs=>∃Ca dx ws,Q9 K Q4 C=lD (lD (.ref Ca))/\H a=lD (.ins Ca dx ws)/\Paired (fun(p:Str×V) (q:Str×SV)=>p.1=q.1/\Ud O K H Z p.2 q.2) ws fs
 | .dd Rj=>∃xs,H a=lD (LD.DkO a xs)/\LD.PrD O K H xs Rj
 | .dead=>True
def T5 (a:L2.St) (ρ:bp):Prop:=a.length=ρ.length/\∀(i:Nat) (x:SV),ρ[i]? =lD (lD x)->∃v,a[i]? =lD (lD v)/\Ud O K H Z v x
end
structure Rz (B:cb) (K:QF) (H:Hp) (α:List QN) (Z:aV):Prop where
 len:α.length=Z.length
 nd:∀(i j:Nat) (a:QN),α[i]? =lD a->α[j]? =lD a->i=j
 bn:∀a,B a->H a≠Ld
 ba:∀a,B a->∀i:Nat,α[i]?≠lD a
 al:∀(i:Nat) (a:QN),α[i]? =lD a->H a≠Ld
 X4:∀(i:Nat) (a:QN) (c:Cell),α[i]? =lD a->Z[i]? =lD c->COk (ow B α Z) K H α a c
structure S0 (α:List QN) (Z:aV) (H:Hp) (α':List QN) (Z':aV) (H':Hp):Prop where
 pre:∀(i:Nat) (a:QN),α[i]? =lD a->α'[i]? =lD a
 kp:∀b o,H b=lD o->¬Lv α Z b->H' b=lD o
 lv:∀b,Lv α' Z' b->Lv α Z b\/H b=Ld
section
variable {B O Q:cb} {K:QF} {E:XK} {H H' R N:Hp} {Y X U S:List QN} {Z T Z1 M:aV} {σ:L2.St} {ρ:bp} {v:V}
theorem S0.refl:S0 Y Z H Y Z H:=⟨fun _ _ h=>h,fun _ _ h _=>h,fun _ h=> .inl h⟩
theorem S0.trans (a:S0 Y Z H U Z1 R) (b:S0 U Z1 R S M N):S0 Y Z H S M N:=by
 have e:∀b o,H b=lD o->¬Lv Y Z b->¬Lv U Z1 b:=fun b o h n z=>(a.lv b z).elim n fun q=>by rw[h] at q;cases q
 refine⟨fun i p h=>b.pre i p (a.pre i p h),fun p o h n=>b.kp p o (a.kp p o h n) (e p o h n),fun p h=> ?_⟩;rcases b.lv p h with h|h
 .exact a.lv p h
 .cases q:H p with
  |none=>exact .inr rfl
  |some o=>refine .inl (Classical.byContradiction fun n=> ?_);rw[a.kp p o q n] at h;cases h
theorem S0.same (s:SJ H H'):S0 Y Z H Y Z H':=⟨fun _ _ h=>h,fun b o h _=>s b o h,fun _ h=> .inl h⟩
theorem S0.ev (e:S0 Y Z H X T H'):Ev (ow B Y Z) H (ow B X T) H':=fun b o h n=>
 ⟨e.kp b o h fun z=>n (.inr z),fun z=>z.elim (fun q=>n (.inl q)) fun q=>(e.lv b q).elim (fun q=>n (.inr q)) fun q=>by rw[h] at q;cases q⟩
theorem AOk.ev (e:Ev O H Q H') (p:∀(i:Nat) (a:QN),Y[i]? =lD a->X[i]? =lD a) (h:AOk O K H Y v x):AOk Q K H' X v x:=by
 cases x with
 |fz d=>exact DV.ev e h
 |rf i=>obtain⟨a,f,b⟩:=h;exact⟨a,p i a f,b⟩
theorem Ud.ev (e:Ev O H Q H') (p:∀(i:Nat) (a:QN),Y[i]? =lD a->X[i]? =lD a) (h:Ud O K H Y v x):Ud Q K H' X v x:=by
 cases x with
 |fz d=>exact DV.ev e h
 |rf i=>obtain⟨a,f,b⟩:=h;exact⟨a,p i a f,b⟩
 |tp l=>obtain⟨a,xs,f,b,g⟩:=h;exact⟨a,xs,f,b.ev e,Paired.U3 g fun _ _ q=>q.ev e p⟩
theorem Ud.Tz (e:S0 Y Z H X T H') (h:Ud (ow B Y Z) K H Y v x):Ud (ow B X T) K H' X v x:=h.ev e.ev e.pre
theorem TQ.Tz (e:S0 Y Z H X T H') (h:TQ (ow B Y Z) K H Y vs xs):TQ (ow B X T) K H' X vs xs:=Paired.U3 h fun _ _ q=>q.Tz e
theorem T5.Tz (e:S0 Y Z H X T H') (h:T5 (ow B Y Z) K H Y σ ρ):T5 (ow B X T) K H' X σ ρ:=⟨h.1,fun i x q=>let⟨v,h1,h2⟩:=h.2 i x q;⟨v,h1,h2.Tz e⟩⟩
theorem COk.ev (e:Ev O H Q H') (p:∀(i:Nat) (a:QN),Y[i]? =lD a->X[i]? =lD a) (ha:∀o,H a=lD o->H' a=lD o) (h:COk O K H Y a c):COk Q K H' X a c:=by
 cases c with
 |lst xs=>obtain⟨vs,f,b⟩:=h;exact⟨vs,ha _ f,Paired.U3 b fun _ _ q=>q.ev e p⟩
 |WH Rj=>obtain⟨ws,f,b⟩:=h;exact⟨ws,ha _ f,Paired.U3 b fun _ _ q=>⟨q.1,q.2.ev e p⟩⟩
 |obj C fs=>obtain⟨Ca,dx,ws,g,f,b⟩:=h;exact⟨Ca,dx,ws,g,ha _ f,Paired.U3 b fun _ _ q=>⟨q.1,q.2.ev e p⟩⟩
 |dd Rj=>obtain⟨xs,f,b⟩:=h;exact⟨xs,ha _ f,Paired.U3 b fun _ _ q=>⟨q.1,q.2.1.ev e,q.2.2.ev e⟩⟩
 |dead=>trivial
theorem Rz.YT (s:Rz B K H Y Z):mi (ow B Y Z) H:=fun a h z=>z.elim (fun q=>s.bn a q h) fun⟨i,c,q,_⟩=>s.al i a q h
theorem Rz.owd (s:Rz B K H Y Z):∀a,ow B Y Z a->H a≠Ld:=fun a z h=>s.YT a h z
theorem Rz.grow (s:Rz B K H Y Z) (e:SJ H H'):Rz B K H' Y Z:=by have n:∀a,H a≠Ld->H' a≠Ld:=fun a h z=>h (e.free z);exact⟨s.len,s.nd,fun a h=>n a (s.bn a h),s.ba,fun i a h=>n a (s.al i a h),fun i a c f b=>(s.X4 i a c f b).ev (Ev.grow e) (fun _ _ h=>h) fun o h=>e _ _ h⟩
theorem Rz.at (s:Rz B K H Y Z) {i:Nat} (h:Z[i]? =lD c):∃a,Y[i]? =lD a:=by have:i<Z.length:=(QM.mp h).1;rw[<-s.len] at this;exact⟨_,QY this⟩
theorem Rz.abj (s:Rz B K H Y Z) {i:Nat} (h:Y[i]? =lD a):¬B a:=fun z=>s.ba a z i h
theorem zm {i:Nat} {c l:Cell} (h:Z[i]? =lD c) (m:c≠ .dead) (n:l≠ .dead) {b:QN}:Lv Y (Z.set i l) b↔Lv Y Z b:=by
 constructor
 .rintro⟨j,d,f,a,g⟩
  rcases cw a with⟨rfl,rfl⟩|⟨_,a⟩
  .exact⟨j,c,f,h,m⟩
  .exact⟨j,d,f,a,g⟩
 .rintro⟨j,d,f,a,g⟩
  by_cases e:j=i
  .subst e;exact⟨j,l,f,by rw[Sv (QM.mp h).1],n⟩
  .exact⟨j,d,f,by rw[R9 (fun z=>e z.symm)];exact a,g⟩
theorem LW (h:Z[i]? =lD c) (a:c≠ .dead) (e:c'≠ .dead):ow B Y (Z.set i c')=ow B Y Z:=by funext b;exact propext ⟨fun z=>z.imp id (zm h a e).mp,fun z=>z.imp id (zm h a e).mpr⟩
theorem S0.put (ha:Y[i]? =lD a) (h:Z[i]? =lD c) (f:c≠ .dead) (g:c'≠ .dead):S0 Y Z H Y (Z.set i c') (bC H a o):=
 ⟨fun _ _ h=>h,fun b j q n=>by have z:b≠a:=fun e=>n ⟨i,c,by rw[e];exact ha,h,f⟩;rw[az z];exact q,fun b z=> .inl ((zm h f g).mp z)⟩
theorem Rz.put (s:Rz B K H Y Z) (ha:Y[i]? =lD a) (h:Z[i]? =lD c) (l:c≠ .dead) (m:c'≠ .dead) (new:COk (ow B Y Z) K (bC H a o) Y a c'):Rz B K (bC H a o) Y (Z.set i c'):=by
 have e:S0 Y Z H Y (Z.set i c') (bC H a o):=S0.put ha h l m;have n:∀b,H b≠Ld->bC H a o b≠Ld:=fun b h=>by
  by_cases z:b=a
  .subst z;rw[aH];simp
  .rw[az z];exact h
 refine⟨by rw[Si];exact s.len,s.nd,fun b h=>n b (s.bn b h),s.ba,fun j b h=>n b (s.al j b h),fun j b d f g=> ?_⟩;rcases cw g with⟨rfl,rfl⟩|⟨p,g⟩
 .rw[ha] at f;cases f;rw[LW h l m];exact new
 .exact(s.X4 j b d f g).ev e.ev e.pre fun u q=>by rw[az (fun z=>p (s.nd j i a (by rw[<-z];exact f) ha))];exact q
theorem qL {i:Nat} {a:QN} {c:Cell} {o:HO} (ha:Y[i]? =lD a) (h:Z[i]? =lD c) (b:c≠ .dead):Ev (ow B Y Z) H (ow B Y Z) (bC H a o):=Ev.mut (.inr ⟨i,c,ha,h,b⟩) o
theorem ck {Y:Type} {l:List Y} {x y:Y} {i:Nat} (h:(l++[x])[i]? =lD y):l[i]? =lD y\/(i=l.length/\y=x):=by
 by_cases hi:i<l.length
 .rw[Q1 hi] at h;exact .inl h
 .rw[Ro (by omega)] at h
  cases q:i - l.length with
  |zero=>rw[q] at h;cases h;exact .inr ⟨by omega,rfl⟩
  |succ n=>rw[q] at h;cases h
theorem gS {Y:Type} {l:List Y} {x y:Y} {i:Nat} (h:l[i]? =lD y):(l++[x])[i]? =lD y:=by rw[Q1 (QM.mp h).1];exact h
theorem aX:(l++[x])[l.length]? =lD x:=by simp
theorem vK (g:Y.length=Z.length) (h:Lv (Y++[p]) (Z++[c]) b):Lv Y Z b\/b=p:=by
 obtain⟨i,d,a,e,f⟩:=h;rcases ck a with a|⟨e1,e2⟩
 .rcases ck e with e|⟨e1,e2⟩
  .exact .inl ⟨i,d,a,e,f⟩
  .have:=(QM.mp a).1;omega
 .exact .inr e2
theorem S0.XW (g:Y.length=Z.length) (s:SJ H H') (f:H p=Ld):S0 Y Z H (Y++[p]) (Z++[c]) H':=
 ⟨fun i a h=>gS h,fun b u q _=>s b u q,fun b z=>(vK g z).imp id fun e=>by rw[e];exact f⟩
theorem Rz.XW (s:Rz B K H Y Z) (e:SJ H H') (l:H p=Ld) (m:H' p≠Ld) (new:COk (ow B (Y++[p]) (Z++[c])) K H' (Y++[p]) p c):Rz B K H' (Y++[p]) (Z++[c]):=by
 have ev:S0 Y Z H (Y++[p]) (Z++[c]) H':=S0.XW s.len e l;have n:∀b,H b≠Ld->H' b≠Ld:=fun b h z=>h (e.free z);refine⟨by rw[QO,QO,s.len];rfl,fun i j a f g=> ?_,fun a h=>n a (s.bn a h),fun a h i q=> ?_,fun i a h=> ?_,fun i a d f g=> ?_⟩
 .rcases ck f with g1|⟨e1,e2⟩<;>rcases ck g with g2|⟨e3,e4⟩
  .exact s.nd i j a g1 g2
  .exact absurd (by rw[e4];exact l) (s.al i a g1)
  .exact absurd (by rw[e2];exact l) (s.al j a g2)
  .omega
 .rcases ck q with q|⟨_,e2⟩
  .exact s.ba a h i q
  .subst e2;exact s.bn a h l
 .rcases ck h with h|⟨_,e2⟩
  .exact n a (s.al i a h)
  .subst e2;exact m
 .rcases ck g with g|⟨e1,e2⟩
  .rcases ck f with f|⟨e1,_⟩
   .exact(s.X4 i a d f g).ev ev.ev ev.pre fun o q=>e _ _ q
   .have:=(QM.mp g).1;have:=s.len;omega
  .rcases ck f with f|⟨_,e3⟩
   .have:=(QM.mp f).1;have:=s.len;omega
   .subst e2 e3;exact new
def WS (K:QF) (E:XK) (B:cb) (H:Hp) (Y:List QN) (Z:aV) (P:A->List QN->aV->Hp->Prop):RS A->Prop
 | .ok a T=>∀X H',S0 Y Z H X T H'->Rz B K H' X T->P a X T H'
 | .er x T=>∀c dx X H',S0 Y Z H X T H'->Rz B K H' X T->XOk K (ow B X T) H' c dx x->E c dx H'
 | .bad=>False
theorem WS.from (e:S0 Y Z H U Z1 R) (h:WS K E B H Y Z P r):WS K E B R U Z1 P r:=by
 cases r with
 |ok a M=>exact fun S N f b=>h S N (e.trans f) b
 |er x M=>exact fun c dx S N f b=>h c dx S N (e.trans f) b
 |bad=>exact h
theorem WS.bind (h:WS K E B H Y Z P (r.bind k)):WS K E B H Y Z (fun a U Z1 R=>WS K E B R U Z1 P (k a Z1)) r:=by
 cases r with
 |ok a Z1=>exact fun U R b _=>WS.from b h
 |er x Z1=>exact h
 |bad=>exact h
theorem WS.RO (h:WS K E B H Y Z P ((RS.RO Z o).bind k)):∃a,o=lD a/\WS K E B H Y Z P (k a Z):=by
 cases o with
 |none=>exact h.elim
 |some a=>exact⟨a,rfl,h⟩
theorem WS.imp (h:WS K E B H Y Z P r) (g:∀a X T H',S0 Y Z H X T H'->Rz B K H' X T->P a X T H'->P' a X T H'):WS K E B H Y Z P' r:=by
 cases r with
 |ok a Z1=>exact fun U R e b=>g a U Z1 R e b (h U R e b)
 |er x Z1=>exact h
 |bad=>exact h
theorem WS.now (s:Rz B K H Y Z) (h:WS K E B H Y Z P (.ok a Z)):P a Y Z H:=h Y H .refl s
end
abbrev dU:=bp->aV->RS SV
abbrev vB:=bp->aV->RS Bool
abbrev xT:=bp->aV->RS (List SV)
def cY (K:QF) (E:XK) (t:TE) (f:dU):Prop:=
 ∀(B:cb) (b:L2.St) (H:Hp) (α:List QN) (Z:aV) (ρ:bp) (Q:VK),Rz B K H α Z->T5 (ow B α Z) K H α b ρ->WS K E B H α Z (fun x a g e=>∀v,Ud (ow B a g) K e a v x->Q v e) (f ρ Z)->t b H Q
def xm (K:QF) (E:XK) (t:TT) (f:vB):Prop:=
 ∀(B:cb) (a:L2.St) (H:Hp) (α:List QN) (Z:aV) (ρ:bp) (Q:Bool->Hp->Prop),Rz B K H α Z->T5 (ow B α Z) K H α a ρ->WS K E B H α Z (fun b _ _ e=>Q b e) (f ρ Z)->t a H Q
def vT (K:QF) (E:XK) (t:TA) (f:xT):Prop:=
 ∀(B:cb) (b:L2.St) (H:Hp) (α:List QN) (Z:aV) (ρ:bp) (Q:List V->Hp->Prop),Rz B K H α Z->T5 (ow B α Z) K H α b ρ->WS K E B H α Z (fun xs a g e=>∀vs,TQ (ow B a g) K e a vs xs->Q vs e) (f ρ Z)->t b H Q
section
variable {B O M:cb} {K:QF} {E:XK} {H H' T H2:Hp} {Y N X J:List QN} {Z Z' Z1 P:aV} {U:L2.St} {ρ:bp} {v:V}
def Kq:Option SV->Option PV
 |some (.fz d)=>lD (.fz d)
 |_=>Ld
def cx (ρ:bp):aU:=ρ.map Kq
theorem tq {i:Nat} (h:(cx ρ)[i]? =lD (lD x)):∃d,x= .fz d/\ρ[i]? =lD (lD (.fz d)):=by
 unfold cx at h;rw[QW] at h;cases q:ρ[i]? with
 |none=>rw[q] at h;cases h
 |some o=>
  rw[q] at h;have a:=Ra h;unfold Kq at a;split at a
  .cases a;exact⟨_,rfl,rfl⟩
  .cases a
theorem DT (s:Rz B K H Y Z) (a:T5 (ow B Y Z) K H Y U ρ):Rl K (ow B Y Z) H (ow B Y Z) U H (cx ρ):=by
 refine⟨SJ.refl _,fun _ h=>h,s.owd,s.YT,by unfold cx;rw[QI];exact a.1,fun i x h=> ?_,fun i j ds l w h=> ?_⟩
 .obtain⟨d,rfl,b⟩:=tq h;obtain⟨v,g,f⟩:=a.2 i _ b;exact⟨v,g,f⟩
 .obtain⟨d,e,_⟩:=tq h;cases e
def lu (Z:aV):RV->RS SV
 | .fz d=> .ok (.fz d) Z
 | .ow ds=> .ok (.rf Z.length) (Z++[.lst (ds.map .fz)])
abbrev PQ (B:cb) (K:QF) (Q:VK):SV->List QN->aV->Hp->Prop:=fun x N Z' H'=>∀v,Ud (ow B N Z') K H' N v x->Q v H'
theorem jW (O:cb) (Y:List QN):∀{vs:List V} {ds:List D},SE O K H vs ds->TQ O K H Y vs (ds.map .fz)
 |_,_,.nil=> .nil
 |_,_,.cons h t=> .cons h (jW O Y t)
theorem EF:∀{vs:List V} {ds:List D},TQ O K H Y vs (ds.map .fz)->SE O K H vs ds
 |_,[],.nil=> .nil
 |_,_::_,.cons h t=> .cons h (EF t)
theorem rn (s:Rz B K H Y Z) (w:WS K E B H Y Z (PQ B K Q) (lu Z (.ow ds))) (e:SJ H H') (a:H p=Ld) (h:H' p=lD (.lst vs)) (hd:SE M K H' vs ds) (f:∀b,ow B Y Z b->M b) (g:M p):Q (.ref p) H':=by
 have sub:∀b,ow B (Y++[p]) (Z++[.lst (ds.map .fz)]) b->M b:=fun b z=>z.elim (fun q=>f b (.inl q)) fun q=>(vK s.len q).elim (fun q=>f b (.inr q)) fun q=>by rw[q];exact g
 exact w (Y++[p]) H' (S0.XW s.len e a) (s.XW e a (by rw[h];simp) ⟨vs,h,jW _ _ (hd.ev (Ev.sub sub))⟩) (.ref p) ⟨p,by rw[<-s.len];exact aX,rfl⟩
theorem D0 (s:Rz B K H Y Z) (w:WS K E B H Y Z (PQ B K Q) (lu Z rv)):Fin (ow B Y Z) K H Q rv:=by
 cases rv with
 |fz d=>exact fun v H' e a=>w Y H' (S0.same e) (s.grow e) v a
 |ow ds=>exact fun p vs H' e f h a=>rn s w e f h a (fun b z=> .inl z) (.inr rfl)
def ag (f:FE):dU:=fun ρ Z=>match f (cx ρ) with
 | .ok (.fz d,_)=> .ok (.fz d) Z
 | .ok (.ow ds,_)=>lu Z (.ow ds)
 | .ok (.pl _,_)=> .bad
 | .er x=> .er x Z
 | .bad=> .bad
theorem aB (h:EO K E t f):cY K E t (ag f):=by
 intro B U H Y Z ρ Q s g w;refine h (ow B Y Z) H (ow B Y Z) U H (cx ρ) Q (DT s g) ?_;unfold ag at w;cases q:f (cx ρ) with
 |bad=>rw[q] at w;exact w.elim
 |er x=>rw[q] at w;exact fun c dx H' e k=>w c dx Y H' (S0.same e) (s.grow e) k
 |ok r=>
  obtain⟨pv,b⟩:=r;rw[q] at w;intro M v H' e R p;cases pv with
  |fz d=>exact w Y H' (S0.same R.same) (s.grow R.same) v (DV.ev (Ev.sub R.bo) p)
  |ow ds=>obtain⟨a,vs,rfl,n,m,l,j,o⟩:=p;exact rn s w R.same m l j R.bo n
  |pl i=>exact w.elim
def bQ (f:FT):vB:=fun ρ Z=>match f (cx ρ) with
 | .ok (b,_)=> .ok b Z
 | .er x=> .er x Z
 | .bad=> .bad
theorem wY (h:Zb K E t f):xm K E t (bQ f):=by
 intro B U H Y Z ρ Q s g w;refine h (ow B Y Z) H (ow B Y Z) U H (cx ρ) Q (DT s g) ?_;unfold bQ at w;cases q:f (cx ρ) with
 |bad=>rw[q] at w;exact w.elim
 |er x=>rw[q] at w;exact fun c dx H' e k=>w c dx Y H' (S0.same e) (s.grow e) k
 |ok r=>obtain⟨b,a⟩:=r;rw[q] at w;exact fun M H' e R=>w Y H' (S0.same R.same) (s.grow R.same)
def aw (i:Nat):dU:=fun ρ Z=>match ρ[i]? with
 |some (lD x)=> .ok x Z
 |_=> .bad
theorem bf:cY K E (zh i) (aw i):=by
 intro B U H Y Z ρ Q s a w;unfold aw at w;cases q:ρ[i]? with
 |none=>rw[q] at w;exact w.elim
 |some o=>
  cases o with
  |none=>rw[q] at w;exact w.elim
  |some x=>rw[q] at w;obtain⟨v,e,b⟩:=a.2 i x q;exact⟨v,e,WS.now s w v b⟩
def gm (K:QF) (C:Str) (fs:List Str):Prop:=∃Ca,Q9 K Q4 C=lD (lD (.ref Ca))/\Zp K Ca/\∀f∈fs,U4 K Ca f
def a9 (C f:Str) (e:dU):dU:=fun ρ Z=>(e ρ Z).bind fun x Z1=>match x with
 | .rf i=>(match Z1[i]? with
  |some (.obj D fs)=>if D=C then RS.RO Z1 (fs.lookup f) else .bad
  |_=> .bad)
 |_=> .bad
theorem sM:∀{ws:List (Str×V)} {fs:List (Str×SV)},Paired (fun(p:Str×V) (q:Str×SV)=>p.1=q.1/\Ud O K H Y p.2 q.2) ws fs->fs.lookup f=lD x->∃v,ws.lookup f=lD v/\Ud O K H Y v x
 |_,_,.nil,h=>by cases h
 |(a,v)::ws,(b,y)::fs,.cons ⟨h1,h2⟩ t,h=>by
  cases h1;rw[Q7] at h⊢;split at h
  .cases h;exact⟨v,rfl,h2⟩
  .exact sM t h
theorem sZ:∀{ws:List (Str×V)} {fs:List (Str×SV)},Paired (fun(p:Str×V) (q:Str×SV)=>p.1=q.1/\Ud O K H Y p.2 q.2) ws fs->fs.lookup f=Ld->ws.lookup f=Ld
 |_,_,.nil,h=>rfl
 |(a,v)::ws,(b,y)::fs,.cons ⟨h1,h2⟩ t,h=>by
  cases h1;rw[Q7] at h⊢;split at h
  .cases h
  .exact sZ t h
theorem ci (p:gm K C L) (o:f∈L) (ha:cY K E ta fa):cY K E (KP K ta f) (a9 C f fa):=by
 intro B U H Y Z ρ Q s j w;refine ha B U H Y Z ρ _ s j (w.bind.imp fun x X Z1 T G e b v m=> ?_);cases x with
 |fz d=>exact b.elim
 |tp l=>exact b.elim
 |rf i=>
  obtain⟨a,ha,rfl⟩:=m;dsimp only at b;cases q:Z1[i]? with
  |none=>rw[q] at b;exact b.elim
  |some c=>
   rw[q] at b;cases c with
   |obj D fs=>
    dsimp only at b;by_cases z:D=C
    .subst z
     rw[if_pos rfl] at b;obtain⟨Ca,dx,ws,y,t,r⟩:=e.X4 i a _ ha q;cases ql:fs.lookup f with
     |none=>rw[ql] at b;exact b.elim
     |some x=>rw[ql] at b;obtain⟨u,n,h⟩:=sM r ql;obtain⟨I,g,F,A⟩:=p;rw[y] at g;cases g;exact⟨a,Ca,dx,ws,u,rfl,t,F,A f o,n,WS.now e b u h⟩
    .rw[if_neg z] at b;exact b.elim
   |_=>exact b.elim
def aM {Y a:Type} (f:Y->Option a):List Y->Option (List a)
 |[]=>lD []
 |x::r=>match f x with
  |some y=>(match aM f r with
   |some b=>lD (y::b)
   |none=>Ld)
  |none=>Ld
def CB:Nat->aV->SV->Option D
 |_,_,.fz d=>lD d
 |0,_,_=>Ld
 |n+1,Z,.rf i=>match Z[i]? with
  |some (.lst xs)=>(aM (CB n Z) xs).map .list
  |_=>Ld
 |n+1,Z,.tp l=>(aM (fun x=>CB n Z x.sv) l).map .tuple
theorem dh {Y a:Type} {f:Y->Option a} {R:V->Y->Prop} {S:V->a->Prop} (h:∀v x y,R v x->f x=lD y->S v y):∀{vs:List V} {xs:List Y} {g:List a},Paired R vs xs->aM f xs=lD g->Paired S vs g
 |_,_,_,.nil,e=>by cases e;exact .nil
 |_,_,_,.cons (b:=x) (l₂:=xs) r t,e=>by
  unfold aM at e;cases q:f x with
  |none=>rw[q] at e;cases e
  |some y=>
   rw[q] at e;dsimp only at e;cases q2:aM f xs with
   |none=>rw[q2] at e;cases e
   |some g=>rw[q2] at e;cases e;exact .cons (h _ _ _ r q) (dh h t q2)
theorem ki:∀{vs:List V} {ds:List D},Paired (DV O K H) vs ds->SE O K H vs ds
 |_,_,.nil=> .nil
 |_,_,.cons h t=> .cons h (ki t)
theorem J9:Ev O H YT H:=Ev.sub fun _ z=>z.elim
theorem kK (s:Rz B K H Y Z):∀(n:Nat) {v:V} {x:SV} {d:D},Ud (ow B Y Z) K H Y v x->CB n Z x=lD d->DV YT K H v d
 |n,v,.fz d',d,h,e=>by
  have g:lD d'=lD d:=by cases n<;>exact e
  cases g;exact DV.ev J9 h
 |0,v,.rf i,d,h,e=>by cases e
 |0,v,.tp l,d,h,e=>by cases e
 |n+1,v,.rf i,d,h,e=>by
  obtain⟨a,ha,rfl⟩:=h;unfold CB at e;cases q:Z[i]? with
  |none=>rw[q] at e;cases e
  |some c=>
   rw[q] at e;cases c with
   |lst xs=>
    dsimp only at e;cases q2:aM (CB n Z) xs with
    |none=>rw[q2] at e;cases e
    |some ds=>rw[q2] at e;cases e;obtain⟨vs,f,b⟩:=s.X4 i a _ ha q;exact .lst ⟨UT.of f,fun z=>z.elim⟩ (ki (dh (R:=Ud (ow B Y Z) K H Y) (fun v x y r e=>kK s n r e) b q2))
   |_=>cases e
 |n+1,v,.tp l,d,h,e=>by
  obtain⟨a,xs,rfl,f,b⟩:=h;unfold CB at e;cases q2:aM (fun x=>CB n Z x.sv) l with
  |none=>rw[q2] at e;cases e
  |some ds=>rw[q2] at e;cases e;exact .tup (f.ev J9) (ki (dh (fun v x y r e=>kK s n (by cases x<;>exact r) e) b q2))
def wR:SV->Option D
 | .fz d=>lD d
 |_=>Ld
def sh (Z:aV):SV->Option D
 | .fz d=>lD d
 | .rf i=>match Z[i]? with
  |some (.lst xs)=>(aM wR xs).map .list
  |_=>Ld
 | .tp _=>Ld
theorem Ew (s:Rz B K H Y Z) (h:Ud (ow B Y Z) K H Y v x) (e:sh Z x=lD d):DX (ow B Y Z) K H v d:=by
 cases x with
 |fz g=>cases e;exact DV.x h
 |tp l=>cases e
 |rf i=>
  obtain⟨a,ha,rfl⟩:=h;unfold sh at e;dsimp only at e;cases q:Z[i]? with
  |none=>rw[q] at e;cases e
  |some c=>
   rw[q] at e;cases c with
   |lst xs=>
    dsimp only at e;cases q2:aM wR xs with
    |none=>rw[q2] at e;cases e
    |some ds=>
     rw[q2] at e;cases e;obtain⟨vs,f,b⟩:=s.X4 i a _ ha q;refine⟨a,vs,rfl,UT.of f,ki (dh (fun v x y r e=> ?_) b q2)⟩;cases x with
     |fz d=>cases e;exact r
     |rf i=>cases e
     |tp l=>cases e
   |_=>cases e
def Iy:D->Bool
 | .none=>QJ
 | .bool _=>QJ
 | .int _=>QJ
 | .str _=>QJ
 |_=>QQ
theorem IK (h:Iy d=QJ) (a:DV O K H v d):DV M K H' v d:=by
 cases a with
 |TN=>exact .TN
 |bl b=>exact .bl b
 |int i=>exact .int i
 |str x=>exact .str x
 |tup _ _=>cases h
 |lst _ _=>cases h
def xY (Z:aV):RV->RS SV
 | .fz d=>if Iy d=QJ then .ok (.fz d) Z else .bad
 | .ow _=> .bad
theorem D2 (s:Rz B K H Y Z) (w:WS K E B H Y Z (PQ B K Q) (xY Z rv)):Fin YT K H Q rv:=by
 cases rv with
 |fz d=>
  have w:WS K E B H Y Z (PQ B K Q) (if Iy d=QJ then RS.ok (SV.fz d) Z else RS.bad):=w;by_cases z:Iy d=QJ
  .rw[if_pos z] at w;exact fun v H' e a=>w Y H' (S0.same e) (s.grow e) v (IK z a)
  .rw[if_neg z] at w;exact w.elim
 |ow ds=>exact w.elim
theorem EH:mi YT H:=fun _ _ z=>z
def qu (f:D->D->Option RV) (x y:SV) (Z:aV):RS SV:=match sh Z x,sh Z y with
 |some dx,lD a=>(RS.RO Z (f dx a)).bind fun rv Z1=>lu Z1 rv
 |_,_=>(RS.RO Z (CB 6 Z x)).bind fun dx Z1=>(RS.RO Z1 (CB 6 Z1 y)).bind fun a P=>(RS.RO P (f dx a)).bind fun rv b=>xY b rv
theorem yB (n:k8 K r f) (s:Rz B K H Y Z) (m:Ud (ow B Y Z) K H Y x a) (l:Ud (ow B Y Z) K H Y y b) (w:WS K E B H Y Z (PQ B K Q) (qu f a b Z)):r x y H Q:=by
 have e:WS K E B H Y Z (PQ B K Q) ((RS.RO Z (CB 6 Z a)).bind fun dx Z1=>(RS.RO Z1 (CB 6 Z1 b)).bind fun i P=>(RS.RO P (f dx i)).bind fun rv o=>xY o rv)->r x y H Q:=fun w=>by obtain⟨dx,g,w⟩:=w.RO;obtain⟨i,h,w⟩:=w.RO;obtain⟨rv,j,w⟩:=w.RO;exact n YT H x y dx i rv Q EH (DV.x (kK s 6 m g)) (DV.x (kK s 6 l h)) j (D2 s w)
 unfold qu at w;cases g:sh Z a with
 |none=>rw[g] at w;exact e w
 |some dx=>
  cases h:sh Z b with
  |none=>rw[g,h] at w;exact e w
  |some i=>rw[g,h] at w;obtain⟨rv,j,w⟩:=w.RO;exact n _ H x y dx i rv Q s.YT (Ew s m g) (Ew s l h) j (D0 s w)
def mU (f:D->D->Option RV) (fa fb:dU):dU:=fun ρ Z=>(fa ρ Z).bind fun x Z1=>(fb ρ Z1).bind fun y P=>qu f x y P
theorem kj (l:k8 K r f) (ha:cY K E ta fa) (m:cY K E tb fb):cY K E (LI r ta tb) (mU f fa fb):=by intro B U H Y Z ρ Q s a w;refine ha B U H Y Z ρ _ s a (w.bind.imp fun x X Z1 T o h e v i=> ?_);refine m B U T X Z1 ρ _ h (a.Tz o) (e.bind.imp fun y J P H2 n g b u j=> ?_);exact yB l g (i.Tz n) j b
def IU:SV->Option Bool
 | .fz (.bool b)=>lD b
 |_=>Ld
theorem IG (e:IU x=lD b) (h:Ud O K H Y v x):v= .bl b:=by
 unfold IU at e;split at e
 .cases e;cases h;rfl
 .cases e
def bS (fa:dU):vB:=fun ρ Z=>(fa ρ Z).bind fun x Z1=>RS.RO Z1 (IU x)
theorem iR (ha:cY K E ta fa):xm K E (A2 ta) (bS fa):=by
 intro B U H Y Z ρ Q s e w;refine ha B U H Y Z ρ _ s e (w.bind.imp fun x X Z1 T h f a v g=> ?_);cases q:IU x with
 |none=>rw[q] at a;exact a.elim
 |some b=>rw[q] at a;exact⟨b,IG q g,WS.now f a⟩
theorem Eb (ha:cY K E ta fa):xm K E (tB ta) (bS fa):=iR ha
def lF (fa fb:vB):vB:=fun ρ Z=>(fa ρ Z).bind fun b Z1=>if b=QJ then fb ρ Z1 else .ok QQ Z1
def C9 (fa fb:vB):vB:=fun ρ Z=>(fa ρ Z).bind fun b Z1=>if b=QJ then .ok QJ Z1 else fb ρ Z1
def vN (fa:vB):vB:=fun ρ Z=>(fa ρ Z).bind fun b Z1=> .ok (!b) Z1
theorem Hz (j:xm K E t f) (i:xm K E u g):xm K E (Lq t u) (lF f g):=by
 intro B U H Y Z ρ Q s e w;refine j B U H Y Z ρ _ s e (w.bind.imp fun b X Z1 T l h a=> ?_);cases b with
 |true=>exact i B U T X Z1 ρ Q h (e.Tz l) a
 |false=>exact WS.now h a
theorem NC (j:xm K E t f) (i:xm K E u g):xm K E (Qm t u) (C9 f g):=by
 intro B U H Y Z ρ Q s e w;refine j B U H Y Z ρ _ s e (w.bind.imp fun b X Z1 T l h a=> ?_);cases b with
 |true=>exact WS.now h a
 |false=>exact i B U T X Z1 ρ Q h (e.Tz l) a
theorem Jq (h:xm K E t f):xm K E (Nk t) (vN f):=by intro B U H Y Z ρ Q s e w;exact h B U H Y Z ρ _ s e (w.bind.imp fun b X Z1 T i g a=>WS.now g a)
def pI:vB:=fun _ Z=> .ok QJ Z
theorem vV:xm K E ET pI:=fun B U H Y Z ρ Q s a w=>WS.now s w
def B8 (fa fb:dU):dU:=fun ρ Z=>(bS fa ρ Z).bind fun b Z1=>if b=QJ then fb ρ Z1 else .ok (.fz (.bool QQ)) Z1
theorem A9 (ha:cY K E ta fa) (g:cY K E tb fb):cY K E (FV ta tb) (B8 fa fb):=by
 intro B U H Y Z ρ Q s e w;refine iR ha B U H Y Z ρ (fun c T=>if c=QJ then tb U T Q else Q (.bl QQ) T) s e (w.bind.imp fun b X Z1 T h f a=> ?_);cases b with
 |true=>exact g B U T X Z1 ρ Q f (e.Tz h) a
 |false=>exact WS.now f a _ (.bl QQ)
def Lg (c:vB) (fa fb:dU):dU:=fun ρ Z=>(c ρ Z).bind fun b Z1=>if b=QJ then fa ρ Z1 else fb ρ Z1
theorem MK (h:xm K E t c) (ha:cY K E ta fa) (i:cY K E tb fb):cY K E (Pj t ta tb) (Lg c fa fb):=by
 intro B U H Y Z ρ Q s a w;refine h B U H Y Z ρ _ s a (w.bind.imp fun b X Z1 T g f e=> ?_);cases b with
 |true=>exact ha B U T X Z1 ρ Q f (a.Tz g) e
 |false=>exact i B U T X Z1 ρ Q f (a.Tz g) e
def aW:xT:=fun _ Z=> .ok [] Z
def ao (fa:dU) (a:xT):xT:=fun ρ Z=>(fa ρ Z).bind fun x Z1=>(a ρ Z1).bind fun xs P=> .ok (x::xs) P
theorem c8:vT K E qC aW:=fun B U H Y Z ρ Q s a w=>WS.now s w [] .nil
theorem aY (ha:cY K E ta fa) (j:vT K E tr fr):vT K E (mO ta tr) (ao fa fr):=by intro B U H Y Z ρ Q s b w;refine ha B U H Y Z ρ _ s b (w.bind.imp fun x X Z1 T m h f v i=> ?_);refine j B U T X Z1 ρ _ h (b.Tz m) (f.bind.imp fun xs J P H2 l g e vs a=> ?_);exact WS.now g e (v::vs) (.cons (i.Tz l) a)
def Pf:SV->Option AV
 | .fz d=>lD (.fz d)
 | .rf i=>lD (.rf i)
 | .tp _=>Ld
def Pr (xs:List SV):Option SV:=match aM wR xs with
 |some ds=>lD (.fz (.tuple ds))
 |none=>(aM Pf xs).map .tp
def nt (fa:xT):dU:=fun ρ Z=>(fa ρ Z).bind fun xs Z1=>if xs.length<=1000 then RS.RO Z1 (Pr xs) else .bad
theorem yc (r:Ud O K H Y v x) (e:wR x=lD d):DV O K H v d:=by
 cases x with
 |fz d=>cases e;exact r
 |rf i=>cases e
 |tp l=>cases e
theorem Nf (r:Ud O K H Y v x) (e:Pf x=lD d):AOk O K H Y v d:=by
 cases x with
 |fz d=>cases e;exact r
 |rf i=>cases e;exact r
 |tp l=>cases e
theorem uu (ha:vT K E ta fa):cY K E (LN ta) (nt fa):=by
 intro B U H Y Z ρ Q s m w;refine ha B U H Y Z ρ _ s m (w.bind.imp fun xs X Z1 T n f a vs g=> ?_);by_cases hn:xs.length<=1000
 .rw[if_pos hn] at a
  refine⟨by rw[g.length];exact zw hn,fun p j=> ?_⟩;have b:SJ T (bC T p (.tup vs)):=ce j _;have e:S0 X Z1 T X Z1 (bC T p (.tup vs)):=S0.same b;have i:VZ (ow B X Z1) K (bC T p (.tup vs)) p vs:=⟨Vn.of aH,fun z=>absurd z (f.YT p j)⟩;unfold Pr at a;cases q:aM wR xs with
  |some ds=>rw[q] at a;exact a X _ e (f.grow b) _ (.tup i (ki (dh (R:=Ud (ow B X Z1) K T X) (fun v x y r h=>(yc r h).ev e.ev) g q)))
  |none=>
   rw[q] at a;dsimp only at a;cases q2:aM Pf xs with
   |none=>rw[q2] at a;exact a.elim
   |some l=>rw[q2] at a;exact a X _ e (f.grow b) _ ⟨p,vs,rfl,i,dh (R:=Ud (ow B X Z1) K T X) (fun v x y r h=>(Nf r h).ev e.ev e.pre) g q2⟩
 .rw[if_neg hn] at a;exact a.elim
def Ln (f:List D->Option RV) (xs:List SV) (Z:aV):RS SV:=match aM (sh Z) xs with
 |some ds=>(RS.RO Z (f ds)).bind fun rv Z1=>lu Z1 rv
 |_=>(RS.RO Z (aM (CB 6 Z) xs)).bind fun ds Z1=>(RS.RO Z1 (f ds)).bind fun rv a=>xY a rv
def G5 (f:List D->Option RV) (fa:xT):dU:=fun ρ Z=>(fa ρ Z).bind fun xs Z1=>Ln f xs Z1
theorem qv (i:C3 K r f) (ha:vT K E ta fa):cY K E (Kf r ta) (G5 f fa):=by
 intro B U H Y Z ρ Q s j w;refine ha B U H Y Z ρ _ s j (w.bind.imp fun xs X Z1 T m b a vs h=> ?_);unfold Ln at a;cases q1:aM (sh Z1) xs with
 |none=>rw[q1] at a;obtain⟨ds,l,a⟩:=a.RO;obtain⟨rv,g,a⟩:=a.RO;exact i YT T vs ds rv Q EH (dh (R:=Ud (ow B X Z1) K T X) (fun v x y r e=>DV.x (kK b 6 r e)) h l) g (D2 b a)
 |some ds=>rw[q1] at a;obtain⟨rv,g,a⟩:=a.RO;exact i _ T vs ds rv Q b.YT (dh (R:=Ud (ow B X Z1) K T X) (fun v x y r e=>Ew b r e) h q1) g (D0 b a)
end
section
variable {B O O':cb} {K:QF} {E:XK} {H H' M L:Hp} {Y J X U:List QN} {Z S Z1 T:aV} {N:L2.St} {ρ:bp} {v:V}
theorem yh:∀{vs:List V} {xs:List β} {i:Nat} {x:β},Paired R vs xs->xs[i]? =lD x->∃v,vs[i]? =lD v/\R v x
 |_,_,_,_,.nil,e=>by simp at e
 |_,_,0,_,.cons h _,e=>by simp at e;subst e;exact⟨_,rfl,h⟩
 |_,_,i+1,x,.cons _ t,e=>by obtain⟨v,b,a⟩:=yh t (by simpa using e);exact⟨v,by simpa using b,a⟩
theorem Ka {vs:List V} (h:Paired R vs xs) (e:lL xs i=lD x):∃v,lL vs i=lD v/\R v x:=by
 unfold lL at e⊢;rw[h.length];cases q:J7 xs.length i with
 |none=>rw[q] at e;cases e
 |some j=>rw[q] at e;exact yh h e
def EE:SV->Option Int
 | .fz (.int i)=>lD i
 |_=>Ld
theorem Bw (e:EE x=lD i) (h:Ud O K H Y v x):v= .int i:=by
 unfold EE at e;split at e
 .cases e;cases h;rfl
 .cases e
def KU (x y:SV) (Z:aV):RS SV:=match x with
 | .fz _=>qu bc x y Z
 | .rf j=>(match Z[j]? with
  |some (.lst xs)=>(RS.RO Z (EE y)).bind fun i Z1=>RS.RO Z1 (lL xs i)
  |_=> .bad)
 | .tp l=>(RS.RO Z (EE y)).bind fun i Z1=>RS.RO Z1 ((lL l i).map AV.sv)
def ka (fa fb:dU):dU:=fun ρ Z=>(fa ρ Z).bind fun x Z1=>(fb ρ Z1).bind fun y T=>KU x y T
theorem uv (ha:cY K E ta fa) (C:cY K E tb fb):cY K E (LI (Pa K) ta tb) (ka fa fb):=by
 intro B N H Y Z ρ Q s r w;refine ha B N H Y Z ρ _ s r (w.bind.imp fun x X Z1 M G A t v e=> ?_);refine C B N M X Z1 ρ _ A (r.Tz G) (t.bind.imp fun y U T L F f b u n=> ?_);have e:=e.Tz F;unfold KU at b;cases x with
 |fz d=>exact yB cg f e n b
 |rf j=>
  obtain⟨a,ha,rfl⟩:=e;dsimp only at b;cases q:T[j]? with
  |none=>rw[q] at b;exact b.elim
  |some c=>
   rw[q] at b;cases c with
   |lst xs=>
    obtain⟨i,h,b⟩:=WS.RO b;cases qa:lL xs i with
    |none=>rw[qa] at b;exact b.elim
    |some x=>rw[qa] at b;obtain⟨vs,p,o⟩:=f.X4 j a _ ha q;obtain⟨z,m,g⟩:=Ka o qa;exact .inl ⟨a,vs,i,z,rfl,Bw h n,Ve.of p,m,WS.now f b z g⟩
   |_=>exact b.elim
 |tp l=>
  obtain⟨a,xs,rfl,p,o⟩:=e;obtain⟨i,h,b⟩:=WS.RO b;cases qa:lL l i with
  |none=>rw[qa] at b;exact b.elim
  |some x=>rw[qa] at b;obtain⟨z,m,g⟩:=Ka o qa;exact .inr (.inl ⟨a,xs,i,z,rfl,Bw h n,p.1,m,WS.now f b z (by cases x<;>exact g)⟩)
theorem Jj (h:Lv Y (Z.set i .dead) b):Lv Y Z b:=by
 obtain⟨j,c,f,a,e⟩:=h;rcases cw a with⟨rfl,rfl⟩|⟨_,a⟩
 .exact absurd rfl e
 .exact⟨j,c,f,a,e⟩
theorem S0.kill:S0 Y Z H Y (Z.set i .dead) H:=⟨fun _ _ h=>h,fun _ _ h _=>h,fun _ h=> .inl (Jj h)⟩
theorem Rz.kill (s:Rz B K H Y Z) (i:Nat):Rz B K H Y (Z.set i .dead):=by
 have e:S0 Y Z H Y (Z.set i .dead) H:=S0.kill;refine⟨by rw[Si];exact s.len,s.nd,s.bn,s.ba,s.al,fun j b d f a=> ?_⟩;rcases cw a with⟨rfl,rfl⟩|⟨g,a⟩
 .exact trivial
 .exact(s.X4 j b d f a).ev e.ev e.pre fun u q=>q
theorem Rz.acA (s:Rz B K H Y Z) (ha:Y[i]? =lD a):¬ow B Y (Z.set i .dead) a:=by
 rintro(z|⟨j,c,f,e,b⟩)
 .exact s.abj ha z
 .have:=s.nd j i a f ha
  subst this;rcases cw e with⟨_,rfl⟩|⟨g,_⟩
  .exact b rfl
  .exact g rfl
def oK (g:aV->SV->Option (D×aV)):aV->List SV->Option (List D×aV)
 |Z,[]=>lD ([],Z)
 |Z,x::r=>match g Z x with
  |some (d,Z1)=>(match oK g Z1 r with
   |some (ds,T)=>lD (d::ds,T)
   |none=>Ld)
  |none=>Ld
def frz:Nat->aV->SV->Option (D×aV)
 |_,Z,.fz d=>lD (d,Z)
 |0,_,_=>Ld
 |n+1,Z,.rf i=>match Z[i]? with
  |some (.lst xs)=>(match oK (frz n) Z xs with
   |some (ds,Z1)=>lD (.list ds,Z1.set i .dead)
   |none=>Ld)
  |_=>Ld
 |n+1,Z,.tp l=>match oK (frz n) Z (l.map AV.sv) with
  |some (ds,Z1)=>lD (.tuple ds,Z1)
  |none=>Ld
theorem ui (a:∀{Z S:aV} {v:V} {x:SV} {d:D},Rz B K H Y Z->Ud (ow B Y Z) K H Y v x->g Z x=lD (d,S)->Rz B K H Y S/\S0 Y Z H Y S H/\L3.DV (ow B Y S) K H v d):
  ∀{vs:List V} {xs:List SV} {ds:List D} {Z S:aV},Rz B K H Y Z->TQ (ow B Y Z) K H Y vs xs->oK g Z xs=lD (ds,S)->Rz B K H Y S/\S0 Y Z H Y S H/\L3.SE (ow B Y S) K H vs ds
 |_,_,_,Z,S,s,.nil,e=>by cases e;exact⟨s,.refl,.nil⟩
 |_,_,_,Z,S,s,.cons (b:=x) (l₂:=xs) r t,e=>by
  unfold oK at e;cases q:g Z x with
  |none=>rw[q] at e;cases e
  |some p=>
   obtain⟨d,Z1⟩:=p;rw[q] at e;dsimp only at e;obtain⟨j,h,n⟩:=a s r q;cases q2:oK g Z1 xs with
   |none=>rw[q2] at e;cases e
   |some l=>obtain⟨ds,T⟩:=l;rw[q2] at e;cases e;obtain⟨i,f,m⟩:=ui a j (TQ.Tz h t) q2;exact⟨i,h.trans f,.cons (n.ev f.ev) m⟩
theorem vn:∀{vs:List V} {l:List AV},Paired (AOk O K H Y) vs l->TQ O K H Y vs (l.map AV.sv)
 |_,_,.nil=> .nil
 |_,_,.cons (b:=x) h t=> .cons (by cases x<;>exact h) (vn t)
theorem uC:∀(n:Nat) {Z S:aV} {v:V} {x:SV} {d:D},Rz B K H Y Z->Ud (ow B Y Z) K H Y v x->frz n Z x=lD (d,S)->Rz B K H Y S/\S0 Y Z H Y S H/\L3.DV (ow B Y S) K H v d
 |n,Z,S,v,.fz d',d,s,h,e=>by
  have o:lD (d',Z)=lD (d,S):=by cases n<;>exact e
  cases o;exact⟨s,.refl,h⟩
 |0,_,_,v,.rf i,d,s,h,e=>by cases e
 |0,_,_,v,.tp l,d,s,h,e=>by cases e
 |n+1,Z,S,v,.rf i,d,s,h,e=>by
  obtain⟨a,ha,rfl⟩:=h;unfold frz at e;cases q:Z[i]? with
  |none=>rw[q] at e;cases e
  |some c=>
   rw[q] at e;cases c with
   |lst xs=>
    dsimp only at e;obtain⟨vs,j,g⟩:=s.X4 i a _ ha q;cases q2:oK (frz n) Z xs with
    |none=>rw[q2] at e;cases e
    |some p=>obtain⟨ds,Z1⟩:=p;rw[q2] at e;cases e;obtain⟨b,f,m⟩:=ui (fun s h e=>uC n s h e) s g q2;exact⟨b.kill i,f.trans S0.kill,vJ j (b.acA ha) (m.ev (S0.kill).ev)⟩
   |_=>cases e
 |n+1,Z,S,v,.tp l,d,s,h,e=>by
  obtain⟨a,xs,rfl,j,g⟩:=h;unfold frz at e;cases q2:oK (frz n) Z (l.map AV.sv) with
  |none=>rw[q2] at e;cases e
  |some p=>obtain⟨ds,Z1⟩:=p;rw[q2] at e;cases e;obtain⟨b,f,m⟩:=ui (fun s h e=>uC n s h e) s (vn g) q2;exact⟨b,f,.tup (j.ev f.ev) m⟩
def Nd (x:SV) (Z:aV):RS SV:=match frz 4 Z x with
 |some (d,Z1)=> .ok (.fz d) Z1
 |none=> .bad
def mH (f:dU):dU:=fun ρ Z=>(f ρ Z).bind fun x Z1=>Nd x Z1
theorem kN (h:cY K E t f):cY K E t (mH f):=by
 intro B N H Y Z ρ Q s b w;refine h B N H Y Z ρ _ s b (w.bind.imp fun x X Z1 M m g a v i=> ?_);unfold Nd at a;cases q:frz 4 Z1 x with
 |none=>rw[q] at a;exact a.elim
 |some p=>obtain⟨d,T⟩:=p;rw[q] at a;obtain⟨e,j,l⟩:=uC 4 g i q;exact a X M j e v l
theorem XOk.sub (h:∀b,O' b->O b) (k:XOk K O H c dx x):XOk K O' H c dx x:=by obtain⟨i,fs,g,a⟩:=k;exact⟨i,fs,g,fun f d e=>let⟨g1,v,g2,g3⟩:=a f d e;⟨g1,v,g2,g3.ev (Ev.sub h)⟩⟩
def xZ (F:FN) (n:Nat) (xs:List SV) (Z:aV):RS SV:=if xs.length=n then(match aM wR xs with
 |some ds=>(match F ds with
  | .ok rv=>lu Z rv
  | .er x=> .er x Z
  | .bad=> .bad)
 |none=>(RS.RO Z (aM (CB 6 Z) xs)).bind fun ds Z1=>(match F ds with
  | .ok rv=>xY Z1 rv
  |_=> .bad)) else .bad
def lg:RS A->RS A
 | .er _ _=> .bad
 |r=>r
def iL (F:FN) (n:Nat) (fa:xT):dU:=fun ρ Z=>(fa ρ Z).bind fun xs Z1=>lg (xZ F n xs Z1)
theorem WS.e0 (h:WS K E B H Y Z P (lg r)):WS K E0 B H Y Z P r:=by
 cases r with
 |ok a Z=>exact h
 |er x Z=>exact h.elim
 |bad=>exact h
theorem IX (s:Rz B K H Y Z) (b:TQ (ow B Y Z) K H Y vs xs) (w:WS K E B H Y Z (PQ B K Q) (xZ F n xs Z)):nY K n F vs H Q E:=by
 unfold xZ at w;by_cases hn:xs.length=n
 .rw[if_pos hn] at w
  refine⟨b.length.trans hn,?_⟩;cases q:aM wR xs with
  |some ds=>
   rw[q] at w;refine⟨ow B Y Z,ds,s.owd,ki (dh (R:=Ud (ow B Y Z) K H Y) (fun v x y r e=>yc r e) b q),?_⟩;dsimp only at w;cases qF:F ds with
   |ok rv=>rw[qF] at w;exact D0 s w
   |er x=>rw[qF] at w;exact fun c dx H' e k=>w c dx Y H' (S0.same e) (s.grow e) k
   |bad=>rw[qF] at w;exact w.elim
  |none=>
   rw[q] at w;obtain⟨ds,f,w⟩:=WS.RO w;refine⟨YT,ds,fun a z=>z.elim,ki (dh (R:=Ud (ow B Y Z) K H Y) (fun v x y r e=>kK s 6 r e) b f),?_⟩;cases qF:F ds with
   |ok rv=>rw[qF] at w;exact D2 s w
   |er x=>rw[qF] at w;exact w.elim
   |bad=>rw[qF] at w;exact w.elim
 .rw[if_neg hn] at w;exact w.elim
theorem A8 (ha:vT K E ta fa):cY K E (mB (nY K n F) [] E0 ta) (iL F n fa):=by intro B N H Y Z ρ Q s b w;refine ha B N H Y Z ρ _ s b (w.bind.imp fun xs X Z1 M g e a vs f=> ?_);rw[RF];exact IX e f (WS.e0 a)
abbrev iK:=List SV->aV->RS SV
def dY (K:QF) (n:Nat) (F:iK):Sp:=fun vs H Q E=>vs.length=n/\∃(B:cb) (Y:List QN) (Z:aV) (xs:List SV),Rz B K H Y Z/\TQ (ow B Y Z) K H Y vs xs/\WS K E B H Y Z (PQ B K Q) (F xs Z)
def zT (F:iK) (n:Nat) (fa:xT):dU:=fun ρ Z=>(fa ρ Z).bind fun xs Z1=>if xs.length=n then lg (F xs Z1) else .bad
theorem Cn (ha:vT K E ta fa):cY K E (mB (dY K n F) [] E0 ta) (zT F n fa):=by
 intro B N H Y Z ρ Q s e w;refine ha B N H Y Z ρ _ s e (w.bind.imp fun xs X Z1 M g f a vs b=> ?_);rw[RF];by_cases hn:xs.length=n
 .rw[if_pos hn] at a;exact⟨b.length.trans hn,B,X,Z1,xs,f,b,WS.e0 a⟩
 .rw[if_neg hn] at a;exact a.elim
def lh (Z:aV) (C m:Str):SV->Bool
 | .rf i=>match Z[i]? with
  |some (.obj D fs)=>decide (D=C)&&(fs.lookup m).isNone
  |_=>QQ
 |_=>QQ
def rh (C m:Str) (F:iK) (n:Nat) (fo:dU) (fa:xT):dU:=fun ρ Z=>(fo ρ Z).bind fun x Z1=>if lh Z1 C m x=QJ then(fa ρ Z1).bind fun xs T=>(if(x::xs).length=n then F (x::xs) T else .bad) else .bad
def aO (C m:Str) (F:iK) (n:Nat) (fo:dU) (fa:xT):dU:=fun ρ Z=>(fo ρ Z).bind fun x Z1=>if lh Z1 C m x=QJ then(fa ρ Z1).bind fun xs T=>(if(x::xs).length=n then lg (F (x::xs) T) else .bad) else .bad
theorem F9 (g:Q9 K Q4 C=lD (lD (.ref Ca))) (s:Rz B K H Y Z) (f:Ud (ow B Y Z) K H Y v x) (h:lh Z C m x=QJ):∃a dx fs,v= .ref a/\H a=lD (.ins Ca dx fs)/\fs.lookup m=Ld:=by
 cases x with
 |fz d=>cases h
 |tp l=>cases h
 |rf i=>
  obtain⟨a,ha,rfl⟩:=f;unfold lh at h;dsimp only at h;cases q:Z[i]? with
  |none=>rw[q] at h;cases h
  |some c=>
   rw[q] at h;cases c with
   |obj D fs=>rw[Q6] at h;obtain⟨n,j⟩:=h;have e:=of_decide_eq_true n;subst e;obtain⟨r,dx,ws,b,p,o⟩:=s.X4 i a _ ha q;rw[g] at b;cases b;exact⟨a,dx,ws,rfl,p,sZ o (Option.isNone_iff_eq_none.mp j)⟩
   |_=>cases h
theorem Dy (q:Q9 K Q4 C=lD (lD (.ref Ca))) (p:cY K E to fo) (ha:vT K E ta fa):cY K E (sG Ca m (dY K n F) [] E to ta) (rh C m F n fo fa):=by
 intro B N H Y Z ρ Q s g w;refine p B N H Y Z ρ _ s g (w.bind.imp fun x X Z1 M y i e v j=> ?_);by_cases h:lh Z1 C m x=QJ
 .rw[if_pos h] at e
  obtain⟨a,dx,fs,rfl,t,r⟩:=F9 q i j h;refine⟨a,dx,fs,rfl,t,r,?_⟩;refine ha B N M X Z1 ρ _ i (g.Tz y) (e.bind.imp fun xs U T L u o b vs f=> ?_);rw[RF];have l:TQ (ow B U T) K L U (.ref a::vs) (x::xs):= .cons (j.Tz u) f;by_cases hn:(x::xs).length=n
  .rw[if_pos hn] at b;exact⟨l.length.trans hn,B,U,T,_,o,l,b⟩
  .rw[if_neg hn] at b;exact b.elim
 .rw[if_neg h] at e;exact e.elim
theorem Cm (q:Q9 K Q4 C=lD (lD (.ref Ca))) (p:cY K E to fo) (ha:vT K E ta fa):cY K E (sG Ca m (dY K n F) [] E0 to ta) (aO C m F n fo fa):=by
 intro B N H Y Z ρ Q s g w;refine p B N H Y Z ρ _ s g (w.bind.imp fun x X Z1 M y i e v j=> ?_);by_cases h:lh Z1 C m x=QJ
 .rw[if_pos h] at e
  obtain⟨a,dx,fs,rfl,t,r⟩:=F9 q i j h;refine⟨a,dx,fs,rfl,t,r,?_⟩;refine ha B N M X Z1 ρ _ i (g.Tz y) (e.bind.imp fun xs U T L u o b vs f=> ?_);rw[RF];have l:TQ (ow B U T) K L U (.ref a::vs) (x::xs):= .cons (j.Tz u) f;by_cases hn:(x::xs).length=n
  .rw[if_pos hn] at b;exact⟨l.length.trans hn,B,U,T,_,o,l,WS.e0 b⟩
  .rw[if_neg hn] at b;exact b.elim
 .rw[if_neg h] at e;exact e.elim
def Cz:SV->Bool
 | .fz .none=>QJ
 |_=>QQ
def sI (C:Str) (F:iK) (n:Nat) (xs:List SV) (Z:aV):RS SV:=if(SV.rf Z.length::xs).length=n then(F (.rf Z.length::xs) (Z++[.obj C []])).bind fun r T=>(if Cz r=QJ then .ok (.rf Z.length) T else .bad) else .bad
def FU (C:Str) (F:iK) (n:Nat) (fa:xT):dU:=fun ρ Z=>(fa ρ Z).bind fun xs Z1=>sI C F n xs Z1
def sW (C:Str) (F:iK) (n:Nat) (fa:xT):dU:=fun ρ Z=>(fa ρ Z).bind fun xs Z1=>lg (sI C F n xs Z1)
theorem Jl (h:Cz x=QJ) (a:Ud O K H Y v x):v= .TN:=by
 unfold Cz at h;split at h
 .cases a;rfl
 .cases h
theorem DQ (p:Q9 K Q4 C=lD (lD (.ref Ca))) (s:Rz B K H Y Z) (o:TQ (ow B Y Z) K H Y vs xs) (w:WS K E B H Y Z (PQ B K Q) (sI C F n xs Z)):
  ∀x dx,H x=Ld->H dx=Ld->dx≠x->dY K n F (.ref x::(vs++[])) (bC (bC H dx (.own x)) x (.ins Ca dx [])) (fun v L=>v= .TN/\Q (.ref x) L) E:=by
 intro x dx b g t;rw[RF];unfold sI at w;have h:SJ H (bC (bC H dx (.own x)) x (.ins Ca dx [])):=(ce g _).trans (ce (by rw[az (fun z=>t z.symm)];exact b) _);have e:S0 Y Z H (Y++[x]) (Z++[.obj C []]) (bC (bC H dx (.own x)) x (.ins Ca dx [])):=S0.XW s.len h b;have m:Rz B K (bC (bC H dx (.own x)) x (.ins Ca dx [])) (Y++[x]) (Z++[.obj C []]):=s.XW h b (by rw[aH];simp) ⟨Ca,dx,[],p,aH,.nil⟩;have j:∀{J:List QN} {S:aV} {H':Hp},S0 (Y++[x]) (Z++[.obj C []]) (bC (bC H dx (.own x)) x (.ins Ca dx [])) J S H'->Ud (ow B J S) K H' J (.ref x) (.rf Z.length):=fun e=>⟨x,e.pre _ _ (by rw[<-s.len];exact aX),rfl⟩;by_cases hn:(SV.rf Z.length::xs).length=n
 .rw[if_pos hn] at w
  have i:TQ (ow B (Y++[x]) (Z++[.obj C []])) K (bC (bC H dx (.own x)) x (.ins Ca dx [])) (Y++[x]) (.ref x::vs) (.rf Z.length::xs):= .cons (j .refl) (TQ.Tz e o);refine⟨i.length.trans hn,B,_,_,_,m,i,?_⟩;refine WS.imp (WS.from e w.bind) fun r U T L q l a v f=> ?_;by_cases z:Cz r=QJ
  .rw[if_pos z] at a;exact⟨Jl z f,WS.now l a _ (j q)⟩
  .rw[if_neg z] at a;exact a.elim
 .rw[if_neg hn] at w;exact w.elim
theorem IH (g:Q9 K Q4 C=lD (lD (.ref Ca))) (ha:vT K E ta fa):cY K E (xt Ca (dY K n F) [] E ta) (FU C F n fa):=by intro B N H Y Z ρ Q s b w;refine ha B N H Y Z ρ _ s b (w.bind.imp fun xs X Z1 M h e a vs f=> ?_);exact DQ g e f a
theorem Gd (g:Q9 K Q4 C=lD (lD (.ref Ca))) (ha:vT K E ta fa):cY K E (xt Ca (dY K n F) [] E0 ta) (sW C F n fa):=by intro B N H Y Z ρ Q s b w;refine ha B N H Y Z ρ _ s b (w.bind.imp fun xs X Z1 M h e a vs f=> ?_);exact DQ g e f (WS.e0 a)
def g8 (Z:aV):SV->Option (Nat×List SV)
 | .rf i=>match Z[i]? with
  |some (.lst xs)=>lD (i,xs)
  |_=>Ld
 |_=>Ld
theorem u8 (s:Rz B K H Y Z) (b:Ud (ow B Y Z) K H Y v x) (h:g8 Z x=lD (i,xs)):Z[i]? =lD (.lst xs)/\∃a vs,Y[i]? =lD a/\v= .ref a/\H a=lD (.lst vs)/\TQ (ow B Y Z) K H Y vs xs:=by
 cases x with
 |fz d=>cases h
 |tp l=>cases h
 |rf j=>
  obtain⟨a,ha,rfl⟩:=b;unfold g8 at h;dsimp only at h;cases q:Z[j]? with
  |none=>rw[q] at h;cases h
  |some c=>
   rw[q] at h;cases c with
   |lst m=>have e:=Ra h;cases e;obtain⟨vs,g,f⟩:=s.X4 i a _ ha q;exact⟨q,a,vs,ha,rfl,g,f⟩
   |_=>cases h
theorem uD (h:Paired R vs xs) (r:R v x):Paired R (vs++[v]) (xs++[x]):=by
 induction h with
 |nil=>exact .cons r .nil
 |cons a _ b=>exact .cons a b
def rS (fo fe:dU):dU:=fun ρ Z=>(fo ρ Z).bind fun o Z1=>(RS.RO Z1 (g8 Z1 o)).bind fun _ Z1=>(fe ρ Z1).bind fun x T=>(RS.RO T (g8 T o)).bind fun p a=>
 if p.2.length<1000000 then .ok (.fz .none) (a.set p.1 (.lst (p.2++[x]))) else .bad
theorem zZ (F:cY K E to fo) (G:cY K E te fe):cY K E (Py K "list" uF to (mO te qC)) (rS fo fe):=by
 intro B N H Y Z ρ Q s j w;refine F B N H Y Z ρ _ s j (w.bind.imp fun o X Z1 M e1 m e v n=> ?_);obtain⟨⟨i0,y⟩,A,e⟩:=WS.RO e;obtain⟨_,t,f,_,rfl,P,_⟩:=u8 m n A;refine⟨.inl ⟨rfl,f,Ve.of P⟩,?_⟩;refine G B N M X Z1 ρ _ m (j.Tz e1) (e.bind.imp fun x U T L e2 l b u C=> ?_);obtain⟨⟨i,xs⟩,q,b⟩:=WS.RO b;obtain⟨g,a,vs,ha,R,I,p⟩:=u8 l (n.Tz e2) q;cases R;dsimp only at b;by_cases hn:xs.length<1000000
 .rw[if_pos hn] at b;have ev:Ev (ow B U T) L (ow B U T) (bC L t (.lst (vs++[u]))):=qL ha g (by intro z;cases z);refine⟨t,vs,u,rfl,rfl,I,sV (by rw[p.length];exact hn),?_⟩;exact b U _ (S0.put ha g (by intro z;cases z) (by intro z;cases z)) (l.put ha g (by intro z;cases z) (by intro z;cases z) ⟨_,aH,uD (Paired.U3 p fun _ _ r=>r.ev ev fun _ _ h=>h) (C.ev ev fun _ _ h=>h)⟩) _ .TN
 .rw[if_neg hn] at b;exact b.elim
end
inductive FlS where
 |nx (ρ:bp)
 |bk (ρ:bp)
 |ct (ρ:bp)
 |rt (x:SV)
abbrev fx:=bp->aV->RS FlS
abbrev C4:=SV->bp->aV->RS bp
abbrev EJ:=List SV->bp->aV->RS bp
def xF (B:cb) (K:QF) (D:Ends):FlS->List QN->aV->Hp->Prop
 | .nx ρ,α,Z,H=>∀σ,T5 (ow B α Z) K H α σ ρ->D.nx σ H
 | .bk ρ,α,Z,H=>∀σ,T5 (ow B α Z) K H α σ ρ->D.bk σ H
 | .ct ρ,α,Z,H=>∀σ,T5 (ow B α Z) K H α σ ρ->D.ct σ H
 | .rt x,α,Z,H=>∀v,Ud (ow B α Z) K H α v x->D.rt v H
def l7 (K:QF) (E:XK) (t:TS) (g:fx):Prop:=
 ∀(B:cb) (a:L2.St) (H:Hp) (α:List QN) (Z:aV) (ρ:bp) (D:Ends),Rz B K H α Z->T5 (ow B α Z) K H α a ρ->WS K E B H α Z (xF B K D) (g ρ Z)->t D a H
def MZ (K:QF) (E:XK) (g:TG) (f:C4):Prop:=
 ∀(B:cb) (e:L2.St) (H:Hp) (α:List QN) (Z:aV) (ρ:bp) (v:V) (x:SV) (Q:L2.St->Hp->Prop),Rz B K H α Z->T5 (ow B α Z) K H α e ρ->Ud (ow B α Z) K H α v x->WS K E B H α Z (fun b a i h=>∀σ',T5 (ow B a i) K h a σ' b->Q σ' h) (f x ρ Z)->g v e H Q
def JA (K:QF) (E:XK) (g:Lf) (f:EJ):Prop:=
 ∀(B:cb) (e:L2.St) (H:Hp) (α:List QN) (Z:aV) (ρ:bp) (vs:List V) (xs:List SV) (Q:L2.St->Hp->Prop),Rz B K H α Z->T5 (ow B α Z) K H α e ρ->TQ (ow B α Z) K H α vs xs->WS K E B H α Z (fun b a i h=>∀σ',T5 (ow B a i) K h a σ' b->Q σ' h) (f xs ρ Z)->g vs e H Q
section
variable {B O O':cb} {K:QF} {E:XK} {H H' P N:Hp} {U M T Y:List QN} {Z Z' Z1 X:aV} {S:L2.St} {ρ:bp} {v:V}
theorem T5.set (a:T5 O K H U S ρ) (h:Ud O K H U v x):T5 O K H U (S.set i (lD v)) (ρ.set i (lD x)):=by
 refine⟨by rw[Si,Si];exact a.1,fun j y f=> ?_⟩;rcases cw f with⟨rfl,e⟩|⟨m,b⟩
 .cases e;refine⟨v,?_,h⟩;rw[Sv];have:=uT f;rw[a.1];exact this
 .obtain⟨u,l,g⟩:=a.2 j y b;exact⟨u,by rw[R9 (fun z=>m z.symm)];exact l,g⟩
def gn (i:Nat):C4:=fun x ρ Z=> .ok (ρ.set i (lD x)) Z
theorem bX:MZ K E (vX i) (gn i):=fun B S H U Z ρ v x Q s a h w=>WS.now s w _ (a.set h)
def Gg:EJ:=fun xs ρ Z=>match xs with
 |[]=> .ok ρ Z
 |_=> .bad
def tQ (f:C4) (g:EJ):EJ:=fun xs ρ Z=>match xs with
 |x::r=>(f x ρ Z).bind fun a Z1=>g r a Z1
 |[]=> .bad
theorem IL:JA K E KR Gg:=by
 intro B S H U Z ρ vs xs Q s a h w;cases h with
 |nil=>exact⟨rfl,WS.now s w _ a⟩
 |cons _ _=>exact w.elim
theorem DM (p:MZ K E t f) (o:JA K E u g):JA K E (DF t u) (tQ f g):=by
 intro B S H U Z ρ vs xs Q s m h w;cases h with
 |nil=>exact w.elim
 |cons a b=>refine⟨_,_,rfl,p B S H U Z ρ _ _ _ s m a (WS.imp (WS.bind w) fun i T Z1 P q n l e j=> ?_)⟩;exact o B e P T Z1 i _ _ _ n j (TQ.Tz q b) l
def Gw:SV->Option (List SV)
 | .fz (.tuple ds)=>lD (ds.map .fz)
 | .tp l=>lD (l.map AV.sv)
 |_=>Ld
theorem Ma (h:Ud O K H U v x) (e:Gw x=lD xs):∃a vs,v= .ref a/\VZ O K H a vs/\TQ O K H U vs xs:=by
 unfold Gw at e;split at e
 .cases e
  cases h with
  |tup h f=>exact⟨_,_,rfl,h,jW _ _ f⟩
 .cases e;obtain⟨a,b,rfl,i,g⟩:=h;exact⟨a,b,rfl,i,vn g⟩
 .cases e
def N8 (n:Nat) (f:EJ):C4:=fun x ρ Z=>(RS.RO Z (Gw x)).bind fun xs Z1=>if xs.length=n then f xs ρ Z1 else .bad
theorem Ig (h:JA K E t f):MZ K E (Ni K n t) (N8 n f):=by
 intro B S H U Z ρ v x Q s e g w;obtain⟨xs,q,w⟩:=WS.RO w;obtain⟨a,vs,rfl,i,b⟩:=Ma g q;by_cases hn:xs.length=n
 .rw[if_pos hn] at w;exact⟨a,vs,rfl,i.1,b.length.trans hn,h B S H U Z ρ vs xs Q s e b w⟩
 .rw[if_neg hn] at w;exact w.elim
def cC:fx:=fun ρ Z=> .ok (.nx ρ) Z
def aK (f g:fx):fx:=fun ρ Z=>(f ρ Z).bind fun a Z1=>match a with
 | .nx ρ1=>g ρ1 Z1
 |a=> .ok a Z1
def bU (f:dU):fx:=fun ρ Z=>(f ρ Z).bind fun _ Z1=> .ok (.nx ρ) Z1
def cF (f:dU) (g:C4):fx:=fun ρ Z=>(f ρ Z).bind fun x Z1=>(g x ρ Z1).bind fun a X=> .ok (.nx a) X
def cB (c:vB) (f g:fx):fx:=fun ρ Z=>(c ρ Z).bind fun b Z1=>if b=QJ then f ρ Z1 else g ρ Z1
def iw (f:dU):fx:=fun ρ Z=>(f ρ Z).bind fun x Z1=> .ok (.rt x) Z1
def sQ:fx:=fun _ Z=> .ok (.rt (.fz .none)) Z
theorem iZ:l7 K E GM cC:=fun B S H U Z ρ D s a w=>WS.now s w S a
theorem C8:l7 K E KJ sQ:=fun B S H U Z ρ D s a w=>WS.now s w .TN .TN
theorem aL (m:l7 K E t f) (l:l7 K E u g):l7 K E (HU t u) (aK f g):=by
 intro B S H U Z ρ D s j w;refine m B S H U Z ρ {D with nx:=u D} s j (WS.imp (WS.bind w) fun n T Z1 P o e b=> ?_);cases n with
 |nx a=>exact fun h i=>l B h P T Z1 a D e i b
 |rt x=>exact WS.now (E:=E) e b
 |bk a=>exact WS.now (E:=E) e b
 |ct a=>exact WS.now (E:=E) e b
theorem jZ (h:cY K E t f):l7 K E (Bx t) (bU f):=by intro B S H U Z ρ D s a w;exact h B S H U Z ρ _ s a (WS.imp (WS.bind w) fun x T Z1 P g e b v i=>WS.now e b S (a.Tz g))
theorem dH (h:cY K E t f) (o:MZ K E g fg):l7 K E (EL t g) (cF f fg):=by intro B S H U Z ρ D s b w;refine h B S H U Z ρ _ s b (WS.imp (WS.bind w) fun x T Z1 P p m j v n=> ?_);exact o B S P T Z1 ρ v x _ m (b.Tz p) n (WS.imp (WS.bind j) fun e Y X N r l i a q=>WS.now l i a q)
theorem nJ (j:xm K E c fc) (m:l7 K E t f) (l:l7 K E u g):l7 K E (Mz c t u) (cB fc f g):=by
 intro B S H U Z ρ D s a w;refine j B S H U Z ρ _ s a (WS.imp (WS.bind w) fun b T Z1 P i h e=> ?_);cases b with
 |true=>exact m B S P T Z1 ρ D h (a.Tz i) e
 |false=>exact l B S P T Z1 ρ D h (a.Tz i) e
theorem gu (h:cY K E t f):l7 K E (Mr t) (iw f):=by intro B S H U Z ρ D s b w;exact h B S H U Z ρ _ s b (WS.imp (WS.bind w) fun x T Z1 P i e a v g=>WS.now e a v g)
def Dh (i:Nat) (f:D->D->Option RV) (fe:dU):fx:=fun ρ Z=>(aw i ρ Z).bind fun x Z1=>(fe ρ Z1).bind fun y X=>(qu f x y X).bind fun z a=> .ok (.nx (ρ.set i (lD z))) a
theorem Ha (n:k8 K r f) (p:cY K E te fe):l7 K E (OA i te r) (Dh i f fe):=by
 intro B S H U Z ρ D s a w;unfold Dh aw at w;cases q:ρ[i]? with
 |none=>rw[q] at w;exact w.elim
 |some o=>
  cases o with
  |none=>rw[q] at w;exact w.elim
  |some x=>rw[q] at w;obtain⟨v,C,A⟩:=a.2 i x q;refine⟨v,C,p B S H U Z ρ _ s a (WS.imp (WS.bind w) fun y T Z1 P b j g u l=> ?_)⟩;exact yB n j (A.Tz b) l (WS.imp (WS.bind g) fun z Y X N F h e t m=>WS.now h e _ ((a.Tz (b.trans F)).set m))
def e9 (f:Str) (x:SV):List (Str×SV)->List (Str×SV)
 |[]=>[(f,x)]
 |(g,y)::r=>if g=f then(g,x)::r else(g,y)::e9 f x r
theorem Gm (h:Ud O K H U v x):∀{ws:List (Str×V)} {fs:List (Str×SV)},Paired (fun(p:Str×V) (q:Str×SV)=>p.1=q.1/\Ud O K H U p.2 q.2) ws fs->Paired (fun(p:Str×V) (q:Str×SV)=>p.1=q.1/\Ud O K H U p.2 q.2) (iq f v ws) (e9 f x fs)
 |_,_,.nil=> .cons ⟨rfl,h⟩ .nil
 |(g,u)::ws,(g',y)::fs,.cons ⟨e,k⟩ t=>by
  cases e;unfold iq e9;by_cases z:g=f
  .rw[if_pos z,if_pos z];exact .cons ⟨rfl,h⟩ t
  .rw[if_neg z,if_neg z];exact .cons ⟨rfl,k⟩ (Gm h t)
def GC (Z:aV) (C:Str):SV->Option (Nat×List (Str×SV))
 | .rf i=>match Z[i]? with
  |some (.obj D fs)=>if D=C then lD (i,fs) else Ld
  |_=>Ld
 |_=>Ld
theorem NQ (s:Rz B K H U Z) (b:Ud (ow B U Z) K H U v x) (h:GC Z C x=lD (i,fs)):Z[i]? =lD (.obj C fs)/\∃a Ca dx ws,U[i]? =lD a/\v= .ref a/\Q9 K Q4 C=lD (lD (.ref Ca))/\H a=lD (.ins Ca dx ws)/\Paired (fun(p:Str×V) (q:Str×SV)=>p.1=q.1/\Ud (ow B U Z) K H U p.2 q.2) ws fs:=by
 cases x with
 |fz d=>cases h
 |tp l=>cases h
 |rf j=>
  obtain⟨a,ha,rfl⟩:=b;unfold GC at h;dsimp only at h;cases q:Z[j]? with
  |none=>rw[q] at h;cases h
  |some c=>
   rw[q] at h;cases c with
   |obj D n=>
    dsimp only at h;by_cases z:D=C
    .subst z;rw[if_pos rfl] at h;have e:=Ra h;cases e;obtain⟨Ca,dx,ws,m,g,f⟩:=s.X4 i a _ ha q;exact⟨q,a,Ca,dx,ws,ha,rfl,m,g,f⟩
    .rw[if_neg z] at h;cases h
   |_=>cases h
def fP (C f:Str) (fo fe:dU):fx:=fun ρ Z=>(fe ρ Z).bind fun x Z1=>(fo ρ Z1).bind fun o X=>(RS.RO X (GC X C o)).bind fun p a=>if p.2.length<100 then .ok (.nx ρ) (a.set p.1 (.obj C (e9 f x p.2))) else .bad
theorem kU (hc:gm K C L) (Q:f∈L) (J:cY K E to fo) (R:cY K E te fe):l7 K E (LG K to te f) (fP C f fo fe):=by
 intro B S H U Z ρ D s e w;refine R B S H U Z ρ _ s e (WS.imp (WS.bind w) fun x T Z1 P y F A v G=> ?_);refine J B S P T Z1 ρ _ F (e.Tz y) (WS.imp (WS.bind A) fun o Y X N t j b u I=> ?_);obtain⟨⟨i,fs⟩,q,b⟩:=WS.RO b;obtain⟨g,a,Ca,dx,ws,ha,rfl,m,h1,l⟩:=NQ j I q;obtain⟨Cb,n,g1,g2⟩:=hc;rw[m] at n;cases n;dsimp only at b;by_cases hn:fs.length<100
 .rw[if_pos hn] at b;have ev:Ev (ow B Y X) N (ow B Y X) (bC N a (.ins Ca dx (iq f v ws))):=qL ha g (by intro z;cases z);have p:S0 Y X N Y (X.set i (.obj C (e9 f x fs))) (bC N a (.ins Ca dx (iq f v ws))):=S0.put ha g (by intro z;cases z) (by intro z;cases z);have hl:=Paired.length l;refine⟨a,Ca,dx,ws,rfl,h1,g1,g2 f Q,by omega,?_⟩;refine b Y _ p (j.put ha g (by intro z;cases z) (by intro z;cases z) ⟨Ca,dx,_,m,aH,Gm ((G.Tz t).ev ev fun _ _ h=>h) (Paired.U3 l fun _ _ r=>⟨r.1,r.2.ev ev fun _ _ h=>h⟩)⟩) S ((e.Tz (y.trans t)).Tz p)
 .rw[if_neg hn] at b;exact b.elim
abbrev NO:=bp->aV->RS (List D)
def Pt (K:QF) (E:XK) (b:TI) (e:NO):Prop:=
 ∀(B:cb) (S:L2.St) (H:Hp) (U:List QN) (Z:aV) (ρ:bp) (a:It->Hp->Prop),Rz B K H U Z->T5 (ow B U Z) K H U S ρ->WS K E B H U Z (fun ds M Z' H'=>∀J,yE K J (ow B M Z') H' ds->a J H') (e ρ Z)->b S H a
def n6 (f:FI):NO:=fun ρ Z=>match f (cx ρ) with
 | .ok (ds,_)=> .ok ds Z
 | .er x=> .er x Z
 | .bad=> .bad
theorem pY (h:IO K E wi f):Pt K E wi (n6 f):=by
 intro B S H U Z ρ l s g w;refine h (ow B U Z) H (ow B U Z) S H (cx ρ) l (DT s g) ?_;unfold n6 at w;cases q:f (cx ρ) with
 |bad=>rw[q] at w;exact w.elim
 |er x=>rw[q] at w;exact fun c dx H' e k=>w c dx U H' (S0.same e) (s.grow e) k
 |ok r=>obtain⟨ds,a⟩:=r;rw[q] at w;exact fun O' J H' e R i=>w U H' (S0.same R.same) (s.grow R.same) J fun m N j n=>i m N (fun b o h z=>j b o h fun y=>z (R.bo b y)) n
def mw (fe:dU):NO:=fun ρ Z=>(fe ρ Z).bind fun x Z1=>(match frz 4 Z1 x with
 |some (d,X)=>RS.RO X (fE d)
 |none=> .bad)
theorem tM (h:cY K E tl fe):Pt K E (AF K tl) (mw fe):=by
 intro B S H U Z ρ n s g w;refine h B S H U Z ρ _ s g (WS.imp (WS.bind w) fun x T Z1 P m i a v j=> ?_);cases q:frz 4 Z1 x with
 |none=>rw[q] at a;exact a.elim
 |some p=>
  obtain⟨d,X⟩:=p;rw[q] at a;obtain⟨e,f,l⟩:=uC 4 i j q;dsimp only at a;cases qs:fE d with
  |none=>rw[qs] at a;exact a.elim
  |some ds=>
   rw[qs] at a;cases l with
   |tup h b=>cases qs;exact⟨_,rfl,.inr ⟨⟨_,h.1⟩,a T P f e _ (F7 h b)⟩⟩
   |lst h b=>cases qs;exact⟨_,rfl,.inl ⟨⟨_,h.1.sq⟩,a T P f e _ (zO h b)⟩⟩
   |_=>cases qs
def jQ (gt:C4) (b:fx):List D->fx
 |[],ρ,Z=> .ok (.nx ρ) Z
 |d::r,ρ,Z=>(gt (.fz d) ρ Z).bind fun a Z1=>(b a Z1).bind fun e X=>match e with
  | .nx ρ2=>jQ gt b r ρ2 X
  | .ct ρ2=>jQ gt b r ρ2 X
  | .bk ρ2=> .ok (.nx ρ2) X
  | .rt x=> .ok (.rt x) X
def xx (a:NO) (gt:C4) (b:fx):fx:=fun ρ Z=>(a ρ Z).bind fun ds Z1=>jQ gt b ds ρ Z1
theorem vE (hi:Pt K E wi fi) (hg:MZ K E g gt) (hb:l7 K E tb b):l7 K E (KY wi g tb) (xx fi gt b):=by
 intro B S H U Z ρ D s Q w;refine hi B S H U Z ρ _ s Q (WS.imp (WS.bind w) fun ds T Z1 P e1 s1 w1 J it=> ?_);refine⟨fun i m a H'=>m=ds.length - i/\i<=ds.length/\∃Y X ρ2,S0 T Z1 P Y X H'/\Rz B K H' Y X/\T5 (ow B Y X) K H' Y a ρ2/\WS K E B H' Y X (xF B K D) (jQ gt b (ds.drop i) ρ2 X),⟨_,rfl,Rp _,T,Z1,ρ,.refl,s1,Q.Tz e1,w1⟩,?_⟩;rintro i m j N ⟨rfl,hi,Y,X,ρ2,e2,s2,ZQ,w2⟩;obtain⟨go,n⟩:=it (ow B Y X) N e2.ev s2.YT;by_cases t:i<ds.length
 .obtain⟨g1,g2⟩:=go i t
  refine .inr ⟨g1,fun a H'=>i+1<=ds.length/\∃Y X ρ2,S0 T Z1 P Y X H'/\Rz B K H' Y X/\T5 (ow B Y X) K H' Y a ρ2/\WS K E B H' Y X (xF B K D) (jQ gt b (ds.drop (i+1)) ρ2 X),fun a H' ⟨h1,h2⟩=>⟨ds.length - (i+1),by omega,rfl,h1,h2⟩,fun x L y=> ?_⟩;obtain⟨R,d,hd,dv⟩:=g2 x L y;have ed:ds.drop i=d::ds.drop (i+1):=by obtain⟨_,q⟩:=QM.mp hd;rw[TV t,q]
  rw[ed] at w2;have I:S0 Y X N Y X L:=S0.same R;refine hg B j L Y X ρ2 x (.fz d) _ (s2.grow R) (ZQ.Tz I) dv (WS.imp (WS.bind (WS.from I w2)) fun C F Z4 H4 e4 s4 w3 A G=> ?_);refine hb B A H4 F Z4 C _ s4 G (WS.imp (WS.bind w3) fun fl l Z5 H5 e5 r p=> ?_);have o:=e2.trans (I.trans (e4.trans e5));cases fl with
  |nx f=>exact fun u h=>⟨t,l,Z5,f,o,r,h,p⟩
  |ct f=>exact fun u h=>⟨t,l,Z5,f,o,r,h,p⟩
  |bk f=>exact WS.now (E:=E) r p
  |rt x=>exact WS.now (E:=E) r p
 .have e:i=ds.length:=by omega
  subst e;rw[SU (QU _)] at w2;exact .inl ⟨n,WS.now s2 w2 j ZQ⟩
def rZ (c:vB) (b:fx):Nat->fx
 |0,_,_=> .bad
 |n+1,ρ,Z=>(c ρ Z).bind fun k Z1=>if k=QJ then(b ρ Z1).bind fun a X=>match a with
  | .nx ρ2=>rZ c b n ρ2 X
  | .ct ρ2=>rZ c b n ρ2 X
  | .bk ρ2=> .ok (.nx ρ2) X
  | .rt x=> .ok (.rt x) X else .ok (.nx ρ) Z1
def uz (c:vB) (b:fx):fx:=rZ c b 1000000
theorem sU (I:xm K E c fc) (J:l7 K E tb b):l7 K E (Eh c tb) (uz fc b):=by
 intro B S H U Z ρ D s F w;refine⟨fun m e H'=>∃Y X a,S0 U Z H Y X H'/\Rz B K H' Y X/\T5 (ow B Y X) K H' Y e a/\WS K E B H' Y X (xF B K D) (rZ fc b m a X),⟨_,U,Z,ρ,.refl,s,F,w⟩,?_⟩;rintro m g N ⟨Y,X,a,R,G,u,y⟩;cases m with
 |zero=>exact y.elim
 |succ m=>
  refine I B g N Y X a _ G u (WS.imp (WS.bind y) fun k r Z3 H3 t A n=> ?_);cases k with
  |true=>
   rw[if_pos rfl] at n⊢;refine⟨fun e H'=>∃Y X a,S0 U Z H Y X H'/\Rz B K H' Y X/\T5 (ow B Y X) K H' Y e a/\WS K E B H' Y X (xF B K D) (rZ fc b m a X),fun e H' q=>⟨m,Uz m,q⟩,?_⟩;refine J B g H3 r Z3 a _ A (u.Tz t) (WS.imp (WS.bind n) fun L i C H5 Q o l=> ?_);have j:=R.trans (t.trans Q);cases L with
   |nx f=>exact fun p h=>⟨i,C,f,j,o,h,l⟩
   |ct f=>exact fun p h=>⟨i,C,f,j,o,h,l⟩
   |bk f=>exact WS.now (E:=E) o l
   |rt x=>exact WS.now (E:=E) o l
  |false=>rw[if_neg Q8] at n⊢;exact WS.now A n g (u.Tz t)
end
section
variable {B O O':cb} {K:QF} {E:XK} {H H' S L:Hp} {U R X Y:List QN} {Z Z' Z1 T:aV} {M:L2.St} {ρ:bp} {v:V}
def eE (gt:C4) (ft:vB) (fe:dU):List D->bp->aV->List SV->RS (List SV)
 |[],_,Z,acc=> .ok acc Z
 |d::r,ρ,Z,acc=>(gt (.fz d) ρ Z).bind fun a Z1=>(ft a Z1).bind fun b T=>if b=QJ then(fe a T).bind fun x e=>(if acc.length<1000000 then eE gt ft fe r a e (acc++[x]) else .bad) else eE gt ft fe r a T acc
def oi (n:Nat) (a:List Nat) (ρ:bp):bp:=QT n Ld++a.map fun j=>(ρ[j]?).join
def qB (n:Nat) (a:List Nat) (b:NO) (gt:C4) (ft:vB) (fe:dU):dU:=fun ρ Z=>(b ρ Z).bind fun ds Z1=>(lg (eE gt ft fe ds (oi n a ρ) Z1 [])).bind fun xs T=> .ok (.rf T.length) (T++[.lst xs])
theorem GW {own:List Str} {b:List (Str×Nat)} {n:Nat} {g:List Nat} (hn:own.length=n) (i:b.map (·.2)=g) (l:T5 O K H U M ρ):T5 O K H U (ir own b M) (oi n g ρ):=by
 unfold ir oi;rw[BK hn];have m:b.length=g.length:=by rw[<-i,QI]
 refine⟨by rw[QO,QO,Rt,Rt,QI,QI,m],fun j x a=> ?_⟩;by_cases h:j<n
 .rw[Q1 (by rw[Rt];exact h),Ti,if_pos h] at a;cases a
 .rw[Ro (by rw[Rt];omega),Rt,QW] at a⊢
  subst i;rw[QW] at a;cases q:b[j - n]? with
  |none=>rw[q] at a;cases a
  |some p=>
   rw[q] at a;have e:(ρ[p.2]?).join=lD x:=Ra a;have f:ρ[p.2]? =lD (lD x):=by
    cases qq:ρ[p.2]? with
    |none=>rw[qq] at e;cases e
    |some o=>rw[qq] at e;exact congrArg lD e
   obtain⟨u,t,r⟩:=l.2 p.2 x f;exact⟨u,by show lD ((M[p.2]?).join)=_;rw[t];rfl,r⟩
theorem EN {p:QN} {c:Cell} (a:U.length=Z.length) (e:c≠ .dead):ow (cN B p) U Z=ow B (U++[p]) (Z++[c]):=by
 funext b;refine propext ⟨fun z=> ?_,fun z=> ?_⟩
 .rcases z with(z|z)|⟨i,d,h1,h2,h3⟩
  .exact .inl z
  .exact .inr ⟨U.length,c,by rw[z];exact aX,by rw[a];exact aX,e⟩
  .exact .inr ⟨i,d,gS h1,gS h2,h3⟩
 .rcases z with z|z
  .exact .inl (.inl z)
  .rcases vK a z with z|z
   .exact .inr z
   .exact .inl (.inr z)
theorem Rz.adopt {p:QN} {vs:List V} {xs:List SV} (s:Rz (cN B p) K H U Z) (l:H p=lD (.lst vs)) (m:TQ (ow (cN B p) U Z) K H U vs xs) (n:¬B p):Rz B K H (U++[p]) (Z++[.lst xs]):=by
 have t:ow (cN B p) U Z=ow B (U++[p]) (Z++[.lst xs]):=EN s.len (by intro z;cases z);have b:∀(i:Nat) (a:QN),U[i]? =lD a->(U++[p])[i]? =lD a:=fun i a h=>gS h;have g:∀i:Nat,U[i]?≠lD p:=s.ba p (.inr rfl);refine⟨by rw[QO,QO,s.len];rfl,fun i j a e f=> ?_,fun a h=>s.bn a (.inl h),fun a h i q=> ?_,fun i a h=> ?_,fun i a d e f=> ?_⟩
 .rcases ck e with g1|⟨e1,e2⟩<;>rcases ck f with g2|⟨e3,e4⟩
  .exact s.nd i j a g1 g2
  .rw[e4] at g1;exact absurd g1 (g i)
  .rw[e2] at g2;exact absurd g2 (g j)
  .omega
 .rcases ck q with q|⟨_,e2⟩
  .exact s.ba a (.inl h) i q
  .subst e2;exact n h
 .rcases ck h with h|⟨_,e2⟩
  .exact s.al i a h
  .rw[e2,l];simp
 .rw[<-t]
  rcases ck f with g2|⟨e1,e2⟩
  .rcases ck e with g1|⟨e1,_⟩
   .exact(s.X4 i a d g1 g2).ev .refl b fun o q=>q
   .have:=(QM.mp g2).1;have:=s.len;omega
  .rcases ck e with g1|⟨_,e3⟩
   .have:=(QM.mp g1).1;have:=s.len;omega
   .rw[e2,e3];exact⟨vs,l,Paired.U3 m fun _ _ r=>r.ev .refl b⟩
theorem Rz.hide {p:QN} {o:HO} (s:Rz B K H U Z) (j:H p=Ld):Rz (cN B p) K (bC H p o) U Z:=by have f:SJ H (bC H p o):=ce j o;have g:=s.grow f;have ev:Ev (ow B U Z) H (ow (cN B p) U Z) (bC H p o):=fun b u h n=>⟨f b u h,fun z=>z.elim (fun z=>z.elim (fun z=>n (.inl z)) fun z=>by rw[z,j] at h;cases h) fun z=>n (.inr z)⟩;refine⟨g.len,g.nd,fun a h=>h.elim (g.bn a) fun e=>by rw[e,aH];simp,fun a h i q=>h.elim (fun h=>g.ba a h i q) fun e=>by rw[e] at q;exact s.al i p q j,g.al,fun i a c m l=> ?_⟩;exact(s.X4 i a c m l).ev ev (fun _ _ h=>h) fun o q=>f _ _ q
theorem Rz.afZ {p:QN} {o e:HO} (s:Rz (cN B p) K H U Z) (j:H p=lD o):Rz (cN B p) K (bC H p e) U Z:=by
 have ev:Ev (ow (cN B p) U Z) H (ow (cN B p) U Z) (bC H p e):=Ev.mut (.inl (.inr rfl)) e;have n:∀b,H b≠Ld->bC H p e b≠Ld:=fun b h=>by
  by_cases z:b=p
  .subst z;rw[aH];simp
  .rw[az z];exact h
 refine⟨s.len,s.nd,fun a h=>n a (s.bn a h),s.ba,fun i a h=>n a (s.al i a h),fun i a c f g=>(s.X4 i a c f g).ev ev (fun _ _ h=>h) fun u q=> ?_⟩;have:a≠p:=fun z=>s.ba p (.inr rfl) i (by rw[<-z];exact f);rw[az this];exact q
theorem S0.dd {p:QN} {o:HO} (e:S0 X Z1 S U Z H) (a:S p=Ld):S0 X Z1 S U Z (bC H p o):=⟨e.pre,fun b u h n=>by rw[az (bW h a)];exact e.kp b u h n,e.lv⟩
theorem Rz.acv {p:QN} (s:Rz (cN B p) K H U Z):Rz B K H U Z:=
 ⟨s.len,s.nd,fun a h=>s.bn a (.inl h),fun a h=>s.ba a (.inl h),s.al,fun i a c f e=>(s.X4 i a c f e).ev (fun b o h n=>⟨h,fun y=>n (y.elim (fun y=> .inl (.inl y)) .inr)⟩) (fun _ _ h=>h) fun _ h=>h⟩
theorem yY {own:List Str} {fv:List (Str×Nat)} {g:TG} {tc:TT} {te:TE} {gt:C4} {ft:vB} {fe:dU} {n:Nat} {fj:List Nat} {J:It} {Q:VK} {ds:List D} (hn:own.length=n) (hf:fv.map (·.2)=fj)
  (hg:MZ K E g gt) (ht:xm K E tc ft) (he:cY K E te fe) (s1:Rz B K S X Z1) (sl1:T5 (ow B X Z1) K S X M ρ) (it:yE K J (ow B X Z1) S ds) (w1:WS K E B S X Z1 (PQ B K Q) ((eE gt ft fe ds (oi n fj ρ) Z1 []).bind fun xs T=> .ok (.rf T.length) (T++[.lst xs]))):
  ∀D,S D=Ld->Fx J D (ir own fv M) g tc te S fun H'=>Q (.ref D) H':=by
 intro p P;have slc:T5 (ow B X Z1) K S X (ir own fv M) (oi n fj ρ):=GW hn hf sl1;generalize qr:eE gt ft fe ds (oi n fj ρ) Z1 []=rr at w1;by_cases w:rr= .bad
 .subst w;exact w1.elim
 .
  have hB:¬B p:=fun z=>s1.bn p z P;have evH:∀{Y:List QN} {T:aV} {H':Hp},S0 X Z1 S Y T H'->Ev (ow B X Z1) S (ow (cN B p) Y T) H':=fun e b o h n=>⟨e.kp b o h fun z=>n (.inr z),fun z=>by
   rcases z with(z|z)|z
   .exact n (.inl z)
   .rw[z,P] at h;cases h
   .exact(e.lv b z).elim (fun q=>n (.inr q)) fun q=>by rw[h] at q;cases q⟩
  refine⟨fun i m σ' H'=>m=ds.length - i/\i<=ds.length/\∃Y T ρc acc ys,S0 X Z1 S Y T H'/\Rz (cN B p) K H' Y T/\T5 (ow (cN B p) Y T) K H' Y σ' ρc/\H' p=lD (.lst ys)/\TQ (ow (cN B p) Y T) K H' Y ys acc/\eE gt ft fe (ds.drop i) ρc T acc=rr,
   ⟨_,rfl,Rp _,X,Z1,oi n fj ρ,[],[],S0.same (ce P _),s1.hide P,?_,aH,.nil,qr⟩,?_⟩
  .exact⟨slc.1,fun j x hx=>let⟨v,h1,h2⟩:=slc.2 j x hx;⟨v,h1,h2.ev (evH (S0.same (ce P _))) fun _ _ h=>h⟩⟩
  .rintro i m σ2 L ⟨rfl,hi,Y,T,ρ2,acc,ys,e2,s2,ZQ,hy,vy,f⟩
   obtain⟨go,stop⟩:=it (ow (cN B p) Y T) L (evH e2) s2.YT;by_cases U8:i<ds.length
   .obtain⟨g1,g2⟩:=go i U8
    refine .inr ⟨g1,fun σ5 C=>i+1<=ds.length/\∃Y T ρc acc ys,S0 X Z1 S Y T C/\Rz (cN B p) K C Y T/\T5 (ow (cN B p) Y T) K C Y σ5 ρc/\C p=lD (.lst ys)/\TQ (ow (cN B p) Y T) K C Y ys acc/\eE gt ft fe (ds.drop (i+1)) ρc T acc=rr,
     fun σ5 C ⟨h1,h2⟩=>⟨ds.length - (i+1),by omega,rfl,h1,h2⟩,fun x H3 y=> ?_⟩
    obtain⟨s3,d,hd,dv⟩:=g2 x H3 y;have ed:ds.drop i=d::ds.drop (i+1):=by obtain⟨_,q⟩:=QM.mp hd;rw[TV U8,q]
    rw[ed] at f;unfold eE at f;have e3:S0 Y T L Y T H3:=S0.same s3;have kD:∀{αx αy:List QN} {Zx Zy:aV} {Hx Hy:Hp} {o:HO},Rz (cN B p) K Hx αx Zx->S0 αx Zx Hx αy Zy Hy->Hx p=lD o->Hy p=lD o:=fun sx ex h=>ex.kp _ _ h fun⟨i,c,q,_⟩=>sx.ba p (.inr rfl) i q;have t:∀{G:List QN} {Z3:aV} {H3:Hp} {z:Xc} {A:aV},S0 X Z1 S G Z3 H3->RS.er z A=rr->∀c dx R H',S0 G Z3 H3 R A H'->Rz (cN B p) K H' R A->XOk K (ow (cN B p) R A) H' c dx z->E c dx H':=fun{G Z3 H3 z A} e3 q c dx R H' e s' x'=>by subst q;exact w1 c dx R H' (e3.trans e) s'.acv (XOk.sub (fun b y=>y.elim (fun y=> .inl (.inl y)) .inr) x')
    refine hg (cN B p) σ2 H3 Y T ρ2 x (.fz d) _ (s2.grow s3) (ZQ.Tz e3) dv ?_;cases qg:gt (.fz d) ρ2 T with
    |er z A=>rw[qg] at f;exact t (e2.trans e3) f
    |bad=>rw[qg] at f;exact w f.symm
    |ok l Z4=>
     rw[qg] at f;intro α4 H4 e4 s4 σ4 sl4;refine ht (cN B p) σ4 H4 α4 Z4 l _ s4 sl4 ?_;have f:((ft l Z4).bind fun b T=>if b=QJ then(fe l T).bind fun x Z3=>(if acc.length<1000000 then eE gt ft fe (ds.drop (i+1)) l Z3 (acc++[x]) else .bad) else eE gt ft fe (ds.drop (i+1)) l T acc)=rr:=f;cases qt:ft l Z4 with
     |er z A=>rw[qt] at f;exact t (e2.trans (e3.trans e4)) f
     |bad=>rw[qt] at f;exact w f.symm
     |ok b Z5=>
      rw[qt] at f;intro α5 C e5 s5;have I:=sl4.Tz e5;have u:=e3.trans (e4.trans e5);cases b with
      |false=>have f:eE gt ft fe (ds.drop (i+1)) l Z5 acc=rr:=f;exact⟨U8,α5,Z5,l,acc,ys,e2.trans u,s5,I,kD s2 u hy,TQ.Tz u vy,f⟩
      |true=>
       have f:((fe l Z5).bind fun x Z3=>(if acc.length<1000000 then eE gt ft fe (ds.drop (i+1)) l Z3 (acc++[x]) else .bad))=rr:=f;rw[if_pos rfl];refine he (cN B p) σ4 C α5 Z5 l _ s5 I ?_;cases qe:fe l Z5 with
       |er z A=>rw[qe] at f;exact t (e2.trans u) f
       |bad=>rw[qe] at f;exact w f.symm
       |ok x6 Z6=>
        rw[qe] at f;intro F H6 e6 s6 v6 hv6;have f:(if acc.length<1000000 then eE gt ft fe (ds.drop (i+1)) l Z6 (acc++[x6]) else .bad)=rr:=f;by_cases N:acc.length<1000000
        .rw[if_pos N] at f;have e36:=u.trans e6;have hy6:H6 p=lD (.lst ys):=kD s2 e36 hy;have vy6:=TQ.Tz e36 vy;have em:Ev (ow (cN B p) F Z6) H6 (ow (cN B p) F Z6) (bC H6 p (.lst (ys++[v6]))):=Ev.mut (.inl (.inr rfl)) _;have sl6:=I.Tz e6;refine⟨ys,hy6,sV (by rw[vy6.length];exact N),U8,F,Z6,l,acc++[x6],ys++[v6],(e2.trans e36).dd P,s6.afZ hy6,⟨sl6.1,fun j x hx=>let⟨v,h1,h2⟩:=sl6.2 j x hx;⟨v,h1,h2.ev em fun _ _ h=>h⟩⟩,aH,uD (Paired.U3 vy6 fun _ _ r=>r.ev em fun _ _ h=>h) (hv6.ev em fun _ _ h=>h),f⟩
        .rw[if_neg N] at f;exact absurd f.symm w
   .have e:i=ds.length:=by omega
    subst e;rw[SU (QU _)] at f;have f:RS.ok acc T=rr:=f;subst f;refine .inl ⟨stop,?_⟩;refine w1 (Y++[p]) L ⟨fun i a h=>gS (e2.pre i a h),e2.kp,fun b z=>(vK s2.len z).elim (e2.lv b) fun z=> .inr (by rw[z];exact P)⟩ (s2.adopt hy vy hB) (.ref p) ⟨p,by rw[<-s2.len];exact aX,rfl⟩
theorem LJ {A C:Type} {P:C->List QN->aV->Hp->Prop} {r:RS A} {k:A->aV->C} {m:A->aV->aV} (w:WS K E B H U Z P ((lg r).bind fun a o=> .ok (k a o) (m a o))):WS K E0 B H U Z P (r.bind fun a o=> .ok (k a o) (m a o)):=by
 cases r with
 |ok a o=>exact w
 |er x o=>exact w.elim
 |bad=>exact w
theorem vW {own:List Str} {h:List (Str×Nat)} {a:TI} {g:TG} {e:TT} {b:TE} {j:NO} {gt:C4} {ft:vB} {fe:dU} {n:Nat} {i:List Nat} (hn:own.length=n) (r:h.map (·.2)=i)
  (hi:Pt K E a j) (q:MZ K E0 g gt) (p:xm K E0 e ft) (t:cY K E0 b fe):cY K E (wN own h a g e b) (qB n i j gt ft fe):=by
 intro B M H U Z ρ Q s f w;refine hi B M H U Z ρ _ s f (WS.imp (WS.bind w) fun ds X Z1 S u m l J o=> ?_);exact yY hn r q p t m (f.Tz u) o (LJ l)
def cW (N:Nat) (g:fx):iK:=fun xs Z=>(g (xs.map lD++QT (N - xs.length) Ld) Z).bind fun a Z1=>match a with
 | .rt x=> .ok x Z1
 | .nx _=> .ok (.fz .none) Z1
 |_=> .bad
theorem El {N:List Str} {vs:List V} {xs:List SV} (h:TQ O K H U vs xs):T5 O K H U (L2.start N vs) (xs.map lD++QT (N.length - xs.length) Ld):=by
 have b:vs.length=xs.length:=Paired.length h;unfold L2.start;refine⟨by rw[QO,QO,QI,QI,Rt,Rt,b],fun i x a=> ?_⟩;by_cases hi:i<xs.length
 .rw[Q1 (by rw[QI];exact hi),QW] at a
  cases q:xs[i]? with
  |none=>rw[q] at a;cases a
  |some d=>rw[q] at a;cases a;obtain⟨v,e,f⟩:=yh h q;refine⟨v,?_,f⟩;rw[Q1 (by rw[QI,b];exact hi),QW,e];rfl
 .rw[Ro (by rw[QI];omega),Ti] at a;split at a<;>cases a
theorem yz {N:List Str} {vs:List V} {xs:List SV} {g:fx} {t:TS} {Q:VK} {n:Nat} (f:l7 K E t g) (h:dY K n (cW N.length g) vs H Q E):t {nx:=fun _ H'=>Q .TN H',rt:=Q} (L2.start N vs) H:=by
 obtain⟨l,B,U,Z,xs,s,e,w⟩:=h;refine f B _ H U Z _ _ s (El e) (WS.imp (WS.bind w) fun i X Z1 S m b a=> ?_);cases i with
 |rt x=>exact WS.now (E:=E) b a
 |nx ρ=>exact fun M j=>WS.now (E:=E) b a .TN .TN
 |bk ρ=>exact a.elim
 |ct ρ=>exact a.elim
end
theorem Qu {P:Rf} {w:RB} {K:QF} {mg:Str->Option QH} {base:Heap} {x a:Str} {st:Th} {f:QN} {fd:RZ} {N ps:List Str} {k n m:Nat} {g:fx} {e:iK} (F:T9 K x a st f fd) (S:TK N ps (ay st)) (hn:ps.length=n) (hm:N.length=m) (o:e=cW m g)
  (p:∀(b:QH) (A:Rv) (outer:List Env) (s:QP) (H:Hp) (E:XK),Td k (A.deeper (Ri a (ay st) s.heap.objs.size f b))->
   ∃t,Xa (fT dm P w K mg base N a (ay st) f b A outer s H E).nox (cj st) t/\l7 K E t g):FnOk P w K mg base dm (k+1) f fd ps (dY K n e):=by
 subst o hm;refine F.ok S (fun vs H Q E h=>h.1.trans hn.symm) (fun b A outer s H vs Q E l h=> ?_);obtain⟨t,i,j⟩:=p b A outer s H E l;exact⟨t,i,yz (xs:=[]) j h⟩
theorem PD {P:Rf} {w:RB} {K:QF} {mg:Str->Option QH} {base:Heap} {x a:Str} {st:Th} {f:QN} {fd:RZ} {N ps:List Str} {k n m:Nat} {g:fx} {i:iK} (F:T9 K x a st f fd) (S:TK N ps (ay st)) (hn:ps.length=n) (hm:N.length=m) (q:i=cW m g)
  (v:∀(b:QH) (A:Rv) (outer:List Env) (s:QP) (H:Hp) (E:XK),Td k (A.deeper (Ri a (ay st) s.heap.objs.size f b))->
   ∃t,Xa (fT (L4.lw P w) P w K mg base N a (ay st) f b A outer s H E) (cj st) t/\l7 K E t g):FnOk P w K mg base (L4.lw P w) (k+1) f fd ps (dY K n i):=by
 subst q hm;obtain⟨C,B,kV,r,y,G,b,ct,I,rfl,j,u⟩:=F.ex;refine DC j u S (fun vs H Q E h=>h.1.trans hn.symm) fun A outer s H vs Q E p e=> ?_;obtain⟨t,l,o⟩:=v b A outer s H E p;exact⟨t,l,yz (xs:=[]) o e⟩
abbrev Mm (P:Rf) (w:RB) (K:QF) (mg:Str->Option QH) (base:Heap) (k:Nat) (x:Str) (ps:List Str) (n:Nat) (F:iK):Prop:=wV P w K mg base k x ps (dY K n F)
end L10
namespace PySem.W
open PySem PySem.Calls PyProof.Rows PyProof.V PySem.Spec
section
variable {prog:Rf} {w:RB} {A:Rv} {E:QH->QP->Prop} {s:QP} {T:String} {r d:QN} {n:Nat} {P:Nat->QH->Prop} {OK:Heap->Prop}
theorem collect_kdl (K:KdlSrc prog w T r d n P OK) (i:A.handled=Ld) (Sh:OK s.heap) (hn:n<=QX)
  (l:∀h' tk acc,(∀b o,s.heap.get? b=lD o->h'.get? b=lD o)->V5 P acc n->Q acc.toList {s with heap:=h',toks:=tk}):wpAny (model prog w) A (collect (.ref r)) Q E s:=by
 have f:=K.there _ Sh;unfold collect;refine QG (wpAny_runValue (Ue F.entry_proto_collect ?_));rw[Rv.under_plainId F.plain_proto_collect _];refine QG (Sf ?_);refine QR ⟨TL F.plain_list_iadd _,Ue F.entry_list_iadd ?_⟩;rw[Rv.under_plainId F.plain_list_iadd _];have j:(s.heap.push {cls:= .type "list",data:= .seq ([]:List QH).toArray}).get? s.heap.objs.size=lD {cls:= .type "list",data:= .seq ([]:List QH).toArray}:=Heap.get?_push_size _ rfl;refine kdl_extend (R:=wants (fun v g=>wpAny (model prog w) A (match v with| .ref a=>(load a>>=fun o=>match o.data with| .seq xs _=>pure xs.toList|_=>unsupported "internal:collect")|_=>unsupported "internal:collect") Q E g) E) (s:={s with heap:=s.heap.push {cls:= .type "list",data:= .seq ([]:List QH).toArray}}) K i (K.keep _ _ Sh fun b _ o e=>Heap.get?_push_of_some _ e) _ (Sa f.1) (Sa f.2) _ 0 j (fun h' tk q t h p m=> ?_) hn;refine QG (abY p ?_);exact QR (l h' tk q (fun b o e=>h b o (Rg (Heap.lt_size e)) (Heap.get?_push_of_some _ e)) m)
end
end PySem.W
namespace PyProof.Rows
open PySem
section
variable {prog:Rf} {w:RB} {A:Rv} {E:QH->QP->Prop} {s:QP} {T:String} {r d:QN} {n:Nat} {P:Nat->QH->Prop} {OK:Heap->Prop}
theorem yO (K:PySem.W.KdlSrc prog w T r d n P OK) (p:A.handled=Ld) (Sh:OK s.heap) (l:n<64) (t:∀acc:Array QH,V5 P acc n->IntsAre acc.toList ns)
  (h:∀(a h':Heap) (g:Nat) (out:Array QH) (e:Nat) (f:List Int),(∀b o,s.heap.get? b=lD o->a.get? b=lD o)->h'.get? a.objs.size=lD (seqObj "list" out e)->(∀b o,a.get? b=lD o->h'.get? b=lD o)->IntsAre out.toList f->f.Perm ns->f.Pairwise (·<=·)->Q (.ref a.objs.size) {s with heap:=h',toks:=g}):
  wpAny (model prog w) A (call (.builtin "sorted") [.ref r]) Q E s:=by
 refine Calls.call_function_entry kind_sorted plain_sorted entry_sorted (args_sorted1 _) (QG (QR (QG (PySem.W.collect_kdl K p Sh (by rw[Tt];omega) (fun a g acc m hi=>QG (ahD ?_ (hsz:=by rw[RN,hi.1,Tt];omega)))))));have i:(a.push (seqObj "list" acc.toList.toArray 0)).get? a.objs.size=lD (seqObj "list" acc.toList.toArray 0):=Heap.get?_push_size _ rfl;have j:=t acc hi;refine QG (Sx (S5 slot_list_sort ⟨_,i,rfl⟩ entry_list_sort (list_sort_tree i j (by rw[RN,hi.1];exact l) fun out f y v u=>⟨_,rfl,QR ⟨_,rfl,?_⟩⟩) (args_list_sort _)));obtain⟨e,q⟩:=rF i;exact h a _ g out e f m q (fun b B z=>om (Rg (Heap.lt_size z)) (Heap.get?_push_of_some _ z)) y v u
end
end PyProof.Rows
namespace L10
open PySem PySem.Spec PyProof.Rows L2 L3
def Pw (p d:QN):HO:= .ext fun h=>h.IsValuesView p d
theorem NU (x:h.IsValuesView p d):ObjOk P w H h p (Pw p d):=⟨x,let⟨o,a,_⟩:=x;⟨o,a⟩,fun f e ⟨o,a,b⟩ k=>⟨o,k o a,b⟩⟩
def Kb:V->List V->Hp->VK->Prop:=fun x vs H Q=>∃a Rj,x= .ref a/\vs=[]/\H a=lD (.dK Rj)/\∀p,H p=Ld->Q (.ref p) (bC H p (Pw p a))
theorem sj:Pm X "dict.values" Kb:=by intro g s m H x xs v n Q I i f h;obtain⟨a,Rj,rfl,rfl,e,q⟩:=h;cases i;cases f;obtain⟨z,l,vs,j,dd⟩:=vY I.Sh e;refine call_meetsIn UZ dd.typeIs PySem.F.entry_dict_values (PySem.F.args_dict_values_1 _) (meets_dict_values (cK X.prog X.w) a l) ⟨⟨vs,dd⟩,?_⟩;refine⟨.ref s.heap.objs.size,_,I.laid (fun b o e=>Heap.get?_push_of_some _ e) (QU _) (NU ⟨_,Heap.get?_push_size _ rfl,rfl,rfl⟩),rfl,q _ (I.Sh.fresh (QU _))⟩
def Di:List V->Hp->VK->Prop:=fun xs H Q=>∃p a Rj,xs=[.ref p]/\H p=lD (Pw p a)/\H a=lD (.dK Rj)/\∀l,H l=Ld->Q (.ref l) (bC H l (.lst (Rj.map (·.2))))
theorem zQ:∀{Rj:List (κ×V)} {vs:List (κ×QH)},KV Rj vs->Vals (Rj.map (·.2)) (vs.map (·.2))
 |_,_,.nil=> .nil
 |_,_,.cons h t=> .cons h.2 (zQ t)
theorem rK (n:X.calm=QJ):Ub X (.type "list") Di:=by intro g s C H xs E Q I r h;obtain⟨p,a,Rj,rfl,w,e,q⟩:=h;obtain⟨u,rfl,l⟩:=jM r;cases l;obtain⟨z,G,vs,b,dd⟩:=vY I.Sh e;obtain⟨K,B⟩:=dd.dictAt;obtain⟨i,_,_⟩:=I.Sh p _ w;refine PySem.W.kdl_call (PySem.W.kdl_values) (I.ok.hd n) ⟨i,B⟩ (by rw[<-b.length];exact z) fun J F f c m t hi=> ?_;have A:=PySem.W.kdl_vals_eq f.toList (by rw[RN];exact hi.1) fun j v y=>hi.2 j v (by rw[<-Up];exact y);refine⟨.ref s.heap.objs.size,_,I.laid (o:= .lst (Rj.map (·.2))) m (QU _) ⟨by rw[QI];exact z,f.toList,c,by rw[A];exact zQ b,by rw[Y0];exact t⟩,rfl,q _ (I.Sh.fresh (QU _))⟩
def Gn:List V->Hp->VK->Prop:=fun xs H Q=>∃(p:QN) (Rj:List (cE×V)) (a:List Int),xs=[.ref p]/\H p=lD (.dK Rj)/\Rj.map (·.1)=a.map Sum.inl/\a.length<64/\∀(l:QN) (b:List Int),H l=Ld->b.Perm a->b.Pairwise (·<=·)->Q (.ref l) (bC H l (.lst (b.map V.int)))
theorem pJ:∀{vs:List (cE×QH)} {a:List Int} {us:List QH},vs.map (·.1)=a.map Sum.inl->us.length=vs.length->(∀(j:Nat) (u:QH),us[j]? =lD u->∃k x,vs[j]? =lD (k,x)/\(cK prog w).is k u=QJ)->IntsAre us a
 |[],[],[],_,_,_=> .nil
 |[],[],_::_,_,h,_=>by simp at h
 |[],_::_,_,h,_,_=>by simp at h
 |_::_,[],_,h,_,_=>by simp at h
 |_::_,_::_,[],_,h,_=>by simp at h
 |(k,y)::vs,n::a,u::us,h1,h2,h3=>by rw[Q3,Q3,aiU] at h1;obtain⟨i,x,e,f⟩:=h3 0 u rfl;cases e;have g:=h1.1;subst g;obtain⟨t,rfl⟩:=QH.isInt_shape (show QH.isInt n u=QJ from f);exact .cons _ _ (pJ h1.2 (by simpa using h2) fun j b e=>h3 (j+1) b (by simpa using e))
theorem qA (C:X.calm=QJ):Ub X (.builtin "sorted") Gn:=by
 intro g s O H xs P Q I r h;obtain⟨p,Rj,i,rfl,e,G,E,q⟩:=h;obtain⟨u,rfl,o⟩:=jM r;cases o;obtain⟨z,B,vs,b,dd⟩:=vY I.Sh e;obtain⟨U,L⟩:=dd.dictAt;have l:vs.map (·.1)=i.map Sum.inl:=by rw[<-b.keys];exact G
 have S:vs.length=i.length:=by have:=congrArg U9 l;simpa using this
 refine yO (PySem.W.kdl_dict B) (I.ok.hd C) L (by omega) (fun M hi=>pJ l (by rw[RN];exact hi.1) fun j v J=>hi.2 j v (by rw[<-Up];exact J)) fun F T R f K t y A N hi m w=> ?_;have a:=m.length_eq;have n:=I.kept (t':=s.toks) y;refine⟨.ref F.objs.size,_,n.laid N (QU _) ?_,rfl,q _ t (n.Sh.fresh (QU _)) m w⟩;refine⟨?_,f.toList,K,iO hi,A⟩;rw[QI,a];have:(64:Nat)<=QX:=by decide
 omega
end L10
namespace PySem
open Sem (wp)
namespace F
theorem lk_tuple_keys:typeLookup (.type "tuple") "keys"=pure Ld:=by rw[Wv,UH];kernel_rfl
theorem lk_tuple_hook:typeLookup (.type "tuple") "__getattr__"=pure Ld:=by rw[Wv,UH];kernel_rfl
theorem sub_ae:isSubtype (.type "AttributeError") (.type "AttributeError")=pure QJ:=by rw[afC];kernel_rfl
end F
section
variable {prog:Rf} {w:RB} {A:Rv} {E:QH->QP->Prop} {h:Heap} {g:Array WU} {d:aa3} {t:Nat} {os:aan} {a:QN} {o:Obj}
theorem yl {α:Type} {name f:Str} {Q:α->QP->Prop} {E:QH->QP->Prop} (hm:f.length<=QX) (l:A.handled=Ld) (i:∀e h' t',(∀b o,h.get? b=lD o->h'.get? b=lD o)->(⟨h',g,d,t',os⟩:QP).TypeIs e "AttributeError"->E e ⟨h',g,d,t',os⟩):
  wpAny (model prog w) A (raiseAttrError (.ref a) name f:Sem α) Q E ⟨h,g,d,t,os⟩:=by
 have j:¬f.length>QX:=Nat.not_lt.mpr hm;unfold raiseAttrError newExc newTuple
 repeat (any_goals (first|assumption|wp_step))
 refine Yo (a:=QJ) F.sub_ae ?_
 repeat (any_goals (first|assumption|wp_step))
 refine abA l (i _ _ _ (fun b o e=> ?_) ?_)
 .exact(Heap.get?_update_other _ _ (Ne.symm (Rg (Heap.lt_size (Heap.get?_push_of_some _ e))))).trans (Heap.get?_push_of_some _ (Heap.get?_push_of_some _ e))
 .exact⟨_,Heap.get?_update_self _ (Heap.get?_push_size _ rfl) rfl,rfl⟩
theorem nG {f:Tok} {Q:Fin->QP->Prop} {E:QH->QP->Prop} {p:Array QH} {n:Nat} {i:Array (Option QH)} (j:h.get? a=lD ⟨.type "tuple",Ld,.seq p n,i⟩) (m:A.handled=Ld) (l:∀e h' t',(∀b o,h.get? b=lD o->h'.get? b=lD o)->(⟨h',g,d,t',os⟩:QP).TypeIs e "AttributeError"->E e ⟨h',g,d,t',os⟩):
  wpAny (model prog w) A (Builtin.«object.__getattribute__» ⟨[.ref a,.str "keys" f],[]⟩) Q E ⟨h,g,d,t,os⟩:=by
 have q:(⟨h,g,d,t,os⟩:QP).TypeIs (.ref a) "tuple":=⟨_,j,rfl⟩;have r:=F.lk_tuple_keys
 repeat (any_goals (first|assumption|wp_step))
 exact yl (by left) m l
theorem r8 {f:Tok} {Q:QH->QP->Prop} {E:QH->QP->Prop} {u:Array QH} {n:Nat} {l:Array (Option QH)} (i:h.get? a=lD ⟨.type "tuple",Ld,.seq u n,l⟩) (q:A.handled=Ld) (m:∀e h' t',(∀b o,h.get? b=lD o->h'.get? b=lD o)->(⟨h',g,d,t',os⟩:QP).TypeIs e "AttributeError"->E e ⟨h',g,d,t',os⟩):
  wpAny (model prog w) A (getAttrBy (.ref a) (.str "keys" f) QQ) Q E ⟨h,g,d,t,os⟩:=by
 have r:(⟨h,g,d,t,os⟩:QP).TypeIs (.ref a) "tuple":=⟨_,i,rfl⟩;have B:=F.slot_tuple_getattribute.lookup;have y:=F.slot_tuple_getattribute.bind (.ref a);have v:=F.lk_tuple_hook
 repeat (any_goals (first|assumption|wp_step))
 refine UR F.slot_tuple_getattribute.plain F.entry_tuple_ga (F.slot_tuple_getattribute.check _ _ _ _ _ _ _ _ r (F.args_tuple_getattribute_2 _ _) (nG i q fun e h' t' p j=> ?_));have fs:=F.sub_ae;show wpAny (model prog w) A (getattributeRaised (QH.ref a) (QH.str (Str.ofString "keys") f) (QH.type "tuple") e Ld QQ QQ) Q E _;unfold getattributeRaised;refine QG (V4 j fs ?_)
 repeat (any_goals (first|assumption|wp_step))
 exact m e h' t' p j
theorem oM (f:h.get? a=lD ⟨.type "tuple",Ld,.seq RG n,sl⟩) (l:A.handled=Ld) (i:∀h' t',(∀b o,h.get? b=lD o->h'.get? b=lD o)->Q Ld ⟨h',g,d,t',os⟩):
  wpAny (model prog w) A (getAttr? (.ref a) "keys") Q E ⟨h,g,d,t,os⟩:=by
 unfold getAttr? getAttrBy?;have fs:=F.sub_ae;refine QG ?_
 repeat (any_goals (first|assumption|(specialize r8 f l fun e h' t' j m=> ?_)|wp_step))
 exact i h' t' j
namespace F
theorem entry_upd_loop:entryFor table "dict.update.loop"=lD Builtin.«dict.update.loop»:=entryFor_of_tree (by kernel_rfl)
theorem plain_upd_loop:plainId "dict.update.loop"=QJ:=by left
end F
end
section
variable {prog:Rf} {w:RB} {A:Rv} {E:QH->QP->Prop} {s:QP} {K:Type} [DecidableEq K] {knd:KeyKind prog w K} {I dd Z:QN} {items:Array QH} {ks:List (K×QH)} {R:WW->QP->Prop}
theorem yk (Rj:List (K×QH)) (k:K) (v:QH):(stored Rj k v).length<=Rj.length+1:=by
 unfold stored;split
 .rw[QI];omega
 .rw[QO];exact QU _
theorem oo:∀(a Rj:List (K×QH)),(merged Rj a).length<=Rj.length+a.length
 |[],Rj=>QU _
 |p::r,Rj=>by have e:=oo r (stored Rj p.1 p.2);have b:=yk Rj p.1 p.2;show(merged (stored Rj p.1 p.2) r).length<=_;rw[Q5];omega
theorem yI (a:List (K×QH)):(merged [] a).length<=a.length:=by have:=oo a [];simpa using this
theorem F2 {O:Heap} (hh:A.handled=Ld) (V8:Z≠I) (N:I≠dd) (M:Z≠dd) (hp:∀(i:Nat) (v:QH),items[i]? =lD v->∃q key k x,v= .ref q/\q≠dd/\q≠I/\ks[i]? =lD (k,x)/\knd.is k key=QJ/\O.IsTuple q #[key,x]) (hs:ks.length=items.size) (hz:items.size<=QX)
  (hR:∀h' j,h'.DictOf knd dd (merged [] ks)->(∀b o,b≠dd->b≠I->O.get? b=lD o->h'.get? b=lD o)->R (.ok (.ret .none)) {s with heap:=h',toks:=j}):
  ∀(m i:Nat) (h:Heap) (j:Nat),items.size - i=m->i<=items.size->h.IsTupleIter I Z i->h.IsTuple Z items->h.DictOf knd dd (merged [] (ks.take i))->(∀b o,b≠dd->b≠I->O.get? b=lD o->h.get? b=lD o)->
   codeAny (model prog w) A (.builtin "dict.update.loop" ⟨[.ref dd,.ref I,rawInt i,.none],[]⟩) R {s with heap:=h,toks:=j}:=by
 have W:=Walks.tuple (prog:=prog) (w:=w) (A:=A.in1) hh I Z V8 items;intro m
 induction m with
 |zero=>
  intro i h j hm hi B u r p;have e:i=items.size:=by omega
  subst e;refine Ue F.entry_upd_loop ?_;rw[Rv.under_plainId F.plain_upd_loop _];refine QG (W.done _ _ _ ⟨B,u⟩ fun h' t f=> ?_);rw[VF (by omega)] at r;refine QG (QR (QR ?_));refine hR h' t (r.at fun o e=>f dd o (by simp;exact fun z=>N z.symm) e) fun b o g a e=>f b o (by simp;exact a) (p b o g a e)
 |succ m ih=>
  intro i h j hm hi B u r p;have T:i<items.size:=by omega
  refine Ue F.entry_upd_loop ?_;rw[Rv.under_plainId F.plain_upd_loop _];refine QG (W.item i _ _ _ T ⟨B,u⟩ fun v h' t hv S f=> ?_);obtain⟨q,key,k,x,rfl,G,l,H,Yu,ht⟩:=hp i v hv;have C:=ht.at fun o e=>f q o (by simp;exact l) (p q o G l e);have Q:=r.at fun o e=>f dd o (by simp;exact fun z=>N z.symm) e;have y:=fun b o g a e=>f b o (by simp;exact a) (p b o g a e);obtain⟨Y,n,L,nq,J⟩:=C;obtain⟨cq,dq,dtq,U⟩:=Y;cases L;cases J;have hT:({s with heap:=h',toks:=t}:QP).TypeIs (.ref q) "tuple":=⟨_,n,rfl⟩;refine QG (Sx (QG ?_));refine WZ ?_;unfold Builtin.Dict.pairItems;refine QG (UA hT ?_);rw[if_pos (by decide)];refine QG ?_;unfold seqItems?;refine QG (abY n (QR (QR ?_)));refine Sx (wpAny_dictSet_pairs Yu Q (fun a d2 X=> ?_) ?_)
  .refine QR ⟨TL F.plain_upd_loop _,?_⟩;have P:∀b o,b≠dd->h'.get? b=lD o->a.get? b=lD o:=fun b o hb e=>(X.2 b hb).trans e;refine ih (i+1) a (t+1) (by omega) T (S.1.at fun o e=>P I o N e) (S.2.at fun o e=>P Z o M e) ?_ fun b o g a e=>P b o g (y b o g a e);rw[merged_take_succ [] ks i (k,x) H];exact d2
  .have:(merged [] (ks.take i)).length<=(ks.take i).length:=yI _;rw[Sl] at this;omega
end
end PySem
namespace PySem
open Sem (wp)
open PyProof.Rows
section
variable {prog:Rf} {w:RB} {A:Rv} {E:QH->QP->Prop} {s:QP} {K:Type} [DecidableEq K] {knd:KeyKind prog w K} {Z:QN} {items:Array QH} {ks:List (K×QH)} {R:WW->QP->Prop}
theorem oP (C:A.handled=Ld) (B:s.heap.get? Z=lD ⟨.type "tuple",Ld,.seq items n,sl⟩) (I:ks.length=items.size) (hz:items.size<=QX)
  (J:∀(i:Nat) (v:QH),items[i]? =lD v->∃q key k x,v= .ref q/\ks[i]? =lD (k,x)/\knd.is k key=QJ/\s.heap.IsTuple q #[key,x])
  (h:∀h' tk,h'.DictOf knd s.heap.objs.size (merged [] ks)->(∀b o,s.heap.get? b=lD o->h'.get? b=lD o)->Q (.ref s.heap.objs.size) {s with heap:=h',toks:=tk}):
  wpAny (model prog w) A (call (.type "dict") [.ref Z]) Q E s:=by
 refine afD (Q₁:=fun obj a=>obj= .ref s.heap.objs.size/\a={s with heap:=s.heap.push {cls:= .type "dict",data:= .dict #[]}}) F.kt_called_dict (F.kt_typeCall_dict_1 _) F.entry_dict_init (kt_code_dict_new _ ⟨rfl,rfl⟩) ?_;rintro obj a ⟨rfl,rfl⟩;have m:(s.heap.push {cls:= .type "dict",data:= .dict #[]}).DictOf knd s.heap.objs.size []:=Heap.DictOf.new s.heap;have u:(s.heap.push {cls:= .type "dict",data:= .dict #[]}).get? Z=lD ⟨.type "tuple",Ld,.seq items n,sl⟩:=Heap.get?_push_of_some _ B;have L:({s with heap:=s.heap.push {cls:= .type "dict",data:= .dict #[]}}:QP).TypeIs (.ref Z) "tuple":=⟨_,u,rfl⟩;refine⟨m.typeIs,F.args_dict_init_2 _ _,?_⟩;unfold Builtin.«dict.__init__»;refine QG ?_;unfold Builtin.Dict.selfAndRest;refine QG (wpAny_notOrdered_dict m.typeIs ?_);refine QR ?_;show wpAny _ _ (Builtin.Dict.updateFrom "dict.__init__" s.heap.objs.size (.ref Z) [] .none) _ _ _;unfold Builtin.Dict.updateFrom;refine QG (UA L ?_);rw[if_pos (by decide)];refine QG (oM u C fun h' G j=> ?_);rw[if_pos (show(Ld:Option QH).isNone=QJ from rfl)];refine QG (Wh ?_);have g:=j _ _ u;have r:h'.IsTuple Z items:=⟨_,g,rfl,n,rfl⟩;refine QG (WA r ?_);refine QR ⟨TL F.plain_upd_loop _,?_⟩;have NL:s.heap.objs.size<h'.objs.size:=by obtain⟨o,_,_,l,_⟩:=m;exact Heap.lt_size (j _ _ l)
 have f:=Heap.lt_size B;refine F2 (A:=A.in1) (knd:=knd) C (Rg (Uj f NL)) (Sa NL) (Rg f) (fun i v e=> ?_) I hz (fun t p O H=> ?_) items.size 0 _ G (by omega) (Rp _) ⟨_,Heap.get?_push_size _ rfl,rfl,rfl⟩ ⟨_,Heap.get?_push_of_some _ g,rfl,n,rfl⟩ ?_ fun b o _ _ e=>e
 .obtain⟨q,key,k,x,rfl,N,t,o,l,M⟩:=J i v e;have y:=Heap.lt_size l;exact⟨q,key,k,x,rfl,Rg y,Rg (Uj y NL),N,t,o,Heap.get?_push_of_some _ (j _ _ (Heap.get?_push_of_some _ l)),M⟩
 .refine⟨rfl,h t p O fun b o e=> ?_⟩;have lb:=Heap.lt_size e;exact H b o (Rg lb) (Rg (Uj lb NL)) (Heap.get?_push_of_some _ (j _ _ (Heap.get?_push_of_some _ e)))
 .have:=m.at (h':=h'.push {cls:= .type "tuple_iterator",data:= .fields #[.ref Z,.int 0 0]}) fun o e=>Heap.get?_push_of_some _ (j _ _ e);exact this
end
end PySem
namespace L10
open PySem PySem.Spec PyProof.Rows L2 L3
inductive X5 (K:QF) (H:Hp):List V->List (cE×V)->Prop
 |nil:X5 K H [] []
 |cons {q:QN} {k:cE} {v:V} {vs:List V} {Rj:List (cE×V)}:Vn K H q [kV k,v]->X5 K H vs Rj->X5 K H (.ref q::vs) ((k,v)::Rj)
def D5 (K:QF):List V->Hp->VK->Prop:=fun xs H Q=>∃p ys Rj,xs=[.ref p]/\Vn K H p ys/\X5 K H ys Rj/\∀d,H d=Ld->Q (.ref d) (bC H d (.dK (nH [] Rj)))
theorem E4 (I:Inv X pins σ H s):∀{j:List V} {Rj:List (cE×V)} {us:List QH},X5 X.K H j Rj->Vals j us->∃ks:List (cE×QH),KV Rj ks/\ks.length=us.length/\∀(i:Nat) (v:QH),us[i]? =lD v->∃q key k x,v= .ref q/\ks[i]? =lD (k,x)/\(cK X.prog X.w).is k key=QJ/\s.heap.IsTuple q #[key,x]
 |_,_,_,.nil,.nil=>⟨[],.nil,rfl,fun i v e=>by simp at e⟩
 |_,_,_,.cons (q:=q) (k:=k) (v:=v) h t,.cons r rs=>by
  obtain⟨ks,p,o,n⟩:=E4 I t rs;obtain⟨y,rv,pl,_⟩:=I.tuple h;cases r;obtain⟨g,f,rfl,m,l⟩:∃g f,y=[g,f]/\RelV (kV k) g/\RelV v f:=by
   cases rv with
   |cons a b=>cases b with
    |cons b c=>cases c;exact⟨_,_,rfl,a,b⟩
  refine⟨(k,f)::ks,.cons ⟨rfl,l⟩ p,by rw[Q5,Q5,o],fun i u e=> ?_⟩;cases i with
  |zero=>cases e;exact⟨q,g,k,f,rfl,rfl,si m,pl⟩
  |succ i=>exact n i u (by simpa using e)
theorem zF (J:X.calm=QJ):Ub X (.type "dict") (D5 X.K):=by
 intro f s L H xs N Q I r h;obtain⟨p,M,Rj,rfl,y,A,q⟩:=h;obtain⟨u,rfl,j⟩:=jM r;cases j;obtain⟨Y,rv,⟨o,B,⟨b,n,G⟩,a⟩,w⟩:=I.aca y;obtain⟨S,g,t,m⟩:=E4 I A rv;obtain⟨R,P,l,U⟩:=o;cases b;cases G;cases a;have C:=rv.length;have E:=g.length;refine oP (I.ok.hd J) B (by rw[QZ];exact t) (by rw[QZ,<-C];exact w) (fun i v e=>m i v (by simpa using e)) fun T O dd F=> ?_;refine⟨.ref s.heap.objs.size,_,I.laid F (QU _) ?_,rfl,q _ (I.Sh.fresh (QU _))⟩;refine za ?_ ?_ (KV.merge g .nil) dd
 .have:=lj Rj [];rw[Ta] at this;omega
 .exact beq_eq_false_iff_ne.mpr (Sa I.big)
end L10
namespace L10
open PySem PyProof.Rows L2 L3
theorem MF:Se "dict"=lD (.type "dict"):=by left
section
variable {B O O':cb} {K:QF} {E:XK} {H H' R P:Hp} {Y α' U T:List QN} {Z Z' Z1 X:aV} {S:L2.St} {ρ:bp} {v:V}
def rV:SV->Option cE
 | .fz (.int i)=>lD (.inl i)
 | .fz (.str x)=>lD (.inr x)
 |_=>Ld
theorem ph (e:rV x=lD k) (h:Ud O K H Y v x):v=kV k:=by
 unfold rV at e;split at e
 .cases e;cases h;rfl
 .cases e;cases h;rfl
 .cases e
abbrev uU (O:cb) (K:QF) (H:Hp) (Y:List QN):List (cE×V)->List (cE×SV)->Prop:=Paired (fun(p:cE×V) (q:cE×SV)=>p.1=q.1/\Ud O K H Y p.2 q.2)
def gY (Z:aV):SV->Option (Nat×List (cE×SV))
 | .rf i=>match Z[i]? with
  |some (.WH Rj)=>lD (i,Rj)
  |_=>Ld
 |_=>Ld
theorem lS (s:Rz B K H Y Z) (b:Ud (ow B Y Z) K H Y v x) (h:gY Z x=lD (i,Rj)):Z[i]? =lD (.WH Rj)/\∃a ws,Y[i]? =lD a/\v= .ref a/\H a=lD (.dK ws)/\uU (ow B Y Z) K H Y ws Rj:=by
 cases x with
 |fz d=>cases h
 |tp l=>cases h
 |rf j=>
  obtain⟨a,ha,rfl⟩:=b;unfold gY at h;dsimp only at h;cases q:Z[j]? with
  |none=>rw[q] at h;cases h
  |some c=>
   rw[q] at h;cases c with
   |WH m=>have e:=Ra h;cases e;obtain⟨ws,g,f⟩:=s.X4 i a _ ha q;exact⟨q,a,ws,ha,rfl,g,f⟩
   |_=>cases h
def i9 (Rj:List (cE×SV)) (k:cE):Option SV:=(Rj.find? fun a=>decide (a.1=k)).map (·.2)
def jw (Rj:List (cE×SV)) (k:cE) (x:SV):List (cE×SV):=
 if(Rj.any fun a=>decide (a.1=k))=QJ then Rj.map (fun a=>if a.1=k then(a.1,x) else a) else Rj++[(k,x)]
def lz (Rj:List (cE×SV)) (k:cE):List (cE×SV):=Rj.filter fun a=>decide (a.1≠k)
theorem pf:∀{ws:List (cE×V)} {Rj:List (cE×SV)},uU O K H Y ws Rj->(∀x,i9 Rj k=lD x->∃v,jA ws k=lD v/\Ud O K H Y v x)/\(i9 Rj k=Ld->jA ws k=Ld)
 |_,_,.nil=>⟨fun x e=>(by cases e),fun _=>rfl⟩
 |(a,u)::ws,(b,y)::Rj,.cons ⟨h1,h2⟩ t=>by
  cases h1;unfold i9 jA;rw[RH,RH];by_cases e:a=k
  .simp only[decide_eq_true e];exact⟨fun x h=>⟨u,rfl,by cases h;exact h2⟩,fun h=>by cases h⟩
  .simp only[decide_eq_false e];exact pf t
theorem N6:∀{ws:List (cE×V)} {Rj:List (cE×SV)},uU O K H Y ws Rj->(ws.any fun kv=>decide (kv.1=k))=Rj.any fun kv=>decide (kv.1=k)
 |_,_,.nil=>rfl
 |(a,u)::ws,(b,y)::Rj,.cons ⟨h1,h2⟩ t=>by cases h1;rw[T1,T1,N6 t]
theorem MV (f:Ud O K H Y v x):∀{ws:List (cE×V)} {Rj:List (cE×SV)},uU O K H Y ws Rj->uU O K H Y (ws.map (fun kv=>if kv.1=k then(kv.1,v) else kv)) (Rj.map (fun kv=>if kv.1=k then(kv.1,x) else kv))
 |_,_,.nil=> .nil
 |(a,u)::ws,(b,y)::Rj,.cons ⟨h1,h2⟩ t=>by
  cases h1;rw[Q3,Q3];by_cases e:a=k
  .rw[if_pos e,if_pos e];exact .cons ⟨rfl,f⟩ (MV f t)
  .rw[if_neg e,if_neg e];exact .cons ⟨rfl,h2⟩ (MV f t)
theorem Gs (h:uU O K H Y ws Rj) (r:p.1=q.1/\Ud O K H Y p.2 q.2):uU O K H Y (ws++[p]) (Rj++[q]):=by
 induction h with
 |nil=>exact .cons r .nil
 |cons a _ b=>exact .cons a b
theorem Ak (a:Ud O K H Y v x) (h:uU O K H Y ws Rj):uU O K H Y (i4 ws k v) (jw Rj k x):=by
 unfold i4 jw;rw[N6 h];split
 .exact MV a h
 .exact Gs h ⟨rfl,a⟩
theorem p7:∀{ws:List (cE×V)} {Rj:List (cE×SV)},uU O K H Y ws Rj->uU O K H Y (mq ws k) (lz Rj k)
 |_,_,.nil=> .nil
 |(a,u)::ws,(b,y)::Rj,.cons ⟨h1,h2⟩ t=>by
  cases h1;unfold mq lz;rw[Ux,Ux];by_cases e:a=k
  .have z:decide (a≠k)=QQ:=decide_eq_false fun n=>n e;simp only[z];exact p7 t
  .have z:=decide_eq_true e;simp only[z];exact .cons ⟨rfl,h2⟩ (p7 t)
def wS (neg:Bool) (a fd:dU):dU:=fun ρ Z=>(a ρ Z).bind fun x Z1=>(fd ρ Z1).bind fun o X=>(RS.RO X (rV x)).bind fun k X=>(RS.RO X (gY X o)).bind fun p X=> .ok (.fz (.bool ((i9 p.2 k).isSome !=neg))) X
theorem Dq (h:uU O K H Y ws Rj):(jA ws k).isSome=(i9 Rj k).isSome:=by
 obtain⟨b,a⟩:=pf h;cases q:i9 Rj k with
 |none=>rw[a q];rfl
 |some x=>obtain⟨u,e,_⟩:=b x q;rw[e];rfl
theorem IY (p:cY K E tk fk) (hd:cY K E td fd):cY K E (OM tk td) (wS QQ fk fd):=by intro B S H Y Z ρ Q s e w;refine p B S H Y Z ρ _ s e (w.bind.imp fun x U Z1 R t h g v m=> ?_);refine hd B S R U Z1 ρ _ h (e.Tz t) (g.bind.imp fun o T X P y f b u n=> ?_);obtain⟨k,l,b⟩:=WS.RO b;obtain⟨⟨i,Rj⟩,j,b⟩:=WS.RO b;obtain⟨_,a,ws,ha,rfl,r,q⟩:=lS f n j;refine⟨a,jA ws k,rfl,by rw[ph l m];exact Yk.k r,?_⟩;rw[Dq q];refine WS.now f b _ ?_;rw[Bool.bne_false];exact .bl _
def so (fd a:dU):dU:=fun ρ Z=>(fd ρ Z).bind fun o Z1=>(a ρ Z1).bind fun x X=>(RS.RO X (rV x)).bind fun k X=>(RS.RO X (gY X o)).bind fun p X=>RS.RO X (i9 p.2 k)
theorem wf (hd:cY K E td fd) (t:cY K E tk fk):cY K E (JN td tk) (so fd fk):=by
 intro B S H Y Z ρ Q s e w;refine hd B S H Y Z ρ _ s e (w.bind.imp fun o U Z1 R G j g u r=> ?_);refine t B S R U Z1 ρ _ j (e.Tz G) (g.bind.imp fun x T X P F f b v p=> ?_);obtain⟨k,m,b⟩:=WS.RO b;obtain⟨⟨i,Rj⟩,l,b⟩:=WS.RO b;obtain⟨_,a,ws,ha,rfl,C,A⟩:=lS f (r.Tz F) l;dsimp only at b;cases q:i9 Rj k with
 |none=>rw[q] at b;exact b.elim
 |some y=>rw[q] at b;obtain⟨z,n,h⟩:=(pf A).1 y q;exact⟨a,z,rfl,by rw[ph m p,<-n];exact Yk.k C,WS.now f b z h⟩
def wm (fd e b:dU):fx:=fun ρ Z=>(b ρ Z).bind fun y Z1=>(fd ρ Z1).bind fun o X=>(e ρ X).bind fun x a=>(RS.RO a (rV x)).bind fun k a=>(RS.RO a (gY a o)).bind fun p a=>if p.2.length<1000000 then .ok (.nx ρ) (a.set p.1 (.WH (jw p.2 k y))) else .bad
theorem Dc (hd:cY K E td fd) (hk:cY K E tk fk) (hv:cY K E tv fv):l7 K E (JW td tk tv) (wm fd fk fv):=by
 intro B S H Y Z ρ D s f w;refine hv B S H Y Z ρ _ s f (WS.imp (WS.bind w) fun y U Z1 R q L I t m=> ?_);refine hd B S R U Z1 ρ _ L (f.Tz q) (WS.imp (WS.bind I) fun o T X P p J G u hu=> ?_);refine hk B S P T X ρ _ J (f.Tz (q.trans p)) (WS.imp (WS.bind G) fun x b g j n A e z Q=> ?_);obtain⟨k,N,e⟩:=WS.RO e;obtain⟨⟨i,Rj⟩,M,e⟩:=WS.RO e;obtain⟨l,a,ws,ha,rfl,g1,C⟩:=lS A (hu.Tz n) M;dsimp only at e;by_cases hn:Rj.length<1000000
 .rw[if_pos hn] at e;have ev:Ev (ow B b g) j (ow B b g) (bC j a (.dK (i4 ws k t))):=qL ha l (by intro z;cases z);have F:S0 b g j b (g.set i (.WH (jw Rj k y))) (bC j a (.dK (i4 ws k t))):=S0.put ha l (by intro z;cases z) (by intro z;cases z);have hl:=Paired.length C;refine⟨a,_,rfl,by rw[ph N Q];exact aaI.k g1 (sV (by omega)),?_⟩;exact e b _ F (A.put ha l (by intro z;cases z) (by intro z;cases z) ⟨_,aH,Ak ((m.Tz (p.trans n)).ev ev fun _ _ h=>h) (Paired.U3 C fun _ _ r=>⟨r.1,r.2.ev ev fun _ _ h=>h⟩)⟩) S ((f.Tz (q.trans (p.trans n))).Tz F)
 .rw[if_neg hn] at e;exact e.elim
def wX (fd a:dU):dU:=fun ρ Z=>(fd ρ Z).bind fun o Z1=>(RS.RO Z1 (gY Z1 o)).bind fun _ Z1=>(a ρ Z1).bind fun x X=>(RS.RO X (rV x)).bind fun k X=>(RS.RO X (gY X o)).bind fun p X=>(RS.RO X (i9 p.2 k)).bind fun y X=> .ok y (X.set p.1 (.WH (lz p.2 k)))
theorem Er (hd:cY K E td fd) (L:cY K E tk fk):cY K E (DD td tk) (wX fd fk):=by intro B S H Y Z ρ Q s j w;refine hd B S H Y Z ρ _ s j (w.bind.imp fun o U Z1 R e1 m f u n=> ?_);obtain⟨⟨i0,agC⟩,G,f⟩:=WS.RO f;obtain⟨_,a,e,_,rfl,N,_⟩:=lS m n G;refine⟨a,rfl,.inl ⟨e,.inl N⟩,?_⟩;refine L B S R U Z1 ρ _ m (j.Tz e1) (f.bind.imp fun x T X P e2 l b v J=> ?_);obtain⟨k,F,b⟩:=WS.RO b;obtain⟨⟨i,Rj⟩,C,b⟩:=WS.RO b;obtain⟨g,a',ws,ha,ea,M,p⟩:=lS l (n.Tz e2) C;cases ea;dsimp only at b;obtain⟨y,q,b⟩:=WS.RO b;obtain⟨z,I,A⟩:=(pf p).1 y q;have ev:Ev (ow B T X) P (ow B T X) (bC P a (.dK (mq ws k))):=qL ha g (by intro z;cases z);have t:S0 T X P T (X.set i (.WH (lz Rj k))) (bC P a (.dK (mq ws k))):=S0.put ha g (by intro z;cases z) (by intro z;cases z);refine⟨ws,k,z,M,ph F J,I,?_⟩;exact b T _ t (l.put ha g (by intro z;cases z) (by intro z;cases z) ⟨_,aH,p7 (Paired.U3 p fun _ _ r=>⟨r.1,r.2.ev ev fun _ _ h=>h⟩)⟩) z (A.Tz t)
theorem mx (s:Rz B K H Y Z) (a:H p=Ld) (w:WS K E B H Y Z (PQ B K Q) (.ok (.rf Z.length) (Z++[c]))) (f:∀e:S0 Y Z H (Y++[p]) (Z++[c]) (bC H p o),COk (ow B (Y++[p]) (Z++[c])) K (bC H p o) (Y++[p]) p c):Q (.ref p) (bC H p o):=by have b:SJ H (bC H p o):=ce a _;have e:S0 Y Z H (Y++[p]) (Z++[c]) (bC H p o):=S0.XW s.len b a;exact w _ _ e (s.XW b a (by rw[aH];simp) (f e)) _ ⟨p,by rw[<-s.len];exact aX,rfl⟩
def BB (fd:dU):dU:=fun ρ Z=>(fd ρ Z).bind fun o Z1=>(RS.RO Z1 (gY Z1 o)).bind fun p Z1=> .ok (.rf Z1.length) (Z1++[.lst (p.2.map (·.2))])
theorem v5:∀{ws:List (cE×V)} {Rj:List (cE×SV)},uU O K H Y ws Rj->TQ O K H Y (ws.map (·.2)) (Rj.map (·.2))
 |_,_,.nil=> .nil
 |_,_,.cons h t=> .cons h.2 (v5 t)
theorem x4 (hd:cY K E td fd):cY K E (Kf Di (mO (On K "dict" Kb td) qC)) (BB fd):=by intro B S H Y Z ρ Q s m w;refine hd B S H Y Z ρ _ s m (w.bind.imp fun o U Z1 R G h f u t=> ?_);obtain⟨⟨i,Rj⟩,q,f⟩:=WS.RO f;obtain⟨F,a,ws,ha,rfl,g,C⟩:=lS h t q;refine⟨.inr (.inr (.inl ⟨rfl,.inl ⟨ws,g⟩⟩)),a,ws,rfl,rfl,g,fun p y=> ?_⟩;have b:SJ R (bC R p (Pw p a)):=ce y _;have n:=h.grow b;have j:=WS.from (S0.same b) f;refine⟨p,a,ws,rfl,aH,b _ _ g,fun l A=> ?_⟩;refine mx n A j fun e=>⟨_,aH,v5 (Paired.U3 C fun _ _ r=>⟨r.1,(r.2.Tz (S0.same b)).Tz e⟩)⟩
def zA:cE->Option Int
 | .inl i=>lD i
 | .inr _=>Ld
def sr (fd:dU):dU:=fun ρ Z=>(fd ρ Z).bind fun o Z1=>(RS.RO Z1 (gY Z1 o)).bind fun p Z1=>(RS.RO Z1 (aM zA (p.2.map (·.1)))).bind fun a Z1=>if a.length<64 then .ok (.rf Z1.length) (Z1++[.lst ((j8 a).map fun i=>SV.fz (.int i))]) else .bad
theorem pX:∀{ks:List cE} {a:List Int},aM zA ks=lD a->ks=a.map Sum.inl
 |[],_,e=>by cases e;rfl
 |k::r,a,e=>by
  unfold aM at e;cases k with
  |inr x=>cases e
  |inl i=>
   dsimp only[zA] at e;cases q:aM zA r with
   |none=>rw[q] at e;cases e
   |some b=>rw[q] at e;cases e;rw[Q3,<-pX q]
theorem xL:∀{ws:List (cE×V)} {Rj:List (cE×SV)},uU O K H Y ws Rj->ws.map (·.1)=Rj.map (·.1)
 |_,_,.nil=>rfl
 |_,_,.cons h t=>by rw[Q3,Q3,h.1,xL t]
theorem z7 (O:cb) (K:QF) (H:Hp) (Y:List QN):∀ns:List Int,TQ O K H Y (ns.map V.int) (ns.map fun i=>SV.fz (.int i))
 |[]=> .nil
 |n::r=> .cons (.int n) (z7 O K H Y r)
theorem xK (hd:cY K E td fd):cY K E (Kf Gn (mO td qC)) (sr fd):=by
 intro B S H Y Z ρ Q s h w;refine hd B S H Y Z ρ _ s h (w.bind.imp fun o U Z1 R G g b u n=> ?_);obtain⟨⟨i,Rj⟩,m,b⟩:=WS.RO b;obtain⟨C,a,ws,ha,rfl,y,t⟩:=lS g n m;obtain⟨f,j,b⟩:=WS.RO b;by_cases hn:f.length<64
 .rw[if_pos hn] at b;refine⟨a,ws,f,rfl,y,by rw[xL t];exact pX j,hn,fun l F r q p=> ?_⟩;have A:=kz (q.trans (fD f).symm) p (eK f);subst A;exact mx g r b fun e=>⟨_,aH,z7 _ _ _ _ _⟩
 .rw[if_neg hn] at b;exact b.elim
def re:D->Option (cE×SV)
 | .tuple [.int i,d]=>lD (.inl i,.fz d)
 | .tuple [.str x,d]=>lD (.inr x,.fz d)
 |_=>Ld
def tY:SV->Option (List (cE×SV))
 | .fz (.tuple ds)=>aM re ds
 |_=>Ld
theorem Cc (e:tY x=lD ps):∃ds,x= .fz (.tuple ds)/\aM re ds=lD ps:=by
 unfold tY at e;split at e
 .exact⟨_,rfl,e⟩
 .cases e
def lU (Rj a:List (cE×SV)):List (cE×SV):=a.foldl (fun b e=>jw b e.1 e.2) Rj
def wc (fe:dU):dU:=fun ρ Z=>(fe ρ Z).bind fun x Z1=>(RS.RO Z1 (tY x)).bind fun ps Z1=> .ok (.rf Z1.length) (Z1++[.WH (lU [] ps)])
theorem xo:∀{vs:List V} {ds:List D} {ps:List (cE×SV)},L3.SE O K H vs ds->aM re ds=lD ps->∃Rj,X5 K H vs Rj/\uU O K H Y Rj ps
 |_,_,_,.nil,e=>by cases e;exact⟨[],.nil,.nil⟩
 |_,_,_,.cons (d:=d) (ds:=ds) h t,e=>by
  unfold aM at e;cases q:re d with
  |none=>rw[q] at e;cases e
  |some p=>
   rw[q] at e;dsimp only at e;cases q2:aM re ds with
   |none=>rw[q2] at e;cases e
   |some ps=>
    rw[q2] at e;cases e;obtain⟨Rj,i,g⟩:=xo t q2;unfold re at q;split at q
    .cases q
     cases h with
     |tup h f=>cases f with
      |cons a b=>cases b with
       |cons b c=>cases c;cases a;exact⟨(.inl _,_)::Rj,.cons h.1 i,.cons ⟨rfl,b⟩ g⟩
    .cases q
     cases h with
     |tup h f=>cases f with
      |cons a b=>cases b with
       |cons b c=>cases c;cases a;exact⟨(.inr _,_)::Rj,.cons h.1 i,.cons ⟨rfl,b⟩ g⟩
    .cases q
theorem Am:∀{e:List (cE×V)} {f:List (cE×SV)} {ws:List (cE×V)} {Rj:List (cE×SV)},uU O K H Y e f->uU O K H Y ws Rj->uU O K H Y (nH ws e) (lU Rj f)
 |_,_,_,_,.nil,h=>h
 |(a,u)::e,(b,y)::f,_,_,.cons r t,h=>by obtain⟨i,g⟩:=r;cases i;show uU O K H Y (nH (i4 _ a u) e) (lU (jw _ a y) f);exact Am t (Ak g h)
theorem EA (n:cY K E te fe):cY K E (Kf (D5 K) (mO te qC)) (wc fe):=by
 intro B S H Y Z ρ Q s f w;refine n B S H Y Z ρ _ s f (w.bind.imp fun x U Z1 R p g b u l=> ?_);obtain⟨ps,q,a⟩:=WS.RO b;obtain⟨ds,rfl,q⟩:=Cc q;have a:=a;cases l with
 |tup h m=>obtain⟨Rj,j,i⟩:=xo m q;exact⟨_,_,Rj,rfl,h.1,j,fun d o=>mx g o a fun e=>⟨_,aH,Am (Paired.U3 i fun _ _ r=>⟨r.1,r.2.Tz e⟩) .nil⟩⟩
end
end L10
namespace PySem
open PyProof.Rows
def j5:Option Int->Int->Option Int
 |none,x=>lD x
 |some m,x=>lD (if x>m then x else m)
def OT:Option (Int×Tok)->Array QH
 |none=> #[]
 |some (m,t)=> #[.int m t,.int m t]
def Kn (d:QH):Option (Int×Tok)->QH
 |none=>d
 |some (m,t)=> .int m t
namespace F
theorem args_maxd (a b:QH):checkBuiltinCall "max" ⟨[a],[("default",b)]⟩=pure ():=by kernel_rfl
end F
section
variable {prog:Rf} {w:RB} {A:Rv} {E:QH->QP->Prop} {R:WW->QP->Prop} {I l S:QN} {vs:List QH} {d:QH}
theorem G8 (hh:A.handled=Ld) (V8:l≠I) (j:S≠I) (O:S≠l) {s:QP}:
  ∀{y:List QH} {ns:List Int},IntsAre y ns->∀(i:Nat) (h:Heap) (L:Nat) (b:Option (Int×Tok)) (c:Nat),vs=vs.take i++y->i<=vs.length->h.IsListIter I l i->h.IsList l vs.toArray->h.get? S=lD {cls:= .type "list",dict:=Ld,data:= .seq (OT b) c,slots:= #[]}->
  (∀h' L b',b'.map (·.1)=ns.foldl j5 (b.map (·.1))->(∀a o,a≠I->a≠S->h.get? a=lD o->h'.get? a=lD o)->R (.ok (.ret (Kn d b'))) {s with heap:=h',toks:=L})->
  codeAny (model prog w) A (.builtin "max.loop" ⟨[.ref I,.none,.ref S],[("default",d)]⟩) R {s with heap:=h,toks:=L}:=by
 have W:=Walks.list (prog:=prog) (w:=w) (A:=A.in1) hh I l V8 vs.toArray;intro y ns hi
 induction hi with
 |nil=>
  intro i h L b c q hi it li Q J;have e:i=vs.toArray.size:=by rw[RF] at q;have:=congrArg U9 q;rw[Sl] at this;rw[QZ];omega
  refine Ue F.entry_max_loop ?_;rw[Rv.under_plainId F.plain_max_loop _];refine QG (Sk Q rfl ?_);refine QG (WZ (W.done _ _ _ (e▸⟨it,li⟩) fun h' K r=> ?_));have G:=r S _ (by simpa using j) Q;cases b with
  |none=>refine QG (Wh (QR ?_));exact J h' K Ld rfl fun a o f u e=>r a o (by simpa using f) e
  |some p=>obtain⟨m,t⟩:=p;refine QG (Ww G rfl (QG (TZ (QR ?_))) (hz:=by show 2<=QX;decide));exact J _ K (lD (m,t)) rfl fun a o f u e=>(Heap.get?_update_other _ _ (Ne.symm u)).trans (r a o (by simpa using f) e)
 | @cons n t afV adS hr ih=>
  intro i h L b c q hi it li Q J;have U8:i<vs.toArray.size:=by have:=congrArg U9 q;rw[QO,Sl,Q5] at this;rw[QZ];omega
  have N:vs[i]? =lD (.int n t):=by rw[q,Ro (by rw[Sl];omega),Sl,abB hi,ads];rfl
  have B:vs=vs.take (i+1)++afV:=by rw[aao,N];rw[RD];exact q
  have YD:i+1<=vs.length:=by rw[QZ] at U8;exact U8
  refine Ue F.entry_max_loop ?_;rw[Rv.under_plainId F.plain_max_loop _];refine QG (Sk Q rfl ?_);refine QG (WZ (W.item i _ _ _ U8 ⟨it,li⟩ fun v h' K hP H r=> ?_));have ev:v= .int n t:=by have T:=hP;rw[List.getElem?_toArray,N] at T;exact(Ra T).symm
  subst ev;have G:=r S _ (by simpa using j) Q;have YK:(toString "max"++toString ".loop":String)= "max.loop":=by decide
  cases b with
  |none=>
   show wpAny _ A.in1 (updateSeq S (fun _=> #[QH.int n t,QH.int n t])>>=_) _ _ _;refine QG (Ww G rfl ?_);rw[YK];refine QR ⟨TL F.plain_max_loop _,ih (i+1) _ K (lD (n,t)) _ B YD (H.1.at fun o e=> ?_) (H.2.at fun o e=> ?_) (Heap.get?_update_self _ G rfl) fun u g X U M=>J u g X U fun a o f C e=>M a o f C ((Heap.get?_update_other _ _ (Ne.symm C)).trans (r a o (by simpa using f) e))⟩
   .exact(Heap.get?_update_other _ _ j).trans e
   .exact(Heap.get?_update_other _ _ O).trans e
  |some p=>
   obtain⟨m,Y⟩:=p;show wpAny _ A.in1 (tryCatch (holding [QH.int n t,QH.int n t] (richCompare .Gt (QH.int n t) (QH.int m Y)>>=_)) _>>=_) _ _ _;have aht:=CmpOf.ints_gt (prog:=prog) (w:=w) (A:=A.in1) (P:=fun(k:Nat) v=>(k=0/\v=QH.int n t)\/(k=1/\v=QH.int m Y)) (fun k=>if k=0 then n else m) fun k v q=>by
    rcases q with⟨rfl,rfl⟩|⟨rfl,rfl⟩
    .exact⟨t,rfl⟩
    .exact⟨Y,rfl⟩
   refine QG (WZ (Sx (QG (aht 0 1 _ _ _ _ _ (.inl ⟨rfl,rfl⟩) (.inr ⟨rfl,rfl⟩) ?_))));refine QG (Sx (SR ?_));refine QG (TZ (QR ?_));show wpAny _ A.in1 (if decide (n>m)=QJ then _ else _) _ _ _;by_cases Z:n>m
   .rw[if_pos (decide_eq_true Z)]
    refine QG (Ww G rfl (QG (TZ ?_)) (hz:=by show 2<=QX;decide));rw[YK];refine QR ⟨TL F.plain_max_loop _,ih (i+1) _ K (lD (n,t)) _ B YD (H.1.at fun o e=> ?_) (H.2.at fun o e=> ?_) (Heap.get?_update_self _ G rfl) fun u g X U M=>J u g X ?_ fun a o f C e=>M a o f C ((Heap.get?_update_other _ _ (Ne.symm C)).trans (r a o (by simpa using f) e))⟩
    .exact(Heap.get?_update_other _ _ j).trans e
    .exact(Heap.get?_update_other _ _ O).trans e
    .rw[U];show _=adS.foldl j5 (lD (if n>m then n else m));rw[if_pos Z];rfl
   .rw[if_neg (by rw[decide_eq_false Z];exact Q8)];refine QG (TZ ?_);rw[YK];refine QR ⟨TL F.plain_max_loop _,ih (i+1) _ K (lD (m,Y)) c B YD H.1 H.2 G fun u g X U M=>J u g X ?_ fun a o f C e=>M a o f C (r a o (by simpa using f) e)⟩;rw[U];show _=adS.foldl j5 (lD (if n>m then n else m));rw[if_neg Z];rfl
theorem Cp (m:A.handled=Ld) (g:s.heap.IsList l vs.toArray) (hi:IntsAre vs ns)
  (p:∀h' tk b,b.map (·.1)=ns.foldl j5 Ld->(∀a o,s.heap.get? a=lD o->h'.get? a=lD o)->Q (Kn d b) {s with heap:=h',toks:=tk}):
  wpAny (model prog w) A (call (.builtin "max") [.ref l] [("default",d)]) Q E s:=by
 have i:l<s.heap.objs.size:=by obtain⟨_,e,_⟩:=g;exact Heap.lt_size e
 have q:(toString "max"++toString ".loop":String)= "max.loop":=by decide
 refine We (UR F.plain_max F.entry_max (Yo (F.args_maxd _ _) ?_));refine QG (Yo (show Builtin.Builtins.bindParams "max" ["key","default"] 0 ⟨[],[("default",d)]⟩=pure [Ld,lD d] from rfl) ?_);refine QG (QR ?_);refine QG (U6 g ?_);refine QG (Sf ?_);rw[q];have f:(s.heap.push {cls:= .type "list_iterator",data:= .fields #[.ref l,.int 0 0]}).objs.size=s.heap.objs.size+1:=Heap.size_push _ _;refine QR ⟨TL F.plain_max_loop _,G8 m (Rg i) (by rw[f];exact Nat.succ_ne_self _) (by rw[f];exact Sa (Vj i)) hi 0 _ s.toks Ld 0 rfl (Rp _) ⟨_,Heap.get?_push_of_some _ (Heap.get?_push_size _ rfl),rfl,rfl⟩ ((g.push _).push _) (Heap.get?_push_size _ rfl) fun h' tk b n j=> ?_⟩;refine p h' tk b n fun a o e=> ?_;have h:=Heap.lt_size e;exact j a o (Rg h) (by rw[f];exact Rg (Vj h)) (Heap.get?_push_of_some _ (Heap.get?_push_of_some _ e))
end
end PySem
namespace L10
open PySem PySem.Spec PyProof.Rows L2 L3
def Ky (K:QF) (i:Int):List V->Hp->VK->Prop:=fun xs H Q=>∃(p:QN) (a:List Int),xs=[.ref p]/\Ve K H p (a.map V.int)/\Q (.int ((a.foldl j5 Ld).getD i)) H
theorem AB (E:X.calm=QJ) (C:Gl X "max") (hm:X.mg "max"=Ld) (ha:PA X [l] ta) (g:Oh l=QQ:=by rfl):
  PE X (.Call (.Name "max" p) [l] [⟨lD "default",.Constant (.int i) j p1,p2⟩] pos) (Kf (Ky X.K i) ta):=by
 intro e s n H Q I h;refine S9 (lB I C hm JR (callWith_kw (cA (ha pos e s n H _ I h) fun J o ⟨vs,G,f,v,w⟩=> ?_) (by rw[sL _ _ _ g];rfl) (by rw[sL _ _ _ g];rfl) rfl rfl));obtain⟨a,y,rfl,A,q⟩:=w;obtain⟨u,rfl,r⟩:=jM v;cases r;obtain⟨O,rv,pl,M⟩:=f.list A;refine aeq (abW (aer ?_));have P:=f.tok (o.toks+1);refine Cp (f.ok.hd E) pl.isList (lG rv) fun N L b F B=> ?_;refine⟨.int ((y.foldl j5 Ld).getD i),G,f.kept B,?_,q⟩;rw[<-F];cases b with
 |none=>exact⟨_,rfl⟩
 |some p=>obtain⟨m,t⟩:=p;exact⟨t,rfl⟩
def Ga (i:Int):List D->Option RV
 |[.list ds]=>(nk ds).map fun a=> .fz (.int ((a.foldl j5 Ld).getD i))
 |_=>Ld
theorem Ap {K:QF}:C3 K (Ky K i) (Ga i):=by
 intro O H xs ds rv Q n f e q;unfold Ga at e;split at e
 .rename_i m
  cases f with
  |cons l j=>
   cases j;cases qa:nk m with
   |none=>rw[qa] at e;cases e
   |some b=>rw[qa] at e;cases e;obtain⟨a,vs,rfl,h,g⟩:=B6 l;obtain rfl:=pE g qa;exact⟨a,b,rfl,h.sq,q.at (.int _)⟩
 .cases e
end L10
namespace L10
open PySem L2 L3
section
variable {B O O':cb} {K:QF} {E:XK} {H H' H1 H2:Hp} {X Y T α2:List QN} {Z U Z1 Z2:aV} {σ:L2.St} {ρ:bp} {v:V}
theorem gK {l r:List A} (h:(l++r)[i]? =lD y):l[i]? =lD y\/∃j,i=l.length+j/\r[j]? =lD y:=by
 by_cases hi:i<l.length
 .rw[Q1 hi] at h;exact .inl h
 .rw[Ro (by omega)] at h;exact .inr ⟨i - l.length,by omega,h⟩
theorem Ia {l r:List A} {i:Nat} (h:l[i]? =lD y):(l++r)[i]? =lD y:=by rw[Q1 (QM.mp h).1];exact h
theorem Dv {l r:List A} (h:r[i]? =lD y):(l++r)[l.length+i]? =lD y:=by rw[Ro (by omega),Uc];exact h
theorem FK (g:X.length=Z.length) (h:Lv (X++ps) (Z++cs) b):Lv X Z b\/b∈ps:=by
 obtain⟨i,d,f,e,a⟩:=h;rcases gK f with g1|⟨j,e1,g1⟩
 .rcases gK e with g2|⟨k,e2,g2⟩
  .exact .inl ⟨i,d,g1,g2,a⟩
  .have:=(QM.mp g1).1;omega
 .exact .inr (Ry g1)
theorem S0.Yi (s:Rz B K H X Z) (e:SJ H H') (f:∀p∈ps,H p=Ld):S0 X Z H (X++ps) (Z++cs) H':=
 ⟨fun i a h=>Ia h,fun b u q _=>e b u q,fun b z=>(FK s.len z).imp id fun z=>f b z⟩
theorem Rz.Yi (s:Rz B K H X Z) (e:SJ H H') (f:∀p∈ps,H p=Ld) (m:∀p∈ps,H' p≠Ld) (nd:∀(i j:Nat) (a:QN),ps[i]? =lD a->ps[j]? =lD a->i=j) (t:ps.length=cs.length)
  (new:∀(i:Nat) (a:QN) (c:Cell),ps[i]? =lD a->cs[i]? =lD c->COk (ow B (X++ps) (Z++cs)) K H' (X++ps) a c):Rz B K H' (X++ps) (Z++cs):=by
 have ev:S0 X Z H (X++ps) (Z++cs) H':=S0.Yi s e f;have n:∀b,H b≠Ld->H' b≠Ld:=fun b h z=>h (e.free z);refine⟨by rw[QO,QO,s.len,t],fun i j a g l=> ?_,fun a h=>n a (s.bn a h),fun a h i q=> ?_,fun i a h=> ?_,fun i a d g l=> ?_⟩
 .rcases gK g with g1|⟨i',e1,g1⟩<;>rcases gK l with g2|⟨j',e2,g2⟩
  .exact s.nd i j a g1 g2
  .exact absurd (f a (Ry g2)) (s.al i a g1)
  .exact absurd (f a (Ry g1)) (s.al j a g2)
  .have:=nd i' j' a g1 g2;omega
 .rcases gK q with q|⟨j,_,q⟩
  .exact s.ba a h i q
  .exact s.bn a h (f a (Ry q))
 .rcases gK h with h|⟨j,_,h⟩
  .exact n a (s.al i a h)
  .exact m a (Ry h)
 .have r:=s.len
  rcases gK l with g2|⟨j,e2,g2⟩
  .rcases gK g with g1|⟨k,e1,g1⟩
   .exact(s.X4 i a d g1 g2).ev ev.ev ev.pre fun o q=>e _ _ q
   .have:=(QM.mp g2).1;omega
  .rcases gK g with g1|⟨k,e1,g1⟩
   .have:=(QM.mp g1).1;omega
   .have:k=j:=by omega
    subst this;exact new k a d g1 g2
def C7 (U:aV):Nat->List AV->Option (List AV×List (List D)×List Nat)
 |_,[]=>lD ([],[],[])
 |n,.fz d::r=>match C7 U n r with
  |some (l,cs,js)=>lD (.fz d::l,cs,js)
  |none=>Ld
 |n,.rf i::r=>match sh U (.rf i) with
  |some (.list ds)=>(match C7 U (n+1) r with
   |some (l,cs,js)=>lD (.rf n::l,ds::cs,i::js)
   |none=>Ld)
  |_=>Ld
def Pv (ds:List D):Cell:= .lst (ds.map .fz)
def pz (x:SV) (U Z:aV):RS SV:=match x with
 | .fz d=> .ok (.fz d) Z
 | .rf i=>(match sh U (.rf i) with
  |some (.list ds)=>lu Z (.ow ds)
  |_=> .bad)
 | .tp l=>(match C7 U Z.length l with
  |some (l',cs,js)=>if js.Nodup then .ok (.tp l') (Z++cs.map Pv) else .bad
  |none=> .bad)
theorem vH (h:sh Z (.rf i)=lD (.list ds)):∃xs,Z[i]? =lD (.lst xs)/\aM wR xs=lD ds:=by
 unfold sh at h;dsimp only at h;cases q:Z[i]? with
 |none=>rw[q] at h;cases h
 |some c=>
  rw[q] at h;cases c with
  |lst xs=>
   dsimp only at h;cases q2:aM wR xs with
   |none=>rw[q2] at h;cases h
   |some a=>rw[q2] at h;cases h;exact⟨xs,rfl,q2⟩
  |_=>cases h
theorem lO (s:Rz B K H X Z) (h:sh Z (.rf i)=lD (.list ds)):∃a vs,X[i]? =lD a/\H a=lD (.lst vs)/\L3.SE (ow B X Z) K H vs ds/\ow B X Z a:=by obtain⟨xs,b,f⟩:=vH h;obtain⟨a,ha⟩:=s.at b;obtain⟨vs,j,g⟩:=s.X4 i a _ ha b;exact⟨a,vs,ha,j,ki (dh (R:=Ud (ow B X Z) K H X) (fun v x y r e=>yc r e) g f),.inr ⟨i,_,ha,b,by intro z;cases z⟩⟩
theorem Fa {o:cb} (s:Rz o K H' Y U):∀{n:Nat} {l u:List AV} {cs:List (List D)} {g:List Nat} {xs:List V},C7 U n l=lD (u,cs,g)->Paired (AOk (ow o Y U) K H' Y) xs l->
  ∃ps:List QN,ps.length=g.length/\cs.length=g.length/\(∀(k j:Nat),g[k]? =lD j->∃a ds vs,ps[k]? =lD a/\cs[k]? =lD ds/\Y[j]? =lD a/\H' a=lD (.lst vs)/\L3.SE (ow o Y U) K H' vs ds/\ow o Y U a)/\
   ∀(b:List QN),b.length=n->Paired (AOk (ow o Y U) K H' (b++ps)) xs u
 |_,[],_,_,_,_,e,.nil=>by cases e;exact⟨[],rfl,rfl,fun k j h=>by simp at h,fun b _=> .nil⟩
 |n,.fz d::r,u,cs,g,_,e,.cons h t=>by
  unfold C7 at e;cases q:C7 U n r with
  |none=>rw[q] at e;cases e
  |some p=>obtain⟨J,G,w⟩:=p;rw[q] at e;cases e;obtain⟨ps,F,C,A,y⟩:=Fa s q t;exact⟨ps,F,C,A,fun b f=> .cons h (y b f)⟩
 |n,.rf i::r,u,cs,g,_,e,.cons h t=>by
  unfold C7 at e;cases qs:sh U (.rf i) with
  |none=>rw[qs] at e;cases e
  |some d=>
   rw[qs] at e;cases d with
   |list ds=>
    dsimp only at e;cases q:C7 U (n+1) r with
    |none=>rw[q] at e;cases e
    |some p=>
     obtain⟨J,G,w⟩:=p;rw[q] at e;cases e;obtain⟨ps,F,C,A,y⟩:=Fa s q t;obtain⟨a,vs,ha,L,N,M⟩:=lO s qs;refine⟨a::ps,by rw[Q5,Q5,F],by rw[Q5,Q5,C],fun k j I=> ?_,fun b f=> ?_⟩
     .cases k with
      |zero=>cases I;exact⟨a,ds,vs,rfl,rfl,ha,L,N,M⟩
      |succ k=>exact A k j (by simpa using I)
     .have P:b++a::ps=(b++[a])++ps:=by simp
      obtain⟨Q,m,rfl⟩:=h;rw[ha] at m;cases m;refine .cons ⟨a,by rw[<-f];exact Dv (l:=b) (r:=a::ps) (i:=0) rfl,rfl⟩ ?_;rw[P];exact y (b++[a]) (by rw[QO,f];rfl)
   |_=>cases e
theorem Cv (s:Rz B K H X Z) (w:WS K E B H X Z (PQ B K Q) (pz x U Z)) (e':S0 [] [] H Y U H') (G:Rz (ow B X Z) K H' Y U) (J:Ud (ow (ow B X Z) Y U) K H' Y v x):Q v H':=by
 have C:=fun b o h=>e'.kp b o h fun⟨i,c,q,_⟩=>by simp at q
 have sub:∀b,ow B X Z b->ow (ow B X Z) Y U b:=fun b z=> .inl z;have fr:=fun i a c R h2 h3=>(e'.lv a ⟨i,c,R,h2,h3⟩).elim (fun⟨i,c,q,_⟩=>by simp at q) id;cases x with
 |fz d=>exact w X H' (S0.same C) (s.grow C) v (DV.ev (Ev.sub sub) J)
 |rf i=>
  unfold pz at w;dsimp only at w;cases qs:sh U (.rf i) with
  |none=>rw[qs] at w;exact w.elim
  |some d=>
   rw[qs] at w;cases d with
   |list ds=>obtain⟨a,vs,ha,R,hd,M⟩:=lO G qs;obtain⟨xs,e,_⟩:=vH qs;obtain⟨a',F,rfl⟩:=J;rw[ha] at F;cases F;exact rn s w C (fr i a _ ha e (by intro z;cases z)) R hd sub M
   |_=>exact w.elim
 |tp l=>
  unfold pz at w;dsimp only at w;cases qg:C7 U Z.length l with
  |none=>rw[qg] at w;exact w.elim
  |some p=>
   obtain⟨l',cs,I⟩:=p;rw[qg] at w;dsimp only at w;by_cases hn:I.Nodup
   .rw[if_pos hn] at w
    obtain⟨a,xs,rfl,ht,hl⟩:=J;obtain⟨ps,g1,g2,g3,g4⟩:=Fa G qg hl;have A:∀(k:Nat) (b:QN),ps[k]? =lD b->∃j ds vs,I[k]? =lD j/\cs[k]? =lD ds/\Y[j]? =lD b/\H' b=lD (.lst vs)/\L3.SE (ow (ow B X Z) Y U) K H' vs ds/\ow (ow B X Z) Y U b:=fun k b hb=>by
     have f:k<I.length:=by rw[<-g1];exact(QM.mp hb).1
     obtain⟨b',ds,vs,e,y,u,m,t,g⟩:=g3 k _ (QY f);rw[hb] at e;cases e;exact⟨_,ds,vs,QY f,y,u,m,t,g⟩
    have nB:∀(j:Nat) (b:QN),Y[j]? =lD b->ow (ow B X Z) Y U b->H b=Ld:=fun j b N M=>by
     rcases M with z|⟨i,c,z1,z2,z3⟩
     .exact absurd N (G.ba b z j)
     .exact fr i b c z1 z2 z3
    have fp:∀p∈ps,H p=Ld:=fun p L=>by obtain⟨k,f⟩:=Sz.mp L;obtain⟨j,ds,vs,e,y,u,m,t,g⟩:=A k p f;exact nB j p u g
    have n:∀b,ow B (X++ps) (Z++cs.map Pv) b->ow (ow B X Z) Y U b:=fun b z=>by
     rcases z with z|z
     .exact .inl (.inl z)
     .rcases FK s.len z with z|z
      .exact .inl (.inr z)
      .obtain⟨k,f⟩:=Sz.mp z;obtain⟨j,ds,vs,e,y,u,m,t,g⟩:=A k b f;exact g
    have ev:=S0.Yi (cs:=cs.map Pv) s C fp;refine w (X++ps) H' ev (s.Yi C fp (fun p L=> ?_) (fun i j b hi N=> ?_) (by rw[QI,g1,g2]) fun i b c hi hc=> ?_) (.ref a) ⟨a,xs,rfl,ht.ev (Ev.sub n),Paired.U3 (g4 X s.len) fun _ _ r=>r.ev (Ev.sub n) fun _ _ h=>h⟩
    .obtain⟨k,f⟩:=Sz.mp L;obtain⟨j,ds,vs,e,y,u,m,t,g⟩:=A k p f;rw[m];simp
    .obtain⟨j1,_,_,S,_,p3,_⟩:=A i b hi;obtain⟨j2,_,_,r1,_,r3,_⟩:=A j b N;have:=G.nd j1 j2 b p3 r3;subst this;have P:=(QM.mp S).1;exact(aap P hn).mp (S.trans r1.symm)
    .obtain⟨j,ds,vs,e,y,u,m,t,g⟩:=A i b hi;rw[QW,y] at hc;cases hc;exact⟨vs,m,jW _ _ (t.ev (Ev.sub n))⟩
   .rw[if_neg hn] at w;exact w.elim
def sR (F:iK) (n:Nat) (xs:List SV) (Z:aV):RS SV:=if xs.length=n then(match aM wR xs with
 |some ds=>(match F (ds.map .fz) [] with
  | .ok x U=>pz x U Z
  | .er x _=> .er x Z
  | .bad=> .bad)
 |none=> .bad) else .bad
def sA (F:iK) (n:Nat) (fa:xT):dU:=fun ρ Z=>(fa ρ Z).bind fun xs Z1=>lg (sR F n xs Z1)
theorem GN (h:∀a,B a->H a≠Ld):Rz B K H [] []:=⟨rfl,fun i j a h=>by simp at h,h,fun a h i=>by simp,fun i a h=>by simp at h,fun i a c h=>by simp at h⟩
theorem AI:∀{xs:List SV} {ds:List D},aM wR xs=lD ds->xs=ds.map .fz
 |[],_,e=>by cases e;rfl
 |x::r,ds,e=>by
  unfold aM at e;cases x with
  |fz d=>
   dsimp only[wR] at e;cases q:aM wR r with
   |none=>rw[q] at e;cases e
   |some a=>rw[q] at e;cases e;rw[Q3,<-AI q]
  |rf i=>cases e
  |tp l=>cases e
theorem Ej (s:Rz B K H X Z) (e:TQ (ow B X Z) K H X vs xs) (w:WS K E B H X Z (PQ B K Q) (sR F n xs Z)):dY K n F vs H Q E:=by
 unfold sR at w;by_cases hn:xs.length=n
 .rw[if_pos hn] at w
  refine⟨e.length.trans hn,?_⟩;cases q:aM wR xs with
  |none=>rw[q] at w;exact w.elim
  |some ds=>
   rw[q] at w;dsimp only at w;have l:=AI q;refine⟨ow B X Z,[],[],ds.map .fz,GN s.owd,?_,?_⟩
   .rw[l] at e;exact jW _ _ ((EF e).ev (Ev.sub fun b z=>z.elim id fun⟨i,c,q,_⟩=>by simp at q))
   .cases qF:F (ds.map .fz) [] with
    |bad=>rw[qF] at w;exact w.elim
    |ok x U=>rw[qF] at w;exact fun Y H' f j v a=>Cv s w f j a
    |er x U=>
     rw[qF] at w;intro c dx Y H' f j k;have g:=fun b o h=>f.kp b o h fun⟨i,c,q,_⟩=>by simp at q
     exact w c dx X H' (S0.same g) (s.grow g) (XOk.sub (fun b z=> .inl z) k)
 .rw[if_neg hn] at w;exact w.elim
theorem tt (ha:vT K E ta fa):cY K E (mB (dY K n F) [] E0 ta) (sA F n fa):=by intro B σ H X Z ρ Q s b w;refine ha B σ H X Z ρ _ s b (w.bind.imp fun xs T Z1 H1 g e a vs f=> ?_);rw[RF];exact Ej e f (WS.e0 a)
def OV (F:iK):FN:=fun ds=>match F (ds.map .fz) [] with
 | .ok (.fz d) _=> .ok (.fz d)
 | .ok (.rf i) Z=>(match sh Z (.rf i) with
  |some (.list ds)=> .ok (.ow ds)
  |_=> .bad)
 | .ok (.tp _) _=> .bad
 | .er x _=> .er x
 | .bad=> .bad
theorem MD (h:nY K n (OV F) vs H Q E):dY K n F vs H Q E:=by
 obtain⟨u,B,ds,A,G,w⟩:=h;refine⟨u,B,[],[],ds.map .fz,GN A,jW _ _ (G.ev (Ev.sub fun b z=>z.elim id fun⟨i,c,q,_⟩=>by simp at q)),?_⟩;unfold OV at w;cases qF:F (ds.map .fz) [] with
 |bad=>rw[qF] at w;exact w.elim
 |er x U=>rw[qF] at w;intro c dx Y H' f j k;exact w c dx H' (fun b o h=>f.kp b o h fun⟨i,c,q,_⟩=>by simp at q) (XOk.sub (fun b z=> .inl z) k)
 |ok x U=>
  rw[qF] at w;intro Y H' f j v m;have g:=fun b o h=>f.kp b o h fun⟨i,c,q,_⟩=>by simp at q
  cases x with
  |fz d=>exact w v H' g (DV.ev (Ev.sub fun b z=> .inl z) m)
  |tp l=>exact w.elim
  |rf i=>
   dsimp only at w;cases qs:sh U (.rf i) with
   |none=>rw[qs] at w;exact w.elim
   |some d=>
    rw[qs] at w;cases d with
    |list I=>obtain⟨a,p,ha,C,y,t⟩:=lO j qs;obtain⟨xs,r,_⟩:=vH qs;obtain⟨J,e,rfl⟩:=m;rw[ha] at e;cases e;refine w a p H' g ((f.lv a ⟨i,_,ha,r,by intro z;cases z⟩).elim (fun⟨i,c,q,_⟩=>by simp at q) id) C (y.ev (Ev.sub fun b z=>z.elim (fun z=> .inl z) fun z=>by rw[z];exact t))
    |_=>exact w.elim
end
def bZ (P:Rf) (w:RB) (K:QF) (mg:Str->Option QH) (base:Heap) (a:ul) (k:Nat) (C m:Str) (ps:List Str) (sp:Sp):Prop:=
 ∃Ca f fd,Q9 K Q4 C=lD (lD (.ref Ca))/\Zp K Ca/\Meth K Ca m f/\FnOk P w K mg base a k f fd ps sp/\Binds K fd ps []
def wb (P:Rf) (w:RB) (K:QF) (mg:Str->Option QH) (base:Heap) (a:ul) (k:Nat) (C:Str) (ps:List Str) (sp:Sp):Prop:=
 ∃Ca f fd,Q9 K Q4 C=lD (lD (.ref Ca))/\mg C=lD (.ref Ca)/\Mk K Ca f/\FnOk P w K mg base a k f fd ps sp/\Binds K fd ps []
def tT (K:QF) (C m:Str) (sp:Sp) (E:XK) (b:TE) (t:TA):TE:=fun a H Q=>∃Ca,Q9 K Q4 C=lD (lD (.ref Ca))/\sG Ca m sp [] E b t a H Q
def yV (K:QF) (C:Str) (sp:Sp) (E:XK) (t:TA):TE:=fun a H Q=>∃Ca,Q9 K Q4 C=lD (lD (.ref Ca))/\xt Ca sp [] E t a H Q
section
variable {X:Cx} {Y:ul} {E:XK} {k j:Nat} {C m:Str} {ps:List Str} {sp:Sp} {o e:RM} {es:List RM} {U:TE} {t:TA} {Z pos p:Pos}
theorem Bk (M:bZ X.prog X.w X.K X.mg X.base Y k C m ps sp) (l:gf Y X E) (q:Td j X.A) (r:PE X o U) (ha:PA X (e::es) t) (b:k<=j:=by decide)
  (ef:Rh (e::es) X.env=(QQ,eval e X.env)::Rh es X.env:=by rfl) (G:(backTo pos (Rh es X.env)).any (·.1)=QQ:=by rfl)
  (n:eval (.Call (.Attribute o m Z) (e::es) [] pos) X.env=(do
   let ov<-eval o X.env
   standAt Z.atName
   let(f,first)<-holding [ov] (getMethod ov m pl)
   callWith pos f first (backTo pos (Rh (e::es) X.env)) (backToKw pos (keywordEach [] X.env))):=by rfl):PE X (.Call (.Attribute o m Z) (e::es) [] pos) (tT X.K C m sp E U t):=by
 obtain⟨Ca,f,J,F,B,y,v,u⟩:=M;intro a s i H Q I ⟨L,g,h⟩;rw[F] at g;cases g;exact Jt r B y v (q.mono b) u .nil l ha ef G n a s i H Q I h
theorem Ei (M:bZ X.prog X.w X.K X.mg X.base Y k C m ps sp) (l:gf Y X E) (q:Td j X.A) (r:PE X o U) (b:k<=j:=by decide)
  (n:eval (.Call (.Attribute o m Z) [] [] pos) X.env=(do
   let ov<-eval o X.env
   standAt Z.atName
   let(f,first)<-holding [ov] (getMethod ov m pl)
   callWith pos f first (backTo pos (Rh [] X.env)) (backToKw pos (keywordEach [] X.env))):=by rfl):PE X (.Call (.Attribute o m Z) [] [] pos) (tT X.K C m sp E U qC):=by
 obtain⟨Ca,f,G,F,B,y,v,u⟩:=M;intro a s i H Q I ⟨J,g,h⟩;rw[F] at g;cases g;exact DY r B y v (q.mono b) u .nil l n a s i H Q I h
theorem KM (M:wb X.prog X.w X.K X.mg X.base Y k C ps sp) (l:gf Y X E) (n:Td j X.A) (ha:PA X (e::es) t) (b:k+1<=j:=by decide) (q:Gl X C:=by rfl)
  (G:(C==("__debug__":Str))=QQ:=by decide) (r:Rh (e::es) X.env=(QQ,eval e X.env)::Rh es X.env:=by rfl) (J:(backTo pos (Rh es X.env)).any (·.1)=QQ:=by rfl):
  PE X (.Call (.Name C p) (e::es) [] pos) (yV X.K C sp E t):=by
 obtain⟨Ca,f,L,F,B,y,v,u⟩:=M;intro a s i H Q I ⟨N,g,h⟩;rw[F] at g;cases g;exact IM y v (n.mono b) q B u .nil l ha G r J a s i H Q I h
end
section
variable {K:QF} {E:XK} {C m:Str} {F:iK} {n:Nat} {to:TE} {Y:TA} {fo:dU} {fa:xT} {L:List Str}
theorem FZ (a:gm K C L) (f:cY K E to fo) (ha:vT K E Y fa):cY K E (tT K C m (dY K n F) E to Y) (rh C m F n fo fa):=by obtain⟨Ca,a,_⟩:=a;exact fun B b H α Z ρ Q s e w=>⟨Ca,a,Dy a f ha B b H α Z ρ Q s e w⟩
theorem tR (a:gm K C L) (f:cY K E to fo) (ha:vT K E Y fa):cY K E (tT K C m (dY K n F) E0 to Y) (aO C m F n fo fa):=by obtain⟨Ca,a,_⟩:=a;exact fun B b H α Z ρ Q s e w=>⟨Ca,a,Cm a f ha B b H α Z ρ Q s e w⟩
theorem Lw (a:gm K C L) (ha:vT K E Y fa):cY K E (yV K C (dY K n F) E Y) (FU C F n fa):=by obtain⟨Ca,a,_⟩:=a;exact fun B b H α Z ρ Q s e w=>⟨Ca,a,IH a ha B b H α Z ρ Q s e w⟩
theorem Jf (a:gm K C L) (ha:vT K E Y fa):cY K E (yV K C (dY K n F) E0 Y) (sW C F n fa):=by obtain⟨Ca,a,_⟩:=a;exact fun B b H α Z ρ Q s e w=>⟨Ca,a,Gd a ha B b H α Z ρ Q s e w⟩
end
section
variable {ρ ρ1 ρ2:bp} {Z Z1 Y Z3 Z4:aV} {x y z:SV} {i n:Nat} {d dx X:D} {ds:List D} {b:Bool}
theorem b9 (h:ρ[i]? =lD (lD x)):aw i ρ Z= .ok x Z:=by unfold aw;rw[h]
theorem ah (h:f (cx ρ)= .ok (.fz d,ρ')):ag f ρ Z= .ok (.fz d) Z:=by unfold ag;rw[h]
theorem eD (h:f (cx ρ)= .ok (.ow ds,ρ')):ag f ρ Z= .ok (.rf Z.length) (Z++[.lst (ds.map .fz)]):=by unfold ag;rw[h];rfl
theorem bH (h:f (cx ρ)= .ok (b,ρ')):bQ f ρ Z= .ok b Z:=by unfold bQ;rw[h]
theorem p8 (h:f (cx ρ)= .ok (ds,ρ')):n6 f ρ Z= .ok ds Z:=by unfold n6;rw[h]
theorem gW (g:e ρ Z= .ok (.rf i) Z1) (h:Z1[i]? =lD (.obj C fs)) (a:fs.lookup f=lD x):a9 C f e ρ Z= .ok x Z1:=by unfold a9;rw[g,RS.bind_ok];dsimp only;rw[h];dsimp only;rw[if_pos rfl,a];rfl
theorem dS (ha:fa ρ Z= .ok x Z1) (e:fb ρ Z1= .ok y Y) (a:qu f x y Y= .ok z Z3):mU f fa fb ρ Z= .ok z Z3:=by unfold mU;rw[ha,RS.bind_ok,e,RS.bind_ok,a]
theorem cD (h:f dx X=lD (.fz d)):qu f (.fz dx) (.fz X) Z= .ok (.fz d) Z:=by unfold qu;show((RS.RO Z (f dx X)).bind fun rv Z1=>lu Z1 rv)=_;rw[h];rfl
theorem t8 (e:sh Z x=lD dx) (a:sh Z y=lD X) (h:f dx X=lD (.fz d)):qu f x y Z= .ok (.fz d) Z:=by unfold qu;rw[e,a];show((RS.RO Z (f dx X)).bind fun rv Z1=>lu Z1 rv)=_;rw[h];rfl
theorem mv:∀ds:List D,aM wR (ds.map .fz)=lD ds
 |[]=>rfl
 |d::r=>by rw[Q3];unfold aM;rw[mv r];rfl
theorem iB (h:Z[i]? =lD (.lst (ds.map .fz))):sh Z (.rf i)=lD (.list ds):=by unfold sh;dsimp only;rw[h];dsimp only;rw[mv];rfl
theorem aZ (h:fa ρ Z= .ok (.fz (.bool b)) Z1):bS fa ρ Z= .ok b Z1:=by unfold bS;rw[h];rfl
theorem gj (h:fa ρ Z= .ok QJ Z1) (k:fb ρ Z1=r):lF fa fb ρ Z=r:=by unfold lF;rw[h,RS.bind_ok,if_pos rfl,k]
theorem gc (h:fa ρ Z= .ok QQ Z1):lF fa fb ρ Z= .ok QQ Z1:=by unfold lF;rw[h,RS.bind_ok,if_neg Q8]
theorem qG (h:fa ρ Z= .ok QJ Z1):C9 fa fb ρ Z= .ok QJ Z1:=by unfold C9;rw[h,RS.bind_ok,if_pos rfl]
theorem mz (h:fa ρ Z= .ok QQ Z1) (k:fb ρ Z1=r):C9 fa fb ρ Z=r:=by unfold C9;rw[h,RS.bind_ok,if_neg Q8,k]
theorem pB (h:fa ρ Z= .ok b Z1):vN fa ρ Z= .ok (!b) Z1:=by unfold vN;rw[h];rfl
theorem Cl (h:bS fa ρ Z= .ok QJ Z1) (k:fb ρ Z1=r):B8 fa fb ρ Z=r:=by unfold B8;rw[h,RS.bind_ok,if_pos rfl,k]
theorem B2 (h:bS fa ρ Z= .ok QQ Z1):B8 fa fb ρ Z= .ok (.fz (.bool QQ)) Z1:=by unfold B8;rw[h,RS.bind_ok,if_neg Q8]
theorem G0 (h:c ρ Z= .ok QJ Z1) (k:fa ρ Z1=r):Lg c fa fb ρ Z=r:=by unfold Lg;rw[h,RS.bind_ok,if_pos rfl,k]
theorem HY (h:c ρ Z= .ok QQ Z1) (k:fb ρ Z1=r):Lg c fa fb ρ Z=r:=by unfold Lg;rw[h,RS.bind_ok,if_neg Q8,k]
theorem aQ:aW ρ Z= .ok [] Z:=rfl
theorem au (ha:fa ρ Z= .ok x Z1) (a:fr ρ Z1= .ok xs Y):ao fa fr ρ Z= .ok (x::xs) Y:=by unfold ao;rw[ha,RS.bind_ok,a,RS.bind_ok]
theorem uh (ha:fa ρ Z= .ok (ds.map .fz) Z1) (a:ds.length<=1000):nt fa ρ Z= .ok (.fz (.tuple ds)) Z1:=by unfold nt;rw[ha,RS.bind_ok,QI,if_pos a];unfold Pr;rw[mv];rfl
theorem OX (ha:fa ρ Z= .ok xs Z1) (a:xs.length<=1000) (f:aM wR xs=Ld) (e:aM Pf xs=lD l):nt fa ρ Z= .ok (.tp l) Z1:=by unfold nt;rw[ha,RS.bind_ok,if_pos a];unfold Pr;rw[f];dsimp only;rw[e];rfl
theorem GH (ha:fa ρ Z= .ok xs Z1) (a:aM (sh Z1) xs=lD ds) (h:f ds=lD (.fz d)):G5 f fa ρ Z= .ok (.fz d) Z1:=by unfold G5;rw[ha,RS.bind_ok];unfold Ln;rw[a];show((RS.RO Z1 (f ds)).bind fun rv Z1=>lu Z1 rv)=_;rw[h];rfl
theorem yu (ha:fa ρ Z= .ok (ds.map .fz) Z1) (hn:ds.length=n) (a:F ds= .ok (.fz d)):iL F n fa ρ Z= .ok (.fz d) Z1:=by unfold iL;rw[ha,RS.bind_ok];unfold xZ;rw[QI,if_pos hn,mv];dsimp only;rw[a];rfl
theorem vo (ha:fa ρ Z= .ok (ds.map .fz) Z1) (hn:ds.length=n) (a:F ds= .ok (.ow es)):iL F n fa ρ Z= .ok (.rf Z1.length) (Z1++[.lst (es.map .fz)]):=by unfold iL;rw[ha,RS.bind_ok];unfold xZ;rw[QI,if_pos hn,mv];dsimp only;rw[a];rfl
theorem wZ:lg (RS.ok a Z)= .ok a Z:=rfl
theorem BN (e:fo ρ Z= .ok (.rf i) Z1) (f:Z1[i]? =lD (.obj C fs)) (hm:fs.lookup m=Ld) (ha:fa ρ Z1= .ok xs Y) (hn:(SV.rf i::xs).length=n) (g:F (.rf i::xs) Y= .ok x Z3):aO C m F n fo fa ρ Z= .ok x Z3:=by
 have a:lh Z1 C m (.rf i)=QJ:=by unfold lh;dsimp only;rw[f];dsimp only;rw[hm,decide_eq_true rfl];rfl
 unfold aO;rw[e,RS.bind_ok,if_pos a,ha,RS.bind_ok,if_pos hn,g];rfl
theorem K5 (ha:fa ρ Z= .ok xs Z1) (hn:(SV.rf Z1.length::xs).length=n) (a:F (.rf Z1.length::xs) (Z1++[.obj C []])= .ok (.fz .none) Y):sW C F n fa ρ Z= .ok (.rf Z1.length) Y:=by unfold sW;rw[ha,RS.bind_ok];unfold sI;rw[if_pos hn,a,RS.bind_ok,if_pos (show Cz (.fz .none)=QJ from rfl)];rfl
theorem cX (ha:fa ρ Z= .ok (.fz dx) Z1) (a:fb ρ Z1= .ok (.fz X) Y) (h:bc dx X=lD (.fz d)):ka fa fb ρ Z= .ok (.fz d) Y:=by unfold ka;rw[ha,RS.bind_ok,a,RS.bind_ok];exact cD h
theorem uH (a:fo ρ Z= .ok (.rf i) Z1) (h:Z1[i]? =lD (.lst xs)) (f:fe ρ Z1= .ok x Y) (g:Y[i]? =lD (.lst ys)) (e:ys.length<1000000):rS fo fe ρ Z= .ok (.fz .none) (Y.set i (.lst (ys++[x]))):=by
 have l:g8 Z1 (.rf i)=lD (i,xs):=by unfold g8;dsimp only;rw[h]
 have j:g8 Y (.rf i)=lD (i,ys):=by unfold g8;dsimp only;rw[g]
 unfold rS;rw[a,RS.bind_ok,l];show((fe ρ Z1).bind _)=_;rw[f,RS.bind_ok,j];show(if ys.length<1000000 then _ else _)=_;rw[if_pos e]
theorem lJ (h:Z[i]? =lD (.WH Rj)):gY Z (.rf i)=lD (i,Rj):=by unfold gY;dsimp only;rw[h]
theorem yx (a:fk ρ Z= .ok x Z1) (hd:fd ρ Z1= .ok (.rf i) Y) (f:rV x=lD k) (e:Y[i]? =lD (.WH Rj)):wS neg fk fd ρ Z= .ok (.fz (.bool ((i9 Rj k).isSome !=neg))) Y:=by unfold wS;rw[a,RS.bind_ok,hd,RS.bind_ok,f];show((RS.RO Y (gY Y (.rf i))).bind _)=_;rw[lJ e];rfl
theorem Jo (hd:fd ρ Z= .ok (.rf i) Z1) (a:fk ρ Z1= .ok x Y) (g:rV x=lD k) (f:Y[i]? =lD (.WH Rj)) (e:i9 Rj k=lD y):so fd fk ρ Z= .ok y Y:=by unfold so;rw[hd,RS.bind_ok,a,RS.bind_ok,g];show((RS.RO Y (gY Y (.rf i))).bind _)=_;rw[lJ f];show RS.RO Y (i9 Rj k)=_;rw[e];rfl
theorem Jw (a:fv ρ Z= .ok y Z1) (hd:fd ρ Z1= .ok (.rf i) Y) (f:fk ρ Y= .ok x Z3) (h:rV x=lD k) (g:Z3[i]? =lD (.WH Rj)) (e:Rj.length<1000000):wm fd fk fv ρ Z= .ok (.nx ρ) (Z3.set i (.WH (jw Rj k y))):=by unfold wm;rw[a,RS.bind_ok,hd,RS.bind_ok,f,RS.bind_ok,h];show((RS.RO Z3 (gY Z3 (.rf i))).bind _)=_;rw[lJ g];show(if Rj.length<1000000 then _ else _)=_;rw[if_pos e]
theorem Hi (hd:fd ρ Z= .ok (.rf i) Z1) (h:Z1[i]? =lD (.WH agC)) (a:fk ρ Z1= .ok x Y) (g:rV x=lD k) (f:Y[i]? =lD (.WH Rj)) (e:i9 Rj k=lD y):wX fd fk ρ Z= .ok y (Y.set i (.WH (lz Rj k))):=by unfold wX;rw[hd,RS.bind_ok,lJ h];show((fk ρ Z1).bind _)=_;rw[a,RS.bind_ok,g];show((RS.RO Y (gY Y (.rf i))).bind _)=_;rw[lJ f];show((RS.RO Y (i9 Rj k)).bind _)=_;rw[e];rfl
theorem G3 (hd:fd ρ Z= .ok (.rf i) Z1) (h:Z1[i]? =lD (.WH Rj)):BB fd ρ Z= .ok (.rf Z1.length) (Z1++[.lst (Rj.map (·.2))]):=by unfold BB;rw[hd,RS.bind_ok,lJ h];rfl
theorem IP (hd:fd ρ Z= .ok (.rf i) Z1) (h:Z1[i]? =lD (.WH Rj)) (e:aM zA (Rj.map (·.1))=lD ns) (a:ns.length<64):sr fd ρ Z= .ok (.rf Z1.length) (Z1++[.lst ((j8 ns).map fun i=>SV.fz (.int i))]):=by unfold sr;rw[hd,RS.bind_ok,lJ h];show((RS.RO Z1 (aM zA (Rj.map (·.1)))).bind _)=_;rw[e];show(if ns.length<64 then _ else _)=_;rw[if_pos a]
theorem Jn (a:fe ρ Z= .ok x Z1) (h:tY x=lD ps):wc fe ρ Z= .ok (.rf Z1.length) (Z1++[.WH (lU [] ps)]):=by unfold wc;rw[a,RS.bind_ok,h];rfl
variable {fl:FlS} {r:RS FlS}
theorem cI (h:f ρ Z= .ok (.nx ρ1) Z1) (k:g ρ1 Z1=r):aK f g ρ Z=r:=by unfold aK;rw[h,RS.bind_ok];exact k
theorem mW (h:f ρ Z= .ok (.rt x) Z1):aK f g ρ Z= .ok (.rt x) Z1:=by unfold aK;rw[h];rfl
theorem dJ (h:c ρ Z= .ok QJ Z1) (k:f ρ Z1=r):cB c f g ρ Z=r:=by unfold cB;rw[h,RS.bind_ok,if_pos rfl,k]
theorem dL (h:c ρ Z= .ok QQ Z1) (k:g ρ Z1=r):cB c f g ρ Z=r:=by unfold cB;rw[h,RS.bind_ok,if_neg Q8,k]
theorem g9 (h:f ρ Z= .ok x Z1):iw f ρ Z= .ok (.rt x) Z1:=by unfold iw;rw[h];rfl
theorem hV (h:f ρ Z= .ok x Z1):bU f ρ Z= .ok (.nx ρ) Z1:=by unfold bU;rw[h];rfl
theorem nI (h:f ρ Z= .ok x Z1) (e:ρ.set i (lD x)=ρ1):cF f (gn i) ρ Z= .ok (.nx ρ1) Z1:=by subst e;unfold cF;rw[h];rfl
theorem d8:cC ρ Z= .ok (.nx ρ) Z:=rfl
theorem nK (h:fe ρ Z= .ok x Z1) (a:fo ρ Z1= .ok (.rf i) Y) (j:Y[i]? =lD (.obj C fs)) (g:fs.length<100):fP C f fo fe ρ Z= .ok (.nx ρ) (Y.set i (.obj C (e9 f x fs))):=by
 have e:GC Y C (.rf i)=lD (i,fs):=by unfold GC;dsimp only;rw[j];dsimp only;rw[if_pos rfl]
 unfold fP;rw[h,RS.bind_ok,a,RS.bind_ok,e];show(if fs.length<100 then _ else _)=_;rw[if_pos g]
theorem j4 (h:f ρ Z= .ok x Z1) (k:frz 4 Z1 x=lD (d,Y)):mH f ρ Z= .ok (.fz d) Y:=by unfold mH;rw[h,RS.bind_ok];unfold Nd;rw[k]
theorem iG (e:xs.map lD++QT (N - xs.length) Ld=ρ) (h:g ρ Z= .ok (.rt x) Z1):cW N g xs Z= .ok x Z1:=by subst e;unfold cW;rw[h];rfl
theorem mL (e:xs.map lD++QT (N - xs.length) Ld=ρ) (h:g ρ Z= .ok (.nx ρ1) Z1):cW N g xs Z= .ok (.fz .none) Z1:=by subst e;unfold cW;rw[h];rfl
end
section
variable {ρ ρ1 ρ2:bp} {Z Z1 Y Z3 Z4:aV} {x y z:SV} {i n:Nat} {d dx dy:D} {ds:List D} {b:Bool}
theorem mX (e:α->D) (f:α->SV) (Z:aV) (I:bp->Prop):∀(xs:List α) (ρ:bp) (a:List SV),I ρ->a.length+xs.length<=1000000->(∀x∈xs,∀ρ,I ρ->∃ρ',gt (.fz (e x)) ρ Z= .ok ρ' Z/\ft ρ' Z= .ok QJ Z/\fe ρ' Z= .ok (f x) Z/\I ρ')->eE gt ft fe (xs.map e) ρ Z a= .ok (a++xs.map f) Z
 |[],ρ,a,_,_,_=>by show RS.ok a Z=_;rw[UO,RF]
 |x::r,ρ,a,h0,hl,hs=>by obtain⟨ρ',m,l,j,h⟩:=hs x QS ρ h0;rw[Q5] at hl;show((gt (.fz (e x)) ρ Z).bind _)=_;rw[m,RS.bind_ok,l,RS.bind_ok,if_pos rfl,j,RS.bind_ok,if_pos (by omega),mX e f Z I r ρ' _ h (by rw[QO,Ut];omega) fun y g=>hs y (QV _ g),RD];rfl
theorem AZ (hi:fi ρ Z= .ok ds Z1) (a:eE gt ft fe ds (oi n fj ρ) Z1 []= .ok xs Y):qB n fj fi gt ft fe ρ Z= .ok (.rf Y.length) (Y++[.lst xs]):=by unfold qB;rw[hi,RS.bind_ok,a,wZ,RS.bind_ok]
theorem vQ (m:Nat):∀(ds:List D),oK (frz m) Z (ds.map .fz)=lD (ds,Z)
 |[]=>rfl
 |d::r=>by rw[Q3];unfold oK;rw[show frz m Z (.fz d)=lD (d,Z) by cases m<;>rfl];dsimp only;rw[vQ m r]
theorem kR (h:Z[i]? =lD (.lst (ds.map .fz))):frz 4 Z (.rf i)=lD (.list ds,Z.set i .dead):=by unfold frz;rw[h];dsimp only;rw[vQ]
theorem EY (h:fe ρ Z= .ok (.rf i) Z1) (a:Z1[i]? =lD (.lst (ds.map .fz))):mw fe ρ Z= .ok ds (Z1.set i .dead):=by unfold mw;rw[h,RS.bind_ok,kR a];rfl
def PF (N C:bp->aV->Prop) (T:SV->aV->Prop):RS FlS->Prop
 | .ok (.nx ρ) Z=>N ρ Z
 | .ok (.ct ρ) Z=>C ρ Z
 | .ok (.rt v) Z=>T v Z
 |_=>False
structure UQ (r:RS FlS) (N C:bp->aV->Prop) (T:SV->aV->Prop):Prop where
 out:PF N C T r
variable {f g:fx} {fe:dU} {N C:bp->aV->Prop} {T:SV->aV->Prop}
theorem UQ.eq (e:r=r') (h:UQ r' N C T):UQ r N C T:=by rw[e];exact h
theorem qZ (h:UQ (f ρ Z) (fun r o=>UQ (g r o) N C T) C T):UQ (aK f g ρ Z) N C T:=by
 refine⟨?_⟩;have h:=h.out;unfold aK;cases q:f ρ Z with
 |bad=>rw[q] at h;exact h.elim
 |er x o=>rw[q] at h;exact h.elim
 |ok a o=>
  rw[q] at h;cases a with
  |nx r=>exact(show UQ (g r o) N C T from h).out
  |ct r=>exact h
  |rt v=>exact h
  |bk r=>exact h.elim
theorem wC (h:c ρ Z= .ok b Z1) (a:b=QJ->UQ (f ρ Z1) N C T) (e:b=QQ->UQ (g ρ Z1) N C T):UQ (cB c f g ρ Z) N C T:=by
 unfold cB;rw[h,RS.bind_ok];cases b with
 |true=>exact a rfl
 |false=>exact e rfl
theorem pS (e:c ρ Z= .ok QJ Z1) (a:UQ (f ρ Z1) N C T):UQ (cB c f g ρ Z) N C T:=wC e (fun _=>a) fun h=>by cases h
theorem ez (e:c ρ Z= .ok QQ Z1) (a:UQ (g ρ Z1) N C T):UQ (cB c f g ρ Z) N C T:=wC e (fun h=>by cases h) fun _=>a
theorem M6 (e:fe ρ Z= .ok x Z1) (a:gt x ρ Z1= .ok ρ1 Y) (h:N ρ1 Y):UQ (cF fe gt ρ Z) N C T:=by refine⟨?_⟩;unfold cF;rw[e,RS.bind_ok,a,RS.bind_ok];exact h
theorem mC (a:f ρ Z= .ok (.nx ρ1) Z1) (h:N ρ1 Z1):UQ (f ρ Z) N C T:=⟨by rw[a];exact h⟩
theorem N3 (a:f ρ Z= .ok (.rt x) Z1) (h:T x Z1):UQ (f ρ Z) N C T:=⟨by rw[a];exact h⟩
theorem hW (a:fe ρ Z= .ok x Z1) (h:N ρ Z1):UQ (bU fe ρ Z) N C T:=mC (hV a) h
theorem Nb (a:fe ρ Z= .ok x Z1) (h:T x Z1):UQ (iw fe ρ Z) N C T:=N3 (g9 a) h
theorem IR (h:T (.fz .none) Z):UQ (sQ ρ Z) N C T:=⟨h⟩
theorem kC (h:N ρ Z):UQ (cC ρ Z) N C T:=⟨h⟩
theorem jc {gt:C4} (e:fe ρ Z= .ok x Z1) (a:gt x ρ Z1= .ok ρ1 Y) (h:UQ (g ρ1 Y) N C T):UQ (aK (cF fe gt) g ρ Z) N C T:=qZ (M6 e a h)
theorem AD (a:f ρ Z= .ok (.nx ρ1) Z1) (h:UQ (g ρ1 Z1) N C T):UQ (aK f g ρ Z) N C T:=qZ (mC a h)
theorem kP (a:fe ρ Z= .ok x Z1) (h:UQ (g ρ Z1) N C T):UQ (aK (bU fe) g ρ Z) N C T:=qZ (hW a h)
theorem xP {h a:fx} (m:c ρ Z= .ok b Z1) (j:b=QJ->UQ (aK h g ρ Z1) N C T) (l:b=QQ->UQ (aK a g ρ Z1) N C T):UQ (aK (cB c h a) g ρ Z) N C T:=by
 have e:aK (cB c h a) g ρ Z=if b=QJ then aK h g ρ Z1 else aK a g ρ Z1:=by unfold aK cB;rw[m,RS.bind_ok];cases b<;>rfl
 refine .eq e ?_;cases b with
 |true=>exact j rfl
 |false=>exact l rfl
theorem tP {a l:fx} (j:c ρ Z= .ok QJ Z1) (e:UQ (aK a g ρ Z1) N C T):UQ (aK (cB c a l) g ρ Z) N C T:=xP j (fun _=>e) fun h=>by cases h
theorem rN {l a:fx} (j:c ρ Z= .ok QQ Z1) (e:UQ (aK a g ρ Z1) N C T):UQ (aK (cB c l a) g ρ Z) N C T:=xP j (fun h=>by cases h) fun _=>e
theorem vk (h:T (.fz .none) Z):UQ (aK sQ g ρ Z) N C T:=qZ (IR h)
theorem mS (h:UQ (g ρ Z) N C T):UQ (aK cC g ρ Z) N C T:=qZ (kC h)
theorem K8 {a e:fx} (h:UQ (aK a (aK e g) ρ Z) N C T):UQ (aK (aK a e) g ρ Z) N C T:=by
 refine .eq ?_ h;unfold aK;cases a ρ Z with
 |bad=>rfl
 |er x o=>rfl
 |ok j o=>cases j<;>rfl
theorem Ls (a:xs.map lD++QT (n - xs.length) Ld=ρ) (h:UQ (g ρ Z) (fun _ Z'=>T (.fz .none) Z') (fun _ _=>False) T):∃x Z',cW n g xs Z= .ok x Z'/\T x Z':=by
 have h:=h.out;unfold cW;rw[a];cases q:g ρ Z with
 |bad=>rw[q] at h;exact h.elim
 |er x o=>rw[q] at h;exact h.elim
 |ok e o=>
  rw[q] at h;cases e with
  |nx r=>exact⟨_,_,rfl,h⟩
  |ct r=>exact h.elim
  |rt v=>exact⟨_,_,rfl,h⟩
  |bk r=>exact h.elim
theorem iz {W:aV->Prop} (a:xs.map lD++QT (n - xs.length) Ld=ρ) (h:UQ (g ρ Z) (fun _ Z'=>SV.fz .none=v/\W Z') (fun _ _=>False) (fun r Z'=>r=v/\W Z')):∃Z',cW n g xs Z= .ok v Z'/\W Z':=by obtain⟨x,Z',l,j,e⟩:=Ls (T:=fun r Z'=>r=v/\W Z') a h;exact⟨Z',by rw[l,j],e⟩
end
end L10
namespace L10
open PySem PySem.SeqAt PySem.Spec PySem.W PyProof.Rows L2 L3
end L10
namespace L10
open PySem PyProof.Rows L2 L3
section
variable {B O O':cb} {K:QF} {E:XK} {H H' H1 H2:Hp} {α α' α1 α2:List QN} {Z Z' Z1 Y:aV} {σ:L2.St} {ρ:bp} {v:V}
theorem GL {fa fb:dU} {y z:SV} {i:Nat} {n:Int} {xs:List SV} (ha:fa ρ Z= .ok (.rf i) Z1) (e:fb ρ Z1= .ok y Y) (hn:EE y=lD n) (a:Y[i]? =lD (.lst xs)) (b:lL xs n=lD z):ka fa fb ρ Z= .ok z Y:=by unfold ka;rw[ha,RS.bind_ok,e,RS.bind_ok];unfold KU;simp only[a,hn];show RS.RO Y (lL xs n)=_;rw[b];rfl
end
end L10
namespace L10
open PySem PySem.Spec PyProof.Rows L2 L3
end L10
namespace L10
open PySem PyProof.Rows L2 L3
section
variable {O Z:cb} {K:QF} {H H':Hp} {a b:QN} {xs:List V} {Y:Heap->Prop}
def Pu (a:QN) (O:cb) (H:Hp) (Z:cb) (H':Hp):Prop:=∀b o,b≠a->H b=lD o->¬O b->H' b=lD o/\¬Z b
theorem Xk.evx (i:H a=lD (.ext Y)) (h:Xk O K H b xs) (e:Pu a O H Z H'):Xk Z K H' b xs:=by
 obtain⟨h,k⟩:=h;by_cases z:O b
 .exact⟨UT.same (kA H') (k z),fun _=>k z⟩
 .rcases h with(h|⟨o,h⟩)|h
  .obtain⟨g,f⟩:=e b _ (fun y=>by rw[y,i] at h;cases h) h z;exact⟨.inl (.inl g),fun y=>absurd y f⟩
  .obtain⟨g,f⟩:=e b _ (fun y=>by rw[y,i] at h;cases h) h z;exact⟨.inl (.inr ⟨o,g⟩),fun y=>absurd y f⟩
  .exact⟨.inr h,fun _=> .inr h⟩
theorem VZ.evx (i:H a=lD (.ext Y)) (h:VZ O K H b xs) (e:Pu a O H Z H'):VZ Z K H' b xs:=by
 obtain⟨h,k⟩:=h;by_cases z:O b
 .exact⟨(kA H').tup (k z),fun _=>k z⟩
 .rcases h with(h|⟨o,h⟩)|h
  .obtain⟨g,f⟩:=e b _ (fun y=>by rw[y,i] at h;cases h) h z;exact⟨.inl (.inl g),fun y=>absurd y f⟩
  .obtain⟨g,f⟩:=e b _ (fun y=>by rw[y,i] at h;cases h) h z;exact⟨.inl (.inr ⟨o,g⟩),fun y=>absurd y f⟩
  .exact⟨.inr h,fun _=> .inr h⟩
mutual
theorem DV.evx (f:H a=lD (.ext Y)) (e:Pu a O H Z H'):∀{v:V} {d:D},L3.DV O K H v d->L3.DV Z K H' v d
 |_,_,.TN=> .TN
 |_,_,.bl b=> .bl b
 |_,_,.int i=> .int i
 |_,_,.str x=> .str x
 |_,_,.tup h hs=> .tup (VZ.evx f h e) (SE.evx f e hs)
 |_,_,.lst h hs=> .lst (Xk.evx f h e) (SE.evx f e hs)
theorem SE.evx (f:H a=lD (.ext Y)) (e:Pu a O H Z H'):∀{vs:List V} {ds:List D},L3.SE O K H vs ds->L3.SE Z K H' vs ds
 |_,_,.nil=> .nil
 |_,_,.cons h hs=> .cons (DV.evx f e h) (SE.evx f e hs)
end
end
end L10
namespace PySem
open Sem (wp)
open PyProof.Rows
end PySem
namespace L10
open PySem PySem.Spec PyProof.Rows L2 L3
end L10
namespace L10
open PySem PyProof.Rows L2 L3
end L10
namespace L3
open PySem PySem.Spec PyProof.Rows L2
def OI:List V->Hp->VK->Prop:=fun xs H Q=>∃i:Int,xs=[.int i]/\Q (.int (if i<0 then -i else i)) H
theorem B5 {X:Cx}:Ub X (.builtin "abs") OI:=by intro a s f H xs g Q I r h;obtain⟨i,rfl,q⟩:=h;obtain⟨u,rfl,e⟩:=jM r;obtain⟨t,rfl⟩:=(show∃t,u=QH.int i t from e);exact call_abs_int fun u b=>⟨.int _,H,I.tok b,⟨_,rfl⟩,q⟩
def Cj:List D->Option RV
 |[.int i]=>lD (.fz (.int (if i<0 then -i else i)))
 |_=>Ld
theorem Mc {K:QF}:C3 K OI Cj:=by
 intro O H xs ds rv Q n a e q;unfold Cj at e;split at e
 .cases e
  cases a with
  |cons f b=>cases b;cases f;exact⟨_,rfl,q.at (.int _)⟩
 .cases e
theorem OP:Se "abs"=lD (.builtin "abs"):=boot_abs
end L3
namespace L3
open PySem L2
structure NI (K:QF) (f:QN) (n:Str) (t:Th):Prop where
 a:Q9 K Q4 n=lD (lD (.ref f))
 F:∃fd,T9 K n n t f fd
structure MI (K:QF) (C f:QN) (m q:Str) (t:Th):Prop where
 a:RI K (.ref C) m=lD (lD (.ref f))
 i:TF K (.ref f)=QJ
 F:∃fd,T9 K m q t f fd
structure CI (K:QF) (C:QN) (n:Str) (fs:List Str):Prop where
 a:Q9 K Q4 n=lD (lD (.ref C))
 pg:Ui K C Str.empty=QJ
 hd:UX K C=QJ
 po:Wz K C=QJ
 sa:RI K (.ref C) "__setattr__"=lD (lD (.builtin "object.__setattr__"))
 mm:Xd K C=QJ
 kc:SD K (.ref C)=QJ
 fl:∀x∈fs,U4 K C x
def BA (n q:Str) (t:Th) (ps:List Str):Prop:=∀(kV b e:QH) (f:Option QN) (g ct:QH) (a:List QH),a.length=ps.length->bindArgs (Sr n q (fO t) (cj t) (ay t) .none kV b e f g ct) ⟨a,[]⟩=pure (ps.zip a)
section
variable {P:Rf} {w:RB} {K:QF} {mg:Str->Option QH} {base h:Heap} {f C:QN} {n m q:Str} {t:Th} {ps fs:List Str} {Z k:Nat} {sp sp':Sp}
theorem CI.cls (c:CI K C n fs):Zp K C:=⟨c.pg,c.hd,c.po,c.sa⟩
theorem CI.cf (c:CI K C n fs):L10.gm K n fs:=⟨C,c.a,c.cls,c.fl⟩
theorem NI.cal (i:NI K f n t) (X:K.In h) (G:h.Ns Q4 mg) (b:BA n n t ps) (ok:∀fd,T9 K n n t f fd->FnOk P w K mg base dm Z f fd ps sp):wV P w K mg base Z n ps sp:=
 let⟨fd,z⟩:=i.F;⟨f,fd,ok fd z,z.binds b,z.kp,SN X G i.a⟩
theorem NI.law (i:NI K f "law" t) (X:K.In h) (G:h.Ns Q4 mg) (b:mg "law"=lD (.ref fa)) (l:BA "law" "law" t [x]) (ok:∀base fd,T9 K "law" "law" t f fd->FnOk P w K mg base dm Z f fd [x] sp):∃fd:RZ,(∀(s:QP) (v:QH),Wd s fd ⟨[v],[]⟩ [(x,v)])/\∀base:Heap,K.In base->base.Ns Q4 mg->FnOk P w K mg base dm Z fa fd [x] sp:=by have e:=b.symm.trans (SN X G i.a);cases e;obtain⟨fd,z⟩:=i.F;obtain⟨u,r,kV,g,j,o,p,ct,A,rfl,y,B⟩:=z.ex;exact⟨_,fun s v=> .of_eq (l kV g j o p ct [v] rfl),fun base _ _=>ok base _ z⟩
theorem Bh (a:Td k A):A.units+65<cLine:=by have:=a.un;omega
theorem Fu (p:SO K E u g) (h:Xa X b u):∃t,Xa X b t/\SO K E t g:=⟨_,h,p⟩
theorem Af (p:L10.l7 K E u g) (h:Xa X b u):∃t,Xa X b t/\L10.l7 K E t g:=⟨_,h,p⟩
theorem l9 {x a:Str} {st:Th} {fd:RZ} {N:List Str} {n m:Nat} {g:FS} {i:FN} (F:T9 K x a st f fd) (S:TK N ps (ay st)) (hn:ps.length=n) (hm:N.length=m) (j:i=gv m g)
  (l:∀(b:QH) (A:Rv) (outer:List Env) (s:QP) (H:Hp) (E:XK),N.Nodup->Td k (A.deeper (Ri a (ay st) s.heap.objs.size f b))->(A.deeper (Ri a (ay st) s.heap.objs.size f b)).units+64<cLine->(A.deeper (Ri a (ay st) s.heap.objs.size f b)).units+1<cLine->(A.deeper (Ri a (ay st) s.heap.objs.size f b)).units+65<cLine->
   ∃t,Xa (fT dm P w K mg base N a (ay st) f b A outer s H E).nox (cj st) t/\SO K E t g):FnOk P w K mg base dm (k+1) f fd ps (nY K n i):=
 Qy F S hn hm j fun b A outer s H E e=>l b A outer s H E S.nd e e.units (zY e) (Bh e)
theorem jy {n m:Nat} (F:T9 K x qual st f fd) (S:TK N ps (ay st)) (hn:ps.length=n) (hm:N.length=m) (e:FF=L10.cW m g)
  (i:∀(a:QH) (A:Rv) (outer:List Env) (s:QP) (H:Hp) (E:XK),N.Nodup->Td k (A.deeper (Ri qual (ay st) s.heap.objs.size f a))->(A.deeper (Ri qual (ay st) s.heap.objs.size f a)).units+64<cLine->(A.deeper (Ri qual (ay st) s.heap.objs.size f a)).units+1<cLine->(A.deeper (Ri qual (ay st) s.heap.objs.size f a)).units+65<cLine->
   ∃t,Xa (fT dm P w K mg base N qual (ay st) f a A outer s H E).nox (cj st) t/\L10.l7 K E t g):FnOk P w K mg base dm (k+1) f fd ps (L10.dY K n FF):=
 L10.Qu F S hn hm e fun a A outer s H E b=>i a A outer s H E S.nd b b.units (zY b) (Bh b)
theorem Iw {W:QN} {a:Array QH} {g:Nat} {ss:Array (Option QH)} {xs:List V} {ds:List D} (l:K.lookup W=lD ⟨.type "tuple",Ld,.seq a g,ss⟩) (e:a.size<=QX) (b:Vals xs a.toList) (hd:∀O H,SE O K H xs ds):∀O H,DV O K H (.ref W) (.tuple ds):=fun O H=>
 .tup (xs:=xs) ⟨.inr ⟨_,_,_,l,⟨rfl,rfl⟩,rfl,e,b⟩,fun _=> .inr ⟨_,_,_,l,⟨rfl,rfl⟩,rfl,e,b⟩⟩ (hd O H)
end
end L3
namespace L2
open PySem PySem.Spec PyProof.Rows
end L2
namespace L3
open PySem PySem.Spec PyProof.Rows L2
end L3
namespace L10R
open PySem PySem.Calls PyProof.Rows
theorem Lz:typeLookup (.type "list_reverseiterator") "__len__"=pure Ld:=by rw[Wv,UH];kernel_rfl
theorem Cy:typeLookup (.type "list_reverseiterator") "__length_hint__"=pure (lD (.builtin "list_reverseiterator.__length_hint__")):=by rw[Wv,UH];kernel_rfl
section
variable {prog:Rf} {w:RB} {A:Rv} {E:QH->QP->Prop} {s:QP} {r l:QN} {items:Array QH}
theorem Fd {Q:Bool->QP->Prop} (e:s.TypeIs (.ref r) "list_reverseiterator") (h:Q QQ s):wpAny (model prog w) A (Builtin.List.listLengthHint (.ref r)) Q E s:=by
 unfold Builtin.List.listLengthHint;refine QG (Wu e Lz ?_);dsimp only;refine Ug (fun a=>absurd a (by decide)) (fun _=> ?_);refine Ug (fun a=>absurd a (by decide)) (fun _=> ?_);refine QG (Wu e Cy ?_);generalize hid:("list_reverseiterator.__length_hint__":String)=id0
 wp_delta
 rw[show splitId id0=lD ("list_reverseiterator","__length_hint__") from by subst hid;left];subst hid;refine QG (V4 (T:= "list_reverseiterator") (b:=QJ) e (by rw[afC];kernel_rfl) ?_);refine Ug (fun a=>absurd a (by decide)) (fun _=> ?_);refine Ug (fun _=> ?_) (fun a=>absurd (by left) a);refine Ug (fun a=>absurd a (by left)) (fun _=> ?_);exact QR h
theorem yf {R:WW->QP->Prop} (B:A.handled=Ld) (N:l≠r) (y:s.heap.IsList l items) (j:s.heap.IsRevIter r l ((items.size:Int) - 1)) (S:QN) (h:S≠r) (t:S≠l) (res:QH) (a:Nat) (G:s.heap.get? S=lD {cls:= .type "list",data:= .seq #[] a})
  (H:∀h' tk V6 c',(∀b o,b≠S->b≠r->s.heap.get? b=lD o->h'.get? b=lD o)->h'.get? S=lD {cls:= .type "list",dict:=Ld,data:= .seq V6 c',slots:= #[]}->V5 (fun i v=>items[items.size - 1 - i]? =lD v) V6 items.size->R (.ok (.ret res)) {s with heap:=h',toks:=tk}) (hn:items.size<=QX):
  wpAny (model prog w) A.in1 (Builtin.List.listExtendWith (.ref S) (.ref r) res)
   (fun fin s'=>match fin with| .done f=>R (.ok f) s'| .again c'=>c'.quiet=QJ/\codeAny (model prog w) A c' R s') (fun e s'=>R (.error e) s') s:=by
 have q:S∉[r,l]:=by simp only[Rc,Sm,or_false,not_or];exact⟨h,t⟩
 have W:=Walks.listRev (prog:=prog) (w:=w) (A:=A.in1) B r l N items;have u:0<=items.size/\s.heap.IsRevIter r l ((items.size:Int) - 1 - ((0:Nat):Int))/\s.heap.IsList l items:=⟨Rp _,by rw[show(items.size:Int) - 1 - ((0:Nat):Int)=(items.size:Int) - 1 by omega];exact j,y⟩;have m:codeAny (model prog w) A (.builtin "list.extend.loop" ⟨[.ref S,.ref r,res],[]⟩) R s:=by
  refine codeAny_extend_loopS W.toS hn S q res items.size 0 _ #[] a rfl (Rp _) u G (V5.nil _) fun s' V6 c' hm M L=> ?_;rw[Moved.eq_with hm];refine H s'.heap s'.toks V6 c' (fun b o C n e=>hm.heap b o (fun g=> ?_) e) M L;rcases Rc.mp g with e'|g
  .exact C e'
  .exact n (Q2.mp g)
 unfold Builtin.List.listExtendWith;refine QG (UA (T:= "list_reverseiterator") j.typeIs ?_);have K:Builtin.List.listSameRef (.ref S) (.ref r)=QQ:=by simp[Builtin.List.listSameRef,h]
 have J:(QH.type "list_reverseiterator"==QH.type "list")=QQ:=by left
 have I:(QH.type "list_reverseiterator"==QH.type "tuple")=QQ:=by left
 simp only[K,J,I,Yn,Tr,if_false];refine QG (wpAny_pyIter_revIter j ?_);refine QG (Sx (Fd j.typeIs ?_));refine Ug (fun p=>absurd p (by left)) (fun _=>QR ⟨TL PySem.F.plain_extend_loop _,m⟩)
theorem FR {R:WW->QP->Prop} (y:A.handled=Ld) (G:l≠r) (t:s.heap.IsList l items) (q:s.heap.IsRevIter r l ((items.size:Int) - 1)) (S:QN) (g:S≠r) (h:S≠l) (n:s.heap.get? S=lD {cls:= .type "list",data:= .seq #[]})
  (B:∀h' tk V6 c',(∀b o,b≠S->b≠r->s.heap.get? b=lD o->h'.get? b=lD o)->h'.get? S=lD {cls:= .type "list",dict:=Ld,data:= .seq V6 c',slots:= #[]}->V5 (fun i v=>items[items.size - 1 - i]? =lD v) V6 items.size->R (.ok (.ret .none)) {s with heap:=h',toks:=tk}) (hn:items.size<=QX):
  wpAny (model prog w) A.in1 (Builtin.«list.__init__» ⟨[.ref S,.ref r],[]⟩)
   (fun fin s'=>match fin with| .done f=>R (.ok f) s'| .again c'=>c'.quiet=QJ/\codeAny (model prog w) A c' R s') (fun e s'=>R (.error e) s') s:=by
 show wpAny _ _ (do let old<-Builtin.List.listItems (.ref S);Builtin.List.listUpdate (.ref S) (fun _=> #[]);letGo old.toList.reverse;Builtin.List.listExtendWith (.ref S) (.ref r) .none) _ _ s;refine QG ?_;unfold Builtin.List.listItems;refine QG (Sk n rfl (QR ?_));show wpAny _ _ (updateSeq S (fun _=> #[])>>=fun _=>letGo (#[]:Array QH).toList.reverse>>=fun _=>Builtin.List.listExtendWith (.ref S) (.ref r) .none) _ _ s;refine QG (Ww n rfl ?_);have a:=Heap.get?_update_self (Obj.mapSeq (fun _=>(#[]:Array QH))) n rfl
 have p:∀b o,b≠S->s.heap.get? b=lD o->(s.heap.update S (Obj.mapSeq (fun _=>(#[]:Array QH)))).get? b=lD o:=
  fun b o j e=>(Heap.get?_update_other _ _ (Ne.symm j)).trans e
 refine QG (TZ ?_);refine yf y G (t.at fun o e=>p l o h.symm e) (q.at fun o e=>p r o g.symm e) S g h .none _ a (fun h' tk V6 c' u F C=> ?_) hn;exact B h' tk V6 c' (fun b o j m e=>u b o j m (p b o j e)) F C
theorem aaB {Q:QH->QP->Prop} (q:A.handled=Ld) (C:l≠r) (h:s.heap.IsList l items) (g:s.heap.IsRevIter r l ((items.size:Int) - 1)) (hn:items.size<=QX)
  (u:∀h' tk V6 c',(∀b o,b≠r->s.heap.get? b=lD o->h'.get? b=lD o)->h'.get? s.heap.objs.size=lD {cls:= .type "list",dict:=Ld,data:= .seq V6 c',slots:= #[]}->V5 (fun i v=>items[items.size - 1 - i]? =lD v) V6 items.size->Q (.ref s.heap.objs.size) {s with heap:=h',toks:=tk}):
  wpAny (model prog w) A (call (.type "list") [.ref r]) Q E s:=by
 refine afD (Q₁:=fun obj a=>obj= .ref s.heap.objs.size/\a={s with heap:=s.heap.push {cls:= .type "list",data:= .seq #[]}}) PySem.F.called_list (PySem.F.typeCall_list_1 _) PySem.F.entry_list_init
  (code_list_new _ ⟨rfl,rfl⟩) fun obj a f=> ?_
 obtain⟨rfl,rfl⟩:=f;have j:(s.heap.push {cls:= .type "list",data:= .seq #[]}).get? s.heap.objs.size=lD {cls:= .type "list",data:= .seq #[]}:=Heap.get?_push_size _ rfl;have m:r<s.heap.objs.size:=by obtain⟨o,e,_⟩:=g;exact Heap.lt_size e
 have n:l<s.heap.objs.size:=by obtain⟨o,e,_⟩:=h;exact Heap.lt_size e
 refine⟨⟨_,j,rfl⟩,PySem.F.args_list_init_2 _ _,FR (A:=A.in1) q C (h.at fun o e=>Heap.get?_push_of_some _ e) (g.at fun o e=>Heap.get?_push_of_some _ e) _ (Sa m) (Sa n) j (fun h' tk V6 c' p B y=> ?_) hn⟩;exact⟨rfl,u h' tk V6 c' (fun b o t e=>p b o (Rg (Heap.lt_size e)) t (Heap.get?_push_of_some _ e)) B y⟩
end
end L10R
namespace L2
open PySem PySem.Spec PyProof.Rows
section
variable {X:Cx} {e:RM} {Z:TE} {p q p1 Y:Pos}
def wA (K:QF) (Z:TE):TE:=fun f H Q=>Z f H fun x b=>∃a xs,x= .ref a/\Ve K b a xs/\∀l,b l=Ld->Q (.ref l) (bC b l (.lst xs.reverse))
theorem yw:Se "reversed"=lD (.type "reversed"):=by rfl
theorem C2 {xs:List V} {us:List QH} (h:Vals xs us):Vals xs.reverse us.reverse:=by
 induction h with
 |nil=>exact .nil
 |cons h _ a=>rw[Vb,Vb];exact a.append (.cons h .nil)
theorem Ce {items a:Array QH} (h:V5 (fun i v=>items[items.size - 1 - i]? =lD v) a items.size):a.toList=items.toList.reverse:=by
 apply List.ext_getElem?;intro j;by_cases b:j<items.size
 .have f:j<a.size:=by rw[h.1];exact b
  have e:=h.2 j _ (X2 f);rw[Up,X2 f,List.getElem?_reverse (by rw[RN];exact b),RN,Up];exact e.symm
 .rw[Y1 (by rw[RN,h.1];omega),Y1 (by rw[Wx,RN];omega)]
theorem Fe {a:List (QN×Obj)} {j:St} {H:Hp} {s:QP} {e:QN} {o:HO} (I:Inv X a j H s) (f:mn X a H e) (A:X.s₀.heap.get? e=Ld) (new:ObjOk X.prog X.w (bC H e o) s.heap e o):Inv X a j (bC H e o) s:=by
 obtain⟨ne,t,_,_,v,i⟩:=f;have m:∀b o,X.s₀.heap.get? b=lD o->b≠e:=fun b o z y=>by rw[y,A] at z;cases z
 have g:∀b o,H b=lD o->b≠e:=fun b o z y=>by rw[y,ne] at z;cases z
 have B:=I.base;refine⟨I.ok,I.os,I.bare,⟨B.keep,B.slot,fun b o z n x=> ?_,B.there,fun b xs z=> ?_,fun b o u z=> ?_,fun b ps z=> ?_⟩,I.loc,I.cell,?_,fun x c z=> ?_,fun p l=> ?_,fun b u z=> ?_,I.len⟩
 .rw[az (m b o z)];exact B.free b o z n x
 .have:=B.XU b xs z;rw[az (g b _ this)];exact this
 .have:=B.Xv b o u z;rw[az (g b _ this)];exact this
 .obtain⟨h,y⟩:=B.XX b ps z;exact⟨h,by rw[az (g b _ y)];exact y⟩
 .rw[az t.symm];exact I.free
 .rw[az (v x c z)];exact I.VY x c z
 .obtain⟨z,n,r⟩:=I.pin p l;exact⟨z,by rw[az (i p l)];exact n,r⟩
 .by_cases y:b=e
  .subst y;rw[aH] at z;cases z;exact new
  .rw[az y] at z;exact(I.Sh b u z).V7 (fun _ _ _ y=>y) (fun c y=>by rw[az (g c _ y)];exact y) fun c xs y=>by rw[az (g c _ y)];exact y
theorem yR (hc:X.calm=QJ) (C:Gl X "list") (A:X.mg "list"=Ld) (B:Gl X "reversed") (y:X.mg "reversed"=Ld) (U:PE X e Z)
  (L:Rh [.Call (.Name "reversed" q) [e] [] Y] X.env=[(QQ,eval (.Call (.Name "reversed" q) [e] [] Y) X.env)]:=by rfl) (J:Rh [e] X.env=[(QQ,eval e X.env)]:=by rfl):
  PE X (.Call (.Name "list" p) [.Call (.Name "reversed" q) [e] [] Y] [] p1) (wA X.K Z):=by
 intro g s v H Q I h;refine S9 (lB I C A yj ?_);refine SG ?_ L rfl;rw[L];show wpAny _ _ (spliced ((QQ,eval (.Call (.Name "reversed" q) [e] [] Y) X.env)::[])) _ _ s;refine Calls.spliced_cons ?_;refine S9 (lB I B y yw ?_);refine SG ?_ J rfl;rw[J];show wpAny _ _ (spliced ((QQ,eval e X.env)::[])) _ _ s;refine Calls.spliced_cons (cA (U g s v H _ I h) fun u f ⟨x,t,m,N,a,xs,ex,S,O⟩=>Calls.spliced_nil ?_);subst ex;obtain rfl:u=QH.ref a:=N;obtain⟨i,rv,pl,G⟩:=m.list S;have w:=pl.isList;refine call_reversed_list w (Calls.spliced_nil ?_);have R:a<f.heap.objs.size:=by obtain⟨o,e,_⟩:=w;exact Heap.lt_size e
 have n:Inv X g v t {f with heap:=f.heap.push (revObj a ((i.toArray.size:Int) - 1))}:=m.kept (t':=f.toks) fun b o e=>Heap.get?_push_of_some _ e;have j:i.toArray.size<=QX:=by rw[QZ,<-rv.length];exact G
 refine L10R.aaB (r:=f.heap.objs.size) (l:=a) (items:=i.toArray) (m.ok.hd hc) (Rg R) (w.at fun o e=>Heap.get?_push_of_some _ e) ⟨_,Heap.get?_push_size _ rfl,rfl,rfl⟩ j fun h' F E c T hL hi=> ?_;obtain⟨f0,f1,M,f3,f4,f5⟩:=m.YH (QU f.heap.objs.size) (m.Sh.fresh (QU _));have I3:Inv X g v t {f with heap:=h',toks:=F}:=Inv.turned (s:={f with heap:=f.heap.push (revObj a ((i.toArray.size:Int) - 1))}) (t':=F) (it:=f.heap.objs.size) n (fun b o hb e=>T b o hb e) f0 f1 f3 f4 f5;have ea:=Ce hi;have hn:t (f.heap.push (revObj a ((i.toArray.size:Int) - 1))).objs.size=Ld:=n.Sh.fresh (QU _);refine⟨.ref (f.heap.push (revObj a ((i.toArray.size:Int) - 1))).objs.size,_,?_,rfl,O _ hn⟩;have M:=n.YH (H':=t) (QU (f.heap.push (revObj a ((i.toArray.size:Int) - 1))).objs.size) hn;have P:X.s₀.heap.get? (f.heap.push (revObj a ((i.toArray.size:Int) - 1))).objs.size=Ld:=by
  cases z:X.s₀.heap.get? (f.heap.push (revObj a ((i.toArray.size:Int) - 1))).objs.size with
  |none=>rfl
  |some o=>exact absurd (Rb (Heap.lt_size z) n.sz) (Su _)
 refine Fe I3 M P ⟨by rw[Wx];exact G,E.toList,c,by rw[ea];exact C2 rv,by rw[Y0];exact hL⟩
end
end L2
namespace L10
open PySem PySem.Spec PyProof.Rows L2 L3
end L10
namespace L9
open PySem PySem.Spec PyProof.Rows L2 L3 L4
end L9
namespace L2
open PySem PySem.Spec PyProof.Rows
end L2
namespace L3
open PySem L2
end L3
namespace L10
open PySem PySem.Spec PyProof.Rows L2 L3
section
variable {B O O':cb} {K:QF} {E:XK} {H H' U H2:Hp} {α α' Y α2:List QN} {Z Z' Z1 X:aV} {σ:L2.St} {ρ:bp} {v:V}
def zV (fa:dU):dU:=fun ρ Z=>(fa ρ Z).bind fun x Z1=>(RS.RO Z1 (g8 Z1 x)).bind fun p X=> .ok (.rf X.length) (X++[.lst p.2.reverse])
theorem Nu {a:Type} {R:V->a->Prop} {vs:List V} {xs:List a} (h:Paired R vs xs):Paired R vs.reverse xs.reverse:=by
 induction h with
 |nil=>exact .nil
 |cons h t b=>rw[Vb,Vb];exact uD b h
theorem Ek {h:TE} {fe:dU} (o:cY K E h fe):cY K E (wA K h) (zV fe):=by intro B σ H α Z ρ Q s m w;refine o B σ H α Z ρ _ s m (w.bind.imp fun x Y Z1 U y b f u n=> ?_);obtain⟨⟨i,xs⟩,q,f⟩:=WS.RO f;obtain⟨t,a,vs,ha,rfl,r,p⟩:=u8 b n q;refine⟨a,vs,rfl,Ve.of r,fun l g=> ?_⟩;have j:SJ U (bC U l (.lst vs.reverse)):=ce g _;have e:S0 Y Z1 U (Y++[l]) (Z1++[.lst xs.reverse]) (bC U l (.lst vs.reverse)):=S0.XW b.len j g;exact f _ _ e (b.XW j g (by rw[aH];simp) ⟨_,aH,Paired.U3 (Nu p) fun _ _ d=>d.Tz e⟩) _ ⟨l,by rw[<-b.len];exact aX,rfl⟩
theorem IB {i:Nat} {fa:dU} {xs:List SV} (h:fa ρ Z= .ok (.rf i) Z1) (a:Z1[i]? =lD (.lst xs)):zV fa ρ Z= .ok (.rf Z1.length) (Z1++[.lst xs.reverse]):=by
 have b:g8 Z1 (.rf i)=lD (i,xs):=by unfold g8;dsimp only;rw[a]
 unfold zV;rw[h,RS.bind_ok,b];rfl
theorem MW {i:Nat} {f:D->D->Option RV} {fe:dU} {x y:SV} {z:SV} {Z3:aV} (a:ρ[i]? =lD (lD x)) (e:fe ρ Z= .ok y Z1) (b:qu f x y Z1= .ok z X):Dh i f fe ρ Z= .ok (.nx (ρ.set i (lD z))) X:=by unfold Dh;rw[b9 a,RS.bind_ok,e,RS.bind_ok,b,RS.bind_ok]
end
end L10
namespace L4
open PySem PySem.Spec PyProof.Rows L2 L3
end L4
namespace L3
open PySem L2
end L3
namespace LD
open PySem PyProof.Rows L2 L3
def qD (xs:List (KD×QN×V)) (k:KD):Option V:=(xs.find? fun x=>decide (x.1=k)).map (·.2.2)
def qN (xs:List (KD×QN×V)) (k:KD) (b:QN) (v:V):List (KD×QN×V):=
 if(xs.find? fun x=>decide (x.1=k)).isSome=QJ then xs.map (fun x=>if x.1=k then(x.1,x.2.1,v) else x) else xs++[(k,b,v)]
abbrev RX:List (KD×QN×V)->List (KD×QN×QH)->Prop:=Paired fun x y=>x.1=y.1/\x.2.1=y.2.1/\RelV x.2.2 y.2.2
theorem vi:∀{xs:List (KD×QN×V)} {a:List (KD×QN×QH)},RX xs a->xs.map (·.1)=a.map (·.1)
 |_,_,.nil=>rfl
 |_,_,.cons h t=>by rw[Q3,Q3,h.1,vi t]
theorem zd:∀{xs:List (KD×QN×V)} {a:List (KD×QN×QH)},RX xs a->Vg (qD xs k) ((atKey a k).map (·.2))
 |_,_,.nil=>by unfold qD atKey;exact trivial
 |x::xs,y::a,.cons h t=>by
  unfold qD atKey;rw[RH,RH,h.1];by_cases e:y.1=k
  .rw[decide_eq_true e];exact h.2.2
  .rw[decide_eq_false e];exact zd t
theorem Bz:∀{xs:List (KD×QN×V)} {a:List (KD×QN×QH)},RX xs a->(xs.find? fun x=>decide (x.1=k)).isSome=(atKey a k).isSome
 |_,_,.nil=>rfl
 |x::xs,y::a,.cons h t=>by
  unfold atKey;rw[RH,RH,h.1];by_cases e:y.1=k
  .rw[decide_eq_true e];rfl
  .rw[decide_eq_false e];exact Bz t
theorem Gb (r:RelV v u):∀{xs:List (KD×QN×V)} {a:List (KD×QN×QH)},RX xs a->RX (xs.map fun x=>if x.1=k then(x.1,x.2.1,v) else x) (a.map (putAt k u))
 |_,_,.nil=> .nil
 |x::xs,y::a,.cons h t=>by
  rw[Q3,Q3];refine .cons ?_ (Gb r t);unfold putAt;by_cases e:y.1=k
  .rw[if_pos (h.1.trans e),if_pos e];exact⟨h.1,h.2.1,r⟩
  .rw[if_neg (by rw[h.1];exact e),if_neg e];exact h
theorem AE (h:x.1=y.1/\x.2.1=y.2.1/\RelV x.2.2 y.2.2):∀{xs:List (KD×QN×V)} {a:List (KD×QN×QH)},RX xs a->RX (xs++[x]) (a++[y])
 |_,_,.nil=> .cons h .nil
 |_,_,.cons g t=> .cons g (AE h t)
theorem MS (r:RelV v u) (h:RX xs ys):RX (qN xs k b v) (storedH ys k b u):=by
 unfold qN storedH;rw[Bz h];split
 .exact Gb r h
 .exact AE ⟨rfl,rfl,r⟩ h
theorem we (xs:List (KD×QN×V)) (k:KD) (b:QN) (v:V):(qN xs k b v).length<=xs.length+1:=by
 unfold qN;split
 .rw[QI];omega
 .rw[QO];exact QU _
def wj (K:QF) (H:Hp) (xs:List (KD×QN×V)):Prop:=∀x∈xs,L2.DV K H (.ref x.2.1) x.1.1
section
variable {X:Cx} {Z:List (QN×Obj)} {Y:L2.St} {H:Hp} {s:QP} {a b:QN} {xs:List (KD×QN×V)} {k:KD} {v:V} {u r:QH} {A:Rv} {E:QH->QP->Prop}
theorem KH:∀{xs:List (KD×QN×V)} {es:List Um},Paired (fun(x:KD×QN×V) (e:Um)=>e.hash=rG w x.1.1/\e.key= .ref x.2.1/\RelV x.2.2 e.val) xs es->∃ys,RX xs ys/\es=ys.map (entryOfKey (gU P w))
 |_,_,.nil=>⟨[],.nil,rfl⟩
 |x::_,e::_,.cons ⟨h1,h2,h3⟩ t=>by obtain⟨ys,g,f⟩:=KH t;refine⟨(x.1,x.2.1,e.val)::ys,.cons ⟨rfl,rfl,h3⟩ g,?_⟩;rw[Q3,<-f];obtain⟨i,h,ev⟩:=e;dsimp only at h1 h2;subst h1 h2;rfl
theorem KK:∀{xs:List (KD×QN×V)} {f:List (KD×QN×QH)},RX xs f->Paired (fun(x:KD×QN×V) (e:Um)=>e.hash=rG w x.1.1/\e.key= .ref x.2.1/\RelV x.2.2 e.val) xs (f.map (entryOfKey (gU P w)))
 |_,_,.nil=> .nil
 |_,_,.cons h t=> .cons ⟨by rw[h.1];rfl,by rw[h.2.1];rfl,h.2.2⟩ (KK t)
theorem vL (I:L2.Inv X Z Y H s) (h:L2.DV X.K H (.ref b) k.1):(gU X.prog X.w).is s.heap k b:=L2.DV.reads I h rfl
theorem DU (I:L2.Inv X Z Y H s) (e:H a=lD (DkO a xs)) (j:wj X.K H xs):xs.length<=QX/\(a==S8)=QQ/\∃ys,RX xs ys/\s.heap.DictOfH (gU X.prog X.w) a ys:=by
 obtain⟨⟨⟨z,n,nd⟩,o,L,M,G,F,C,B⟩,_⟩:=(show ObjOk X.prog X.w H s.heap a (DkO a xs) from I.Sh a _ e);obtain⟨ys,h,J⟩:=KH B;refine⟨z,n,ys,h,o,L,M,G,F,C,J,?_,by rw[<-vi h];exact nd⟩;have all:∀{l:List (KD×QN×V)} {m:List (KD×QN×QH)},RX l m->(∀x∈l,L2.DV X.K H (.ref x.2.1) x.1.1)->∀y∈m,(gU X.prog X.w).is s.heap y.1 y.2.1:=by
  intro l m q
  induction q with
  |nil=>intro _ y f;exact nomatch f
  | @cons p q ps qs hq t ih=>
   intro g y f;rcases Rc.mp f with e|f
   .subst e;have:=vL I (g p (QS ..));rw[hq.1,hq.2.1] at this;exact this
   .exact ih (fun x i=>g x (QV _ i)) y f
 exact all h j
theorem DB (z:xs.length<=QX) (hd:(a==S8)=QQ) (e:RX xs ys) (dd:h'.DictOfH (gU P w) a ys):ObjOk P w H' h' a (DkO a xs):=by obtain⟨o,f,g,h,n,m,l,y,j⟩:=dd;refine⟨⟨⟨z,hd,by rw[vi e];exact j⟩,o,f,g,h,n,m,by rw[l];exact KK e⟩,⟨o,h⟩,?_⟩;rintro C B ⟨q,o,f,g,t,p⟩ i;exact⟨q,o,f,g,i o t,p⟩
theorem vd (e:A.units+64<cLine):(gU X.prog X.w).room A.in1:=by show A.in1.units+8<cLine;rw[Rv.in1_units];omega
theorem LS (l:A.units+64<cLine) (I:L2.Inv X Z Y H s) (e:H a=lD (DkO a xs)) (n:wj X.K H xs) (o:L2.DV X.K H (.ref b) k.1) (g:qD xs k=lD v) (h:∀w' s',L2.Inv X Z Y H s'->RelV v w'->Q w' s'):
  wpAny (model X.prog X.w) A (getItem (.ref a) (.ref b)) Q E s:=by
 obtain⟨z,y,t,f,dd⟩:=DU I e n;obtain⟨w',j,q⟩:=Vg.some_of (by rw[<-g];exact zd f);obtain⟨p,m,i⟩:=Yp.mp j;refine abZ (vd l) (vL I o) dd m ?_;rw[i];exact h w' _ (I.tok _) q
theorem Nh (g:A.units+64<cLine) (I:L2.Inv X Z Y H s) (e:H a=lD (DkO a xs)) (i:wj X.K H xs) (l:L2.DV X.K H (.ref b) k.1) (h:∀s',L2.Inv X Z Y H s'->Q (.bool (!(qD xs k).isSome)) s'):
  wpAny (model X.prog X.w) A (SH .NotIn (.ref b) (.ref a)) Q E s:=by
 obtain⟨z,j,m,f,dd⟩:=DU I e i;refine wpAny_notIn_heap (vd g) (vL I l) j dd ?_;have q:=(zd (k:=k) f).V0;rw[WM] at q;rw[<-q];exact h _ (I.tok _)
theorem K7 (m:A.units+64<cLine) (I:L2.Inv X Z Y H s) (e:H a=lD (DkO a xs)) (o:wj X.K H xs) (y:L2.DV X.K H (.ref b) k.1) (rv:RelV v r) (C:xs.length<QX) (h:∀s',L2.Inv X Z Y (bC H a (DkO a (qN xs k b v))) s'->Q () s'):
  wpAny (model X.prog X.w) A (setItem (.ref a) (.ref b) r) Q E s:=by
 obtain⟨z,t,j,f,dd⟩:=DU I e o;have l:j.length<=QX:=by rw[<-Paired.length f];exact z
 have i:(qN xs k b v).length<=QX:=by have:=we xs k b v;omega
 refine ab0 (hsz:=l) (vd m) (vL I y) dd fun B g n=>h _ ?_;have p:∃q,B.get? a=lD q:=let⟨q,_,_,hq,_⟩:=g;⟨q,hq⟩
 exact oS I (by rw[e];exact True.intro) n p (DB i t (MS rv f) g)
theorem HE (I:L2.Inv X Z Y H s) (e:H a=lD (DkO a xs)):s.TypeIs (.ref a) "dict"/\(∀b,QH.ref a= .ref b->∃ob,s.heap.get? b=lD ob/\ob.dict=Ld)/\(a==S8)=QQ:=by obtain⟨⟨⟨z,h,nd⟩,o,l,m,g,f,j,i⟩,_⟩:=(show ObjOk X.prog X.w H s.heap a (DkO a xs) from I.Sh a _ e);refine⟨⟨o,g,f.1⟩,fun b q=> ?_,h⟩;cases q;exact⟨o,g,f.2.1⟩
end
section
variable (K:QF)
def Kc (neg:Bool) (ty g:TE):TE:=fun f H Q=>ty f H fun y h=>g f h fun x e=>∃a b xs k,x= .ref a/\y= .ref b/\e a=lD (DkO a xs)/\wj K e xs/\L2.DV K e (.ref b) k.1/\Q (.bl ((qD xs k).isSome !=neg)) e
def ED (g ty:TE):TE:=fun f H Q=>g f H fun x h=>ty f h fun y e=>∃a b xs k v,x= .ref a/\y= .ref b/\e a=lD (DkO a xs)/\wj K e xs/\L2.DV K e (.ref b) k.1/\qD xs k=lD v/\Q v e
def D3 (h ty g:TE):TS:=fun D e H=>g e H fun v j=>h e j fun x i=>ty e i fun y f=>∃a b xs k,x= .ref a/\y= .ref b/\f a=lD (DkO a xs)/\wj K f xs/\L2.DV K f (.ref b) k.1/\xs.length<QX/\D.nx e (bC f a (DkO a (qN xs k b v)))
def Gr:TE:=fun _ H Q=>∀p,H p=Ld->Q (.ref p) (bC H p (DkO p []))
end
section
variable {X:Cx} {o i e f Z:RM} {T U tx tv:TE} {pos Y apos Ua:Pos}
theorem YB (v:X.A.units+64<cLine) (hi:PE X i U) (w:PE X o T):PC X .NotIn i o (Kc X.K QJ U T):=by intro g s j H Q I h;refine cA (hi g s j H _ I h) fun O m ⟨y,L,G,n,q⟩=>cA (w g m j L _ G q) fun u N ⟨x,J,F,p,a,b,xs,k,C,B,e,r,t,l⟩=> ?_;subst C B;obtain rfl:=p;obtain rfl:=n;rw[Bool.bne_true] at l;exact Nh v F e r t fun M E=>⟨.bl _,J,E,rfl,l⟩
theorem YC (C:X.A.units+64<cLine) (F:PE X o T) (hi:PE X i U) (E:K0 i):PE X (.Subscript o i pos) (ED X.K T U):=by intro j s l H Q I h;refine AJ XJ.lookup E (cA (F j s l H _ I h) fun u n ⟨x,P,N,q,t⟩=>cA (hi j n l P _ N t) fun iv s2 ⟨y,O,m,p,a,b,xs,k,v,J,G,e,w,B,g,r⟩=> ?_);subst J G;obtain rfl:=q;obtain rfl:=p;exact⟨(HE m e).1,LS C m e w B g fun R S M L=>⟨v,O,M,L,r⟩⟩
theorem aaG (F:X.A.units+64<cLine) (J:PE X o T) (hi:PE X i U) (E:PE X Z tv) (G:Sy Z (lD (.Subscript o i Y)) pos.line X.env=pure QQ):
  PS X (.Assign [.Subscript o i Y] Z pos) (D3 X.K T U tv):=by
 intro g s j H D I h;refine aam (cA (E g s j H _ I h) fun r m ⟨v,H1,R,rv,w⟩=>cA (J g m j H1 _ R w) fun u l ⟨x,S,Q,p,t⟩=>cA (hi g l j S _ Q t) fun iv s3 ⟨y,H3,P,n,a,b,xs,k,N,M,e,B,C,L,q⟩=> ?_) G;subst N M;obtain rfl:=p;obtain rfl:=n;exact K7 F P e B C rv L fun s4 O=>⟨j,_,O,q⟩
theorem aaF:PE X (.Dict [] [] pos) Gr:=fun a s b H Q I h=>
 wpAny_Dict_empty ⟨.ref s.heap.objs.size,_,I.laid (fun _ _ q=>Heap.get?_push_of_some _ q) (QU _) (DB (Rp _) (beq_eq_false_iff_ne.mpr (Ne.symm (Rg I.big))) .nil (Heap.DictOfH.new s.heap)),rfl,h _ (I.Sh.fresh (QU _))⟩
end
mutual
def NL:QK->QK->Option Bool
 | .int i,.int j=>lD (decide (i<j))
 | .str x,.str y=>lD (decide (x.cps.toList<y.cps.toList))
 | .tuple xs,.tuple ys=>OW xs ys
 |_,_=>Ld
def OW:List QK->List QK->Option Bool
 |[],[]=>lD QQ
 |[],_::_=>lD QJ
 |_::_,[]=>lD QQ
 |x::xs,y::ys=>if QK.eqv x y=QJ then OW xs ys else NL x y
end
end LD
namespace LD
open PySem PyProof.Rows
structure VE (es:List Um) (Rj:List (Unit×QH)):Prop where
 vals:es.map (·.val)=Rj.map (·.2)
end LD
namespace LD
open PySem PyProof.Rows L2 L3 L10
end LD
namespace L10
open PySem PyProof.Rows L2 L3 LD
def oa:SV->Option D
 | .fz d=>if keyD d=QJ then lD d else Ld
 |_=>Ld
def Qa:SV->Option D
 | .fz d=>lD d
 |_=>Ld
def rT (Z:aV):SV->Option (Nat×List (D×D))
 | .rf i=>match Z[i]? with
  |some (.dd Rj)=>lD (i,Rj)
  |_=>Ld
 |_=>Ld
def ie (Rj:List (D×D)) (k:D):Option D:=(Rj.find? fun a=>QK.eqv a.1 k).map (·.2)
def pU (Rj:List (D×D)) (k v:D):List (D×D):=if(Rj.find? fun a=>QK.eqv a.1 k).isSome=QJ then Rj.map (fun a=>if QK.eqv a.1 k=QJ then(a.1,v) else a) else Rj++[(k,v)]
section
variable {B O O':cb} {K:QF} {E:XK} {H H' R P:Hp} {X α' U S:List QN} {Z Z' Z1 Y:aV} {T:L2.St} {ρ:bp} {v:V} {k:KD}
theorem rb (e:oa x=lD d) (h:Ud O K H X v x):∃(k:KD) (b:QN),k.1=d/\v= .ref b/\L3.DV O K H (.ref b) d:=by
 cases x with
 |fz z=>
  have e:(if keyD z=QJ then lD z else Ld)=lD d:=e;by_cases a:keyD z=QJ
  .rw[if_pos a] at e
   cases e;have h:=h;cases d with
   |tuple xs=>cases h with
    |tup g f=>exact⟨⟨_,a⟩,_,rfl,rfl,.tup g f⟩
   |_=>simp[keyD] at a
  .rw[if_neg a] at e;cases e
 |rf i=>cases e
 |tp l=>cases e
theorem Ds (s:Rz B K H X Z) (b:Ud (ow B X Z) K H X v x) (h:rT Z x=lD (i,Rj)):Z[i]? =lD (.dd Rj)/\∃a xs,X[i]? =lD a/\v= .ref a/\H a=lD (DkO a xs)/\PrD (ow B X Z) K H xs Rj:=by
 cases x with
 |fz d=>cases h
 |tp l=>cases h
 |rf j=>
  obtain⟨a,ha,rfl⟩:=b;unfold rT at h;dsimp only at h;cases q:Z[j]? with
  |none=>rw[q] at h;cases h
  |some c=>
   rw[q] at h;cases c with
   |dd m=>have e:=Ra h;cases e;obtain⟨ws,g,f⟩:=s.X4 i a _ ha q;exact⟨q,a,ws,ha,rfl,g,f⟩
   |_=>cases h
theorem zX:∀{xs:List (KD×QN×V)} {Rj:List (D×D)},PrD O K H xs Rj->wj K H xs
 |_,_,.nil=>fun _ h=>nomatch h
 |x::xs,kv::Rj,.cons h t=>fun y a=>by
  rcases Rc.mp a with e|a
  .subst e;rw[h.1];exact h.2.1.plain
  .exact zX t y a
theorem uA {x:KD×QN×V} {a:D×D} (h:x.1.1=a.1):decide (x.1=k)=QK.eqv a.1 k.1:=by
 rw[<-h]
 haveI:Decidable (x.1.1=k.1):=Classical.propDecidable _
 rw[FB (keyD_kd x.1.2).1 (keyD_kd k.2).1];by_cases e:x.1=k
 .rw[decide_eq_true e,decide_eq_true (congrArg Subtype.val e)]
 .rw[decide_eq_false e,decide_eq_false fun z=>e (Subtype.ext z)]
theorem p9:∀{xs:List (KD×QN×V)} {Rj:List (D×D)},PrD O K H xs Rj->(∀d,ie Rj k.1=lD d->∃v,qD xs k=lD v/\L3.DV O K H v d)/\(ie Rj k.1=Ld->qD xs k=Ld)
 |_,_,.nil=>⟨fun x e=>(by cases e),fun _=>rfl⟩
 |x::xs,kv::Rj,.cons h t=>by
  unfold ie qD;rw[RH,RH,uA h.1];cases QK.eqv kv.1 k.1 with
  |true=>exact⟨fun d e=>⟨x.2.2,rfl,by cases e;exact h.2.2⟩,fun e=>by cases e⟩
  |false=>exact p9 t
theorem yn (h:PrD O K H xs Rj):(qD xs k).isSome=(ie Rj k.1).isSome:=by
 obtain⟨b,a⟩:=p9 h;cases q:ie Rj k.1 with
 |none=>rw[a q];rfl
 |some x=>obtain⟨u,e,_⟩:=b x q;rw[e];rfl
theorem Dx:∀{xs:List (KD×QN×V)} {Rj:List (D×D)},PrD O K H xs Rj->(xs.find? fun x=>decide (x.1=k)).isSome=(Rj.find? fun kv=>QK.eqv kv.1 k.1).isSome
 |_,_,.nil=>rfl
 |x::xs,kv::Rj,.cons h t=>by
  rw[RH,RH,uA h.1];cases QK.eqv kv.1 k.1 with
  |true=>rfl
  |false=>exact Dx t
theorem JK (a:L3.DV O K H v d):∀{xs:List (KD×QN×V)} {Rj:List (D×D)},PrD O K H xs Rj->PrD O K H (xs.map fun x=>if x.1=k then(x.1,x.2.1,v) else x) (Rj.map fun kv=>if QK.eqv kv.1 k.1=QJ then(kv.1,d) else kv)
 |_,_,.nil=> .nil
 |x::xs,kv::Rj,.cons h t=>by
  rw[Q3,Q3];refine .cons ?_ (JK a t);have e:=uA (k:=k) h.1;by_cases z:x.1=k
  .rw[if_pos z,if_pos (by rw[<-e];exact decide_eq_true z)];exact⟨h.1,h.2.1,a⟩
  .rw[if_neg z,if_neg (by rw[<-e,decide_eq_false z];simp)];exact h
theorem xa (r:x.1.1=kv.1/\L3.DV O K H (.ref x.2.1) kv.1/\L3.DV O K H x.2.2 kv.2):∀{xs:List (KD×QN×V)} {Rj:List (D×D)},PrD O K H xs Rj->PrD O K H (xs++[x]) (Rj++[kv])
 |_,_,.nil=> .cons r .nil
 |_,_,.cons g t=> .cons g (xa r t)
theorem D9 (e:L3.DV O K H (.ref b) k.1) (a:L3.DV O K H v d) (h:PrD O K H xs Rj):PrD O K H (qN xs k b v) (pU Rj k.1 d):=by
 unfold qN pU;rw[Dx h];split
 .exact JK a h
 .exact xa ⟨rfl,e,a⟩ h
theorem LV (e:Ev O H O' H') (h:PrD O K H xs Rj):PrD O' K H' xs Rj:=Paired.U3 h fun _ _ q=>⟨q.1,q.2.1.ev e,q.2.2.ev e⟩
def wB (neg:Bool) (a fd:dU):dU:=fun ρ Z=>(a ρ Z).bind fun x Z1=>(fd ρ Z1).bind fun o Y=>(RS.RO Y (oa x)).bind fun k Y=>(RS.RO Y (rT Y o)).bind fun p Y=> .ok (.fz (.bool ((ie p.2 k).isSome !=neg))) Y
theorem xH (r:cY K E tk fk) (hd:cY K E td fd):cY K E (Kc K neg tk td) (wB neg fk fd):=by intro B T H X Z ρ Q s f w;refine r B T H X Z ρ _ s f (w.bind.imp fun x U Z1 R C l j v p=> ?_);refine hd B T R U Z1 ρ _ l (f.Tz C) (j.bind.imp fun o S Y P A g e u q=> ?_);obtain⟨d,n,e⟩:=WS.RO e;obtain⟨⟨i,Rj⟩,m,e⟩:=WS.RO e;obtain⟨_,a,xs,ha,rfl,y,h⟩:=Ds g q m;obtain⟨k,b,rfl,rfl,t⟩:=rb n (p.Tz A);refine⟨a,b,xs,k,rfl,rfl,y,zX h,t.plain,?_⟩;rw[yn h];exact WS.now g e _ (.bl _)
def lQ (fd a:dU):dU:=fun ρ Z=>(fd ρ Z).bind fun o Z1=>(a ρ Z1).bind fun x Y=>(RS.RO Y (oa x)).bind fun k Y=>(RS.RO Y (rT Y o)).bind fun p Y=>(RS.RO Y (ie p.2 k)).bind fun d Y=> .ok (.fz d) Y
theorem sE (hd:cY K E td fd) (C:cY K E tk fk):cY K E (ED K td tk) (lQ fd fk):=by intro B T H X Z ρ Q s f w;refine hd B T H X Z ρ _ s f (w.bind.imp fun o U Z1 R J m j u A=> ?_);refine C B T R U Z1 ρ _ m (f.Tz J) (j.bind.imp fun x S Y P I g e v t=> ?_);obtain⟨d,q,e⟩:=WS.RO e;obtain⟨⟨i,Rj⟩,p,e⟩:=WS.RO e;obtain⟨_,a,xs,ha,rfl,G,h⟩:=Ds g (A.Tz I) p;obtain⟨k,b,rfl,rfl,F⟩:=rb q t;obtain⟨y,n,e⟩:=WS.RO e;obtain⟨z,r,l⟩:=(p9 h).1 y n;exact⟨a,b,xs,k,z,rfl,rfl,G,zX h,F.plain,r,WS.now g e z l⟩
def ur (fd e b:dU):fx:=fun ρ Z=>(b ρ Z).bind fun y Z1=>(fd ρ Z1).bind fun o Y=>(e ρ Y).bind fun x a=>(RS.RO a (oa x)).bind fun k a=>(RS.RO a (rT a o)).bind fun p a=>(RS.RO a (Qa y)).bind fun d a=>if p.2.length<1000000 then .ok (.nx ρ) (a.set p.1 (.dd (pU p.2 k d))) else .bad
theorem Lu (e:Qa x=lD d) (h:Ud O K H X v x):L3.DV O K H v d:=by
 cases x with
 |fz z=>cases e;exact h
 |rf i=>cases e
 |tp l=>cases e
theorem Cs (hd:cY K E td fd) (hk:cY K E tk fk) (hv:cY K E tv fv):l7 K E (D3 K td tk tv) (ur fd fk fv):=by
 intro B T H X Z ρ D s g w;refine hv B T H X Z ρ _ s g (WS.imp (WS.bind w) fun y U Z1 R r L I t m=> ?_);refine hd B T R U Z1 ρ _ L (g.Tz r) (WS.imp (WS.bind I) fun o S Y P q J G u hu=> ?_);refine hk B T P S Y ρ _ J (g.Tz (r.trans q)) (WS.imp (WS.bind G) fun x e h j p A f z hz=> ?_);obtain⟨kd,Q,f⟩:=WS.RO f;obtain⟨⟨i,Rj⟩,N,f⟩:=WS.RO f;obtain⟨d,M,f⟩:=WS.RO f;obtain⟨l,a,xs,ha,rfl,g1,n⟩:=Ds A (hu.Tz p) N;obtain⟨k,b,rfl,rfl,C⟩:=rb Q hz;have hy:=Lu M (m.Tz (q.trans p));dsimp only at f;by_cases hn:Rj.length<1000000
 .rw[if_pos hn] at f;have ev:Ev (ow B e h) j (ow B e h) (bC j a (DkO a (qN xs k b t))):=qL ha l (by intro z;cases z);have F:S0 e h j e (h.set i (.dd (pU Rj k.1 d))) (bC j a (DkO a (qN xs k b t))):=S0.put ha l (by intro z;cases z) (by intro z;cases z);have hl:=Paired.length n;refine⟨a,b,xs,k,rfl,rfl,g1,zX n,C.plain,sV (by omega),?_⟩;exact f e _ F (A.put ha l (by intro z;cases z) (by intro z;cases z) ⟨_,aH,D9 (C.ev ev) (hy.ev ev) (LV ev n)⟩) T ((g.Tz (r.trans (q.trans p))).Tz F)
 .rw[if_neg hn] at f;exact f.elim
def zb:dU:=fun _ Z=> .ok (.rf Z.length) (Z++[.dd []])
theorem Cq:cY K E Gr zb:=by intro B T H X Z ρ Q s b w;exact fun p a=>mx s a w fun _=>⟨[],aH,.nil⟩
end
end L10
namespace PySem
open Sem (wp)
namespace F
end F
end PySem
namespace PySem
open Sem (wp)
open PyProof.Rows
end PySem
namespace L10
open PySem PySem.Spec PyProof.Rows L2 L3
end L10
namespace PySem
open Sem (wp)
open PyProof.Rows
end PySem
namespace L10
open PySem PySem.Spec PyProof.Rows L2 L3 LD
end L10
namespace L10
open PySem PyProof.Rows L2 L3 LD
end L10
namespace L10
open PySem PyProof.Rows L2 L3
end L10
namespace L3
open PySem PyProof.Rows L2
structure Yc (K:QF) (x qual:Str) (st:Th) (f:QN) (fd:RZ) (T:QN) (RG:Array QH):Prop where
 ex:∃(oc:QH) (od:Option QN) (kV doc pm:QH) (an:Option QN) (So ct:QH) (YR:Array (Option QH)),
  fd=Sr x qual (fO st) (cj st) (ay st) (.ref T) kV doc pm an So ct/\K.lookup f=lD ⟨oc,od,.func fd,YR⟩/\UK K So qual=QJ
 kp:SD K (.ref f)=QJ
 tp:∃o n,K.lookup T=lD o/\o.data= .seq RG n
section
variable {P:Rf} {w:RB} {K:QF} {mg:Str->Option QH} {base:Heap} {x Z:Str} {st:Th} {f:QN} {fd:RZ} {T:QN} {RG:Array QH} {N ps:List Str} {k n m:Nat} {sp:Sp} {ds:List QH}
theorem Yc.binds (F:Yc K x Z st f fd T RG)
  (h:∀(kV a b:QH) (e:Option QN) (g ct:QH) (us:List QH),(us++ds).length=ps.length->∃k:Option (Array QH)->Sem (List (Str×QH)),bindArgs (Sr x Z (fO st) (cj st) (ay st) (.ref T) kV a b e g ct) ⟨us,[]⟩=seqItems? (.ref T)>>=k/\k (lD RG)=pure (ps.zip (us++ds))):Binds K fd ps ds:=by
 obtain⟨t,r,kV,a,b,e,g,ct,v,rfl,u,y⟩:=F.ex;obtain⟨o,n,l,j⟩:=F.tp;intro s us X i;obtain⟨k,q,p⟩:=h kV a b e g ct us i;exact Wd.of_defaults (fd:=Sr x Z (fO st) (cj st) (ay st) (.ref T) kV a b e g ct) rfl (X _ _ l) j q p
def xD (P:Rf) (w:RB) (K:QF) (mg:Str->Option QH) (base:Heap) (a:ul) (k:Nat) (x:Str) (ps:List Str) (dvs:List V) (sp:Sp):Prop:=
 ∃(f:QN) (fd:RZ) (ds:List QH),FnOk P w K mg base a k f fd ps sp/\Binds K fd ps ds/\Vals dvs ds/\SD K (.ref f)=QJ/\mg x=lD (.ref f)
theorem z8 (C:xD X.prog X.w X.K X.mg X.base CX k x ps dvs sp) (i:Td j X.A) (h:gf CX X E) (ha:PA X (e::es) t) (a:k<=j:=by decide) (l:Gl X x:=by rfl)
  (q:(x==("__debug__":Str))=QQ:=by decide) (o:Rh (e::es) X.env=(QQ,eval e X.env)::Rh es X.env:=by rfl) (r:(backTo pos (Rh es X.env)).any (·.1)=QQ:=by rfl):
  PE X (.Call (.Name x p) (e::es) [] pos) (mB sp dvs E t):=by
 obtain⟨f,fd,ds,F,b,v,g,m⟩:=C;exact zN F (i.mono a) l m g b v h ha q o r
end
end L3
namespace L10
open PySem PyProof.Rows L2 L3
section
variable {P:Rf} {w:RB} {K:QF} {mg:Str->Option QH} {base:Heap} {x Z:Str} {st:Th} {f:QN} {fd:RZ} {T:QN} {RG:Array QH} {N ps:List Str} {k n m:Nat} {g:fx} {FF:iK}
theorem N2 (F:Yc K x Z st f fd T RG) (S:TK N ps (ay st)) (hn:ps.length=n) (hm:N.length=m) (o:FF=cW m g)
  (r:∀(a:QH) (A:Rv) (outer:List Env) (s:QP) (H:Hp) (E:XK),Td k (A.deeper (Ri Z (ay st) s.heap.objs.size f a))->
   ∃t,Xa (fT (L4.lw P w) P w K mg base N Z (ay st) f a A outer s H E) (cj st) t/\l7 K E t g):FnOk P w K mg base (L4.lw P w) (k+1) f fd ps (dY K n FF):=by
 subst o hm;obtain⟨y,v,kV,p,u,B,a,ct,C,rfl,e,q⟩:=F.ex;refine DC e q S (fun vs H Q E h=>h.1.trans hn.symm) fun A outer s H vs Q E l b=> ?_;obtain⟨t,i,j⟩:=r a A outer s H E l;exact⟨t,i,yz (xs:=[]) j b⟩
end
section
variable {K:QF} {E:XK}
def Bj (F:iK) (n:Nat) (es:List D) (fa:xT):dU:=fun ρ Z=>(fa ρ Z).bind fun xs a=>if(xs++es.map SV.fz).length=n then F (xs++es.map SV.fz) a else .bad
theorem yp:∀{vs ws:List V} {xs b:List SV},TQ O K H α vs xs->TQ O K H α ws b->TQ O K H α (vs++ws) (xs++b)
 |_,_,_,_,.nil,h=>h
 |_,_,_,_,.cons a t,h=> .cons a (yp t h)
theorem CG (hd:∀O H,L3.SE O K H dvs es) (ha:vT K E ta fa):cY K E (mB (dY K n F) dvs E ta) (Bj F n es fa):=by
 intro B g H α Z ρ Q s h w;refine ha B g H α Z ρ _ s h (w.bind.imp fun xs a f l m i e vs j=> ?_);by_cases hn:(xs++es.map SV.fz).length=n
 .rw[if_pos hn] at e;have b:=yp j (jW (ow B a f) a (hd (ow B a f) l));exact⟨b.length.trans hn,B,a,f,_,i,b,e⟩
 .rw[if_neg hn] at e;exact e.elim
end
end L10
namespace L4
open PySem PyProof.Rows L2 L3
end L4
namespace L2
open PySem PySem.Spec PyProof.Rows
end L2
namespace L4
open PySem PyProof.Rows L2 L3
end L4
namespace L2
open PySem PySem.Spec PyProof.Rows
end L2
namespace L10
open PySem PyProof.Rows L2 L3
end L10
namespace L3
open PySem L2
section
variable {P:Rf} {w:RB} {K:QF} {mg:Str->Option QH} {base h:Heap} {f C:QN} {n m q:Str} {t:Th} {ps fs:List Str} {Z k:Nat} {sp sp':Sp} {Y:ul}
theorem MI.adM (i:MI K C f m q t) (c:CI K C n fs) (b:BA m q t ps) (ok:∀fd,T9 K m q t f fd->FnOk P w K mg base Y Z f fd ps sp):L10.bZ P w K mg base Y Z n m ps sp:=
 let⟨fd,z⟩:=i.F;⟨C,f,fd,c.a,c.cls,⟨i.a,i.i,z.kp⟩,ok fd z,z.binds b⟩
theorem MI.agy (i:MI K C f "__init__" q t) (c:CI K C n fs) (X:K.In h) (G:h.Ns Q4 mg) (b:BA "__init__" q t ps) (ok:∀fd,T9 K "__init__" q t f fd->FnOk P w K mg base Y Z f fd ps sp):L10.wb P w K mg base Y Z n ps sp:=
 let⟨fd,z⟩:=i.F;⟨C,f,fd,c.a,SN X G c.a,⟨c.mm,i.a,i.i,c.kc⟩,ok fd z,z.binds b⟩
end
end L3
namespace L10
open PySem PySem.Spec PyProof.Rows L2 L3
section
variable {B O O':cb} {K:QF} {E:XK} {H H' X H2:Hp} {α α' Y α2:List QN} {Z Z' Z1 Z2:aV} {σ:L2.St} {ρ:bp} {v:V}
def pi (c f:Str) (fe:dU):fx:=fun ρ Z=>(fe ρ Z).bind fun x Z1=>match x with
 | .fz d=>if L9.Oq d=QJ then .er ⟨c,[(f,d)]⟩ Z1 else .bad
 |_=> .bad
theorem yF (M:Q9 K Q4 c=lD (lD (.ref C))) (L:cY K E te fe):l7 K E (L9.AY C (L9.tS C f) E (mO te qC)) (pi c f fe):=by
 intro B σ H α Z ρ D s G w;refine L B σ H α Z ρ _ s G (WS.imp (WS.bind w) fun x Y Z1 X Q I a v h=> ?_)
 match x,h,a with
 | .fz d,h,a=>
  have h:=h;dsimp only at a;by_cases r:L9.Oq d=QJ
  .rw[if_pos r] at a
   have j:L9.Pk v/\∀(O':cb) (H':Hp),L3.DV O' K H' v d:=by
    cases d with
    |none=>cases h;exact⟨.inl rfl,fun _ _=> .TN⟩
    |int i=>cases h;exact⟨.inr ⟨i,rfl,of_decide_eq_true r⟩,fun _ _=> .int i⟩
    |_=>cases r
   refine⟨by show 1<=QX;decide,fun e hn=>⟨e,v,rfl,j.1,aH,fun p F g=>⟨rfl,p,?_,?_⟩⟩⟩
   .rw[az (Ne.symm g),aH]
   .have u:X p=Ld:=by rw[az g] at F;exact F
    have A:SJ X (L9.NN (bC (bC (bC X e (.ext (L9.HB C e))) e (.ext (L9.Oz C e p))) p (.xd [(f,v)])) e):=fun b o z=>by
     have t:b≠e:=fun y=>by rw[y,hn] at z;cases z
     have J:b≠p:=fun y=>by rw[y,u] at z;cases z
     rw[L9.jo t,az J,az t,az t];exact z
    refine a (.ref C) (lD p) Y _ (S0.same A) (I.grow A) ⟨⟨C,rfl,M⟩,[(f,v)],fun P q=> ?_,fun m N l=>⟨(fun z=>nomatch z),?_⟩⟩
    .cases q;rw[L9.jo g,aH]
    .have n:(match m==f with|true=>lD d|false=>Tq m [])=lD N:=l
     cases hb:m==f with
     |true=>rw[hb] at n;cases n;refine⟨v,?_,j.2 _ _⟩;show(match m==f with|true=>lD v|false=>Tq m [])=lD v;rw[hb]
     |false=>rw[hb] at n;cases n
  .rw[if_neg r] at a;exact a.elim
 | .rf _,_,a=>exact a.elim
 | .tp _,_,a=>exact a.elim
end
end L10
namespace L10
open PySem L2 L3
section
variable {P:Rf} {w:RB} {K:QF} {mg:Str->Option QH} {base:Heap} {x Z:Str} {st:Th} {f:QN} {fd:RZ} {T:QN} {RG:Array QH} {N ps:List Str} {k n m:Nat} {g:fx} {Y:iK}
theorem GJ (F:T9 K x Z st f fd) (S:TK N ps (ay st)) (hn:ps.length=n) (hm:N.length=m) (e:Y=cW m g)
  (h:∀(a:QH) (A:Rv) (outer:List Env) (s:QP) (H:Hp) (E:XK),N.Nodup->Td k (A.deeper (Ri Z (ay st) s.heap.objs.size f a))->(A.deeper (Ri Z (ay st) s.heap.objs.size f a)).units+64<cLine->(A.deeper (Ri Z (ay st) s.heap.objs.size f a)).units+1<cLine->(A.deeper (Ri Z (ay st) s.heap.objs.size f a)).units+65<cLine->
   ∃t,Xa (fT (L4.lw P w) P w K mg base N Z (ay st) f a A outer s H E) (cj st) t/\l7 K E t g):FnOk P w K mg base (L4.lw P w) (k+1) f fd ps (dY K n Y):=
 PD F S hn hm e fun a A outer s H E b=>h a A outer s H E S.nd b b.units (zY b) (Bh b)
theorem LH (F:Yc K x Z st f fd T RG) (S:TK N ps (ay st)) (hn:ps.length=n) (hm:N.length=m) (e:Y=cW m g)
  (h:∀(a:QH) (A:Rv) (outer:List Env) (s:QP) (H:Hp) (E:XK),N.Nodup->Td k (A.deeper (Ri Z (ay st) s.heap.objs.size f a))->(A.deeper (Ri Z (ay st) s.heap.objs.size f a)).units+64<cLine->(A.deeper (Ri Z (ay st) s.heap.objs.size f a)).units+1<cLine->(A.deeper (Ri Z (ay st) s.heap.objs.size f a)).units+65<cLine->
   ∃t,Xa (fT (L4.lw P w) P w K mg base N Z (ay st) f a A outer s H E) (cj st) t/\l7 K E t g):FnOk P w K mg base (L4.lw P w) (k+1) f fd ps (dY K n Y):=
 N2 F S hn hm e fun a A outer s H E b=>h a A outer s H E S.nd b b.units (zY b) (Bh b)
end
end L10
namespace LD
open PySem PySem.Spec PyProof.Rows L2
end LD
namespace L10
open PySem PyProof.Rows L2 L3 LD
end L10
namespace L3
open PySem L2
theorem MO {X:Cx} {P:Rf} {w:RB}:gf (L4.lw P w) X E0:=fun _ _ _ _ _ _ _ ⟨_,_,_,_,_,_,_,_,_,_,_,_,_,_,_,_,h⟩=>h.elim
end L3
namespace L10
open PySem PyProof.Rows L2 L3
section
variable {B O O':cb} {K:QF} {E:XK} {H H' H1 H2:Hp} {α α' Y α2:List QN} {Z Z' Z1 Z2:aV} {σ:L2.St} {ρ:bp} {v:V}
def uc (F:iK) (n:Nat) (es:List D) (fa:xT):dU:=fun ρ Z=>(fa ρ Z).bind fun xs Z1=>if(xs++es.map SV.fz).length=n then lg (F (xs++es.map SV.fz) Z1) else .bad
theorem zx (hd:∀O H,L3.SE O K H dvs es) (ha:vT K E ta fa):cY K E (mB (dY K n F) dvs E0 ta) (uc F n es fa):=by
 intro B σ H α Z ρ Q s e w;refine ha B σ H α Z ρ _ s e (w.bind.imp fun xs Y Z1 H1 h f b vs g=> ?_);by_cases hn:(xs++es.map SV.fz).length=n
 .rw[if_pos hn] at b;have a:=yp g (jW (ow B Y Z1) Y (hd (ow B Y Z1) H1));exact⟨a.length.trans hn,B,Y,Z1,_,f,a,WS.e0 b⟩
 .rw[if_neg hn] at b;exact b.elim
end
end L10
namespace L4
open PySem PySem.Spec PySem.W PyProof.Rows L2 L3
end L4
namespace L10
open PySem L2 L3
def P5 (T:A->aV->Prop) (X:Xc->Prop):RS A->Prop
 | .ok a Z=>T a Z
 | .er x _=>X x
 | .bad=>False
structure Out {A:Type} (r:RS A) (T:A->aV->Prop) (X:Xc->Prop):Prop where
 out:P5 T X r
section
variable {A B:Type} {r r':RS A} {T T':A->aV->Prop} {U:B->aV->Prop} {X:Xc->Prop} {Z:aV}
theorem Out.eq (e:r=r') (h:Out r' T X):Out r T X:=by rw[e];exact h
theorem Out.imp (h:Out r T X) (k:∀a Z,T a Z->T' a Z):Out r T' X:=by
 refine⟨?_⟩;have h:=h.out;cases r with
 |bad=>exact h
 |er x o=>exact h
 |ok a o=>exact k a o h
theorem Out.bind (h:Out r (fun a o=>Out (f a o) U X) X):Out (r.bind f) U X:=by
 refine⟨?_⟩;have h:=h.out;cases r with
 |bad=>exact h
 |er x o=>exact h
 |ok a o=>exact(show Out (f a o) U X from h).out
theorem Out.all (h:Out r T fun _=>False):∃a o,r= .ok a o/\T a o:=by
 have h:=h.out;cases r with
 |bad=>exact h.elim
 |er x o=>exact h.elim
 |ok a o=>exact⟨a,o,rfl,h⟩
end
section
variable {ρ ρ1 Y:bp} {Z Z1 U Z3:aV} {x y z:SV} {i n:Nat} {d:D} {ds:List D} {b:Bool} {f g:fx} {fe:dU} {N:bp->aV->Prop} {T:SV->aV->Prop} {X:Xc->Prop}
def Qv (N:bp->aV->Prop) (T:SV->aV->Prop):FlS->aV->Prop
 | .nx ρ,Z=>N ρ Z
 | .rt v,Z=>T v Z
 |_,_=>False
abbrev lZ (r:RS FlS) (N:bp->aV->Prop) (T:SV->aV->Prop) (X:Xc->Prop):Prop:=Out r (Qv N T) X
theorem jN (h:lZ (f ρ Z) (fun r o=>lZ (g r o) N T X) T X):lZ (aK f g ρ Z) N T X:=by
 refine Out.bind (h.imp fun a o k=> ?_);cases a with
 |nx r=>exact k
 |rt v=>exact⟨k⟩
 |ct r=>exact k.elim
 |bk r=>exact k.elim
theorem Eu (a:f ρ Z= .ok (.nx ρ1) Z1) (h:lZ (g ρ1 Z1) N T X):lZ (aK f g ρ Z) N T X:=jN (.eq a ⟨h⟩)
theorem zn (a:f ρ Z= .ok (.nx ρ1) Z1) (h:N ρ1 Z1):lZ (f ρ Z) N T X:= .eq a ⟨h⟩
theorem cG (e:fe ρ Z= .ok x Z1) (a:gt x ρ Z1= .ok ρ1 U) (h:lZ (g ρ1 U) N T X):lZ (aK (cF fe gt) g ρ Z) N T X:=Eu (by unfold cF;rw[e,RS.bind_ok,a,RS.bind_ok]) h
theorem Ii (a:Out (fe ρ Z) (fun x Z1=>lZ (g (ρ.set i (lD x)) Z1) N T X) X):lZ (aK (cF fe (gn i)) g ρ Z) N T X:=jN (Out.bind (a.imp fun _ _ k=>⟨k⟩))
theorem Fh (a:Out (fe ρ Z) (fun _ Z1=>N ρ Z1) X):lZ (bU fe ρ Z) N T X:=Out.bind (a.imp fun _ _ k=>⟨k⟩)
theorem MJ {j a:fx} (e:c ρ Z= .ok QQ Z1) (h:lZ (aK a g ρ Z1) N T X):lZ (aK (cB c j a) g ρ Z) N T X:=by refine .eq ?_ h;unfold aK cB;rw[e,RS.bind_ok,if_neg Q8]
theorem Iq (h:lZ (g ρ Z) N T X):lZ (aK cC g ρ Z) N T X:=jN ⟨h⟩
theorem uy (a:fe ρ Z= .ok x Z1) (h:T x Z1):lZ (iw fe ρ Z) N T X:= .eq (g9 a) ⟨h⟩
theorem uf (a:xs.map lD++QT (n - xs.length) Ld=ρ) (h:lZ (g ρ Z) (fun _ Z'=>T (.fz .none) Z') T X):Out (cW n g xs Z) T X:=by
 unfold cW;rw[a];refine Out.bind (h.imp fun e o k=> ?_);cases e with
 |nx r=>exact⟨k⟩
 |rt v=>exact⟨k⟩
 |ct r=>exact k.elim
 |bk r=>exact k.elim
theorem Dk {b:fx} (I:Nat->bp->aV->Prop) (M:Nat) (j:∀n ρ Z,I n ρ Z->(∃Z1,c ρ Z= .ok QQ Z1/\N ρ Z1)\/(n<M/\∃Z1,c ρ Z= .ok QJ Z1/\lZ (b ρ Z1) (I (n+1)) T X)):∀(m n:Nat) (ρ:bp) (Z:aV),M - n<m->I n ρ Z->lZ (rZ c b m ρ Z) N T X
 |0,n,_,_,h,_=>by omega
 |m+1,n,ρ,Z,h,h0=>by
  rcases j n ρ Z h0 with⟨Z1,e,p⟩|⟨hn,Z1,e,l⟩
  .refine .eq (show rZ c b (m+1) ρ Z= .ok (.nx ρ) Z1 from ?_) ⟨p⟩;show((c ρ Z).bind _)=_;rw[e,RS.bind_ok,if_neg Q8]
  .refine .eq (show rZ c b (m+1) ρ Z=(b ρ Z1).bind fun a U=>match a with
    | .nx Y=>rZ c b m Y U
    | .ct Y=>rZ c b m Y U
    | .bk Y=> .ok (.nx Y) U
    | .rt x=> .ok (.rt x) U from ?_) (Out.bind (l.imp fun a o k=> ?_))
   .show((c ρ Z).bind _)=_
    rw[e,RS.bind_ok,if_pos rfl]
    all_goals (cases b ρ Z1 with
     |bad=>rfl
     |er x o=>rfl
     |ok a o=>cases a<;>rfl)
   .cases a with
    |nx r=>exact Dk I M j m (n+1) r o (by omega) k
    |rt v=>exact⟨k⟩
    |ct r=>exact k.elim
    |bk r=>exact k.elim
theorem v8 {b:fx} (I:Nat->bp->aV->Prop) (M:Nat) (h:M<1000000) (e:I 0 ρ Z) (a:∀n ρ Z,I n ρ Z->(∃Z1,c ρ Z= .ok QQ Z1/\N ρ Z1)\/(n<M/\∃Z1,c ρ Z= .ok QJ Z1/\lZ (b ρ Z1) (I (n+1)) T X)):lZ (uz c b ρ Z) N T X:=Dk I M a 1000000 0 ρ Z (by omega) e
theorem BL {b:fx} (I:Nat->bp->aV->Prop):∀(ds:List D) (k:Nat) (ρ:bp) (Z:aV),I k ρ Z->(∀i d ρ Z,ds[i]? =lD d->I (k+i) ρ Z->∃ρ1 Z1,gt (.fz d) ρ Z= .ok ρ1 Z1/\lZ (b ρ1 Z1) (I (k+i+1)) T X)->lZ (jQ gt b ds ρ Z) (I (k+ds.length)) T X
 |[],k,ρ,Z,h0,_=>⟨h0⟩
 |d::r,k,ρ,Z,h0,hs=>by
  obtain⟨ρ1,Z1,w,u⟩:=hs 0 d ρ Z rfl h0;have l:∀a p,I (k+1) a p->lZ (jQ gt b r a p) (I (k+(r.length+1))) T X:=fun a p h=>by
   have e:k+(r.length+1)=k+1+r.length:=by omega
   rw[e];refine BL I r (k+1) a p h fun i A j q hi t=> ?_;have e:k+1+i=k+(i+1):=by omega
   rw[e] at t⊢;exact hs (i+1) A j q (by simpa using hi) t
  refine .eq (show jQ gt b (d::r) ρ Z=(b ρ1 Z1).bind fun m U=>match m with
   | .nx Y=>jQ gt b r Y U
   | .ct Y=>jQ gt b r Y U
   | .bk Y=> .ok (.nx Y) U
   | .rt x=> .ok (.rt x) U from ?_) (Out.bind (u.imp fun m o k=> ?_))
  .show((gt (.fz d) ρ Z).bind _)=_
   rw[w,RS.bind_ok]
   all_goals (cases b ρ1 Z1 with
    |bad=>rfl
    |er x o=>rfl
    |ok m o=>cases m<;>rfl)
  .cases m with
   |nx r=>exact l _ _ k
   |rt v=>exact⟨k⟩
   |ct r=>exact k.elim
   |bk r=>exact k.elim
theorem Ee {b:fx} (I:Nat->bp->aV->Prop) (hi:fi ρ Z= .ok ds Z1) (h:I 0 ρ Z1) (a:∀i d ρ Z,ds[i]? =lD d->I i ρ Z->∃ρ1 Z1,gt (.fz d) ρ Z= .ok ρ1 Z1/\lZ (b ρ1 Z1) (I (i+1)) T X) (e:∀ρ' Z',I ds.length ρ' Z'->N ρ' Z'):lZ (xx fi gt b ρ Z) N T X:=by
 have:=BL I ds 0 ρ Z1 h (by simpa using a);rw[Uk] at this;refine .eq ?_ (this.imp fun j o k=> ?_)
 .unfold xx;rw[hi,RS.bind_ok]
 .cases j with
  |nx r=>exact e _ _ k
  |rt v=>exact k
  |ct r=>exact k.elim
  |bk r=>exact k.elim
theorem BU (a:fo ρ Z= .ok (.rf i) Z1) (h:Z1[i]? =lD (.obj C fs)) (hm:fs.lookup m=Ld) (ha:fa ρ Z1= .ok xs U) (hn:(SV.rf i::xs).length=n):rh C m F n fo fa ρ Z=F (.rf i::xs) U:=by
 have e:lh Z1 C m (.rf i)=QJ:=by unfold lh;dsimp only;rw[h];dsimp only;rw[hm];simp
 unfold rh;rw[a,RS.bind_ok,if_pos e,ha,RS.bind_ok,if_pos hn]
theorem Nl (ha:fa ρ Z= .ok xs Z1) (hn:(SV.rf Z1.length::xs).length=n):FU C F n fa ρ Z=(F (.rf Z1.length::xs) (Z1++[.obj C []])).bind fun r U=>(if Cz r=QJ then .ok (.rf Z1.length) U else .bad):=by unfold FU;rw[ha,RS.bind_ok];unfold sI;rw[if_pos hn]
theorem ES (ha:fa ρ Z= .ok xs Z1) (hn:(xs++es.map SV.fz).length=n):Bj F n es fa ρ Z=F (xs++es.map SV.fz) Z1:=by unfold Bj;rw[ha,RS.bind_ok,if_pos hn]
theorem Cg (ha:fa ρ Z= .ok xs Z1) (hn:(xs++es.map SV.fz).length=n) (a:F (xs++es.map SV.fz) Z1= .ok x U):uc F n es fa ρ Z= .ok x U:=by unfold uc;rw[ha,RS.bind_ok,if_pos hn,a];rfl
theorem CA {c f:Str} (h:fe ρ Z= .ok (.fz d) Z1) (hd:L9.Oq d=QJ):pi c f fe ρ Z= .er ⟨c,[(f,d)]⟩ Z1:=by unfold pi;rw[h,RS.bind_ok];dsimp only;rw[if_pos hd]
end
end L10
namespace L3
open PySem PyProof.Rows L2
section
variable {P:Rf} {w:RB} {K:QF} {mg:Str->Option QH} {base h:Heap} {f T:QN} {n:Str} {t:Th} {ps:List Str} {Y:Nat} {sp:Sp} {U:ul} {Z:Array QH}
theorem NI.afR (i:NI K f n t) (X:K.In h) (G:h.Ns Q4 mg) (b:BA n n t ps) (ok:∀fd,T9 K n n t f fd->FnOk P w K mg base U Y f fd ps sp):xD P w K mg base U Y n ps [] sp:=
 let⟨fd,z⟩:=i.F;⟨f,fd,[],ok fd z,z.binds b,.nil,z.kp,SN X G i.a⟩
structure DI (K:QF) (f T:QN) (n:Str) (t:Th) (Z:Array QH):Prop where
 a:Q9 K Q4 n=lD (lD (.ref f))
 F:∃fd,Yc K n n t f fd T Z
theorem Hr {x a:Str} {st:Th} {p:QH} {o:Option QN} {kV b g:QH} {i:Option QN} {e ct:QH} {v:Array (Option QH)} {m:QH} {l:Option QN} {k:Nat} {j:Array (Option QH)}
  (q:K.lookup f=lD ⟨p,o,.func (Sr x a (fO st) (cj st) (ay st) (.ref T) kV b g i e ct),v⟩) (u:UK K e a=QJ) (r:SD K (.ref f)=QJ) (lt:K.lookup T=lD ⟨m,l,.seq Z k,j⟩):Yc K x a st f (Sr x a (fO st) (cj st) (ay st) (.ref T) kV b g i e ct) T Z:=
 ⟨⟨_,_,_,_,_,_,_,_,_,rfl,q,u⟩,r,_,_,lt,rfl⟩
def BD (n:Str) (t:Th) (T:QN) (Z:Array QH) (ps:List Str) (ds:List QH):Prop:=∀(kV b e:QH) (g:Option QN) (i ct:QH) (a:List QH),(a++ds).length=ps.length->∃k:Option (Array QH)->Sem (List (Str×QH)),bindArgs (Sr n n (fO t) (cj t) (ay t) (.ref T) kV b e g i ct) ⟨a,[]⟩=seqItems? (.ref T)>>=k/\k (lD Z)=pure (ps.zip (a++ds))
theorem DI.cal {ds:List QH} {dvs:List V} (i:DI K f T n t Z) (X:K.In h) (G:h.Ns Q4 mg) (e:BD n t T Z ps ds) (b:Vals dvs ds) (ok:∀fd,Yc K n n t f fd T Z->FnOk P w K mg base U Y f fd ps sp):xD P w K mg base U Y n ps dvs sp:=
 let⟨fd,z⟩:=i.F;⟨f,fd,ds,ok fd z,z.binds e,b,z.kp,SN X G i.a⟩
end
structure Tp (P:Rf) (w:RB) (K:QF) (mg:Str->Option QH) (base h:Heap):Prop where
 X:K.In h
 G:h.Ns Q4 mg
section
variable {P:Rf} {w:RB} {K:QF} {mg:Str->Option QH} {base h:Heap} {f C T:QN} {n m q:Str} {t:Th} {ps fs:List Str} {Z:Nat} {sp:Sp} {Y:ul} {U:Array QH}
theorem NI.c (i:NI K f n t) (W:Tp P w K mg base h) (ok:∀fd,T9 K n n t f fd->FnOk P w K mg base dm Z f fd ps sp) (a:BA n n t ps:=by fail "ba"):wV P w K mg base Z n ps sp:=i.cal W.X W.G a ok
theorem NI.d (i:NI K f n t) (W:Tp P w K mg base h) (ok:∀fd,T9 K n n t f fd->FnOk P w K mg base Y Z f fd ps sp) (a:BA n n t ps:=by fail "ba"):xD P w K mg base Y Z n ps [] sp:=i.afR W.X W.G a ok
theorem MI.mt (i:MI K C f m q t) (c:CI K C n fs) (W:Tp P w K mg base h) (ok:∀fd,T9 K m q t f fd->FnOk P w K mg base Y Z f fd ps sp) (a:BA m q t ps:=by fail "ba"):L10.bZ P w K mg base Y Z n m ps sp:=i.adM c a ok
theorem MI.k (i:MI K C f "__init__" q t) (c:CI K C n fs) (W:Tp P w K mg base h) (ok:∀fd,T9 K "__init__" q t f fd->FnOk P w K mg base Y Z f fd ps sp) (a:BA "__init__" q t ps:=by fail "ba"):L10.wb P w K mg base Y Z n ps sp:=i.agy c W.X W.G a ok
theorem DI.c {ds:List QH} {dvs:List V} (i:DI K f T n t U) (W:Tp P w K mg base h) (a:Vals dvs ds) (ok:∀fd,Yc K n n t f fd T U->FnOk P w K mg base Y Z f fd ps sp) (b:BD n t T U ps ds:=by fail "bd"):xD P w K mg base Y Z n ps dvs sp:=i.cal W.X W.G b a ok
end
end L3
namespace LD
open PySem PySem.Spec PyProof.Rows L2 L3
end LD
namespace L10
open PySem PyProof.Rows L2 L3 LD
end L10
namespace LD
open PySem PySem.Spec PyProof.Rows L2 L3
end LD
namespace L10
open PySem PyProof.Rows L2 L3 LD
end L10
namespace L4
open PySem PySem.Spec PyProof.Rows L2 L3
end L4
namespace L10
open PySem PySem.Spec PyProof.Rows L2 L3
def NP:D->D->Option RV:=fI fun i j=>i+j
def KI:R2:=Ql fun i j=>i+j
theorem Hq {X:Cx}:PN X .Add KI:=Mf
theorem Cr {K:QF}:k8 K KI NP:=by intro O H x y dx f rv Q n b a e q;obtain⟨i,j,rfl,rfl,rfl⟩:=xO e;cases b;cases a;exact⟨_,_,rfl,rfl,q.at (.int _)⟩
end L10
namespace M02
inductive Con (E:List (Nat×Nat)) (r0:Nat):Bool->Nat->Prop
 |base:Con E r0 QJ r0
 |col {r c:Nat}:Con E r0 QJ r->(r,c)∈E->Con E r0 QQ c
 |row {r c:Nat}:Con E r0 QQ c->(r,c)∈E->Con E r0 QJ r
def has (n c:Nat):Prop:=n.testBit c=QJ
structure Nums (E:List (Nat×Nat)) (R C:Nat) (ns:List Nat):Prop where
 len:ns.length=R
 lt:∀n∈ns,n<2^C
 own:∀r c,(r,c)∈E->has (ns.getD r 0) c
 snd:∀r,r<R->∀c,has (ns.getD r 0) c->Con E r QQ c
abbrev NF:=List Nat×List Nat
structure ajp (E:List (Nat×Nat)) (r0:Nat) (s:NF):Prop where
 a:r0∈s.1
 n:∀x∈s.1,Con E r0 QJ x
 f:∀x∈s.2,Con E r0 QQ x
 d:s.2.Nodup
 d1:s.1.Nodup
structure ai5 (R C:Nat) (ss:List (Nat×Nat)):Prop where
 r1:1<=R
 r6:R<=6
 c1:1<=C
 c6:C<=6
 l1:1<=ss.length
 l12:ss.length<=12
 nd:ss.Nodup
 inn:∀s∈ss,s.1<R/\s.2<C
end M02
local macro_rules(kind:=«term{_}»)|`({$a})=>`(L3.ae $a L3.aq)|`({$a,$b})=>`(L3.ae $a (L3.ae $b L3.aq))|`({$a,$b,$c})=>`(L3.ae $a (L3.ae $b (L3.ae $c L3.aq)))|`({$a,$b,$c,$d})=>`(L3.ae $a (L3.ae $b (L3.ae $c (L3.ae $d L3.aq))))
local macro_rules|`(~~~$n)=>`(L3.pC (.int $n))
namespace STP
open PySem L2 L3
def lV:FS:=(bx (lY (aF (aC kr (aC bc (aa 0) (~~~2)) (pC .none))) (dQ (aC bc (aa 0) (~~~2))) eO)
 (dQ (gq (L10.Ga 0) {eP 2 [] (kg (aC bc (aa 0) (~~~0))) (gT 2 (C6 (gN 0) (C6 (gN 1) M4))) (aF (aC cV (aC bc (aa 1) (~~~0)) (pC (.str "layer")))) (aC bc (aa 1) (~~~1))})))
def dI:FN:=gv 1 lV
def j9:FS:=(bx (cL (aC bc (aC bc (aC bc (aa 0) (~~~1)) (aa 1)) (aa 2)) (gN 3))
 (bx (lY (aF (aC cV (aC bc (aa 3) (~~~0)) (pC (.str "below")))) (dQ (aC bc (aC bc (aC bc (aa 0) (~~~1)) (~~~0)) (aa 2))) eO)
 (dQ (aa 3))))
def ib:FN:=gv 4 j9
def io:FS:=(dQ (eP 1 [1] (kg (aC bc (aa 0) (~~~2))) (gN 0) (aF (gq Fr {eP 1 [0] (kg (aa 1)) (gN 0) eX (aC Hj (aa 0) (aC bc (aa 1) (~~~0)))})) (aa 0)))
def bE:FN:=gv 2 io
def jh:FS:=(bx (oz (kg (aC bc (aa 0) (~~~2))) (gN 2) (lY (aF (aC cV (gq uE {aC bc (aa 2) (~~~0)}) (gq L9.gI {aa 1}))) (dQ (aC cH (dC {bj {pC (.str "letter"),aC bc (aa 2) (~~~1)}}) (aC gl (dC {pC (.tuple [(.str "none")])}) (aC se (gq gh {aa 1}) (~~~1))))) eO))
 (dQ (eP 1 [0] (kg (aa 1)) (gN 0) eX (aC bc (aC bc (aC bc (aa 1) (~~~1)) (~~~0)) (aa 0)))))
def fM:FN:=gv 3 jh
open L10
def jx:fx:=(aK (fP "Hand" "bed" (aw 0) (ag (aa 1)))
 (aK (fP "Hand" "acts" (aw 0) (wc (ag (aC bc (aa 2) (~~~0)))))
 (aK (fP "Hand" "waiting" (aw 0) (ag (aC bc (aa 2) (~~~1))))
 (aK (fP "Hand" "once" (aw 0) (ag (aC bc (aa 2) (~~~2))))
 (fP "Hand" "sent" (aw 0) (ag (dC aq)))))))
def dM:iK:=cW 3 jx
def lf:fx:=(iw (nt (ao (G5 iX (ao (qB 1 [0] (mw (sr (a9 "Hand" "acts" (aw 0)))) (gn 0) pI (nt (ao (ag (aa 0)) (ao (so (a9 "Hand" "acts" (aw 1)) (ag (aa 0))) aW)))) aW)) (ao (a9 "Hand" "waiting" (aw 0)) (ao (a9 "Hand" "once" (aw 0)) aW)))))
def bB:iK:=cW 1 lf
def ia:fx:=(iw (B8 (mU kr (a9 "Hand" "waiting" (aw 0)) (ag (pC .none))) (mU Hj (ag (aa 1)) (ka (a9 "Hand" "waiting" (aw 0)) (ag (~~~0))))))
def bV:iK:=cW 2 ia
def jE:fx:=(iw (mU Hj (ag (aa 1)) (BB (a9 "Hand" "acts" (aw 0)))))
def bL:iK:=cW 2 jE
def jF:fx:=(aK (cB (lF (bQ (aF (aC cV (aC bc (aa 2) (~~~0)) (pC (.str "letter"))))) (vN (bS (aO "Hand" "has_act" bL 2 (aw 0) (ao (ag (aa 2)) aW))))) (bU (rS (a9 "Hand" "sent" (aw 0)) (ag (bj {aC bc (aa 2) (~~~1),pC (.str "down")})))) cC)
 (wm (a9 "Hand" "acts" (aw 0)) (ag (aa 1)) (ag (aa 2))))
def bq:iK:=cW 3 jF
def nz:fx:=(aK (cF (wX (a9 "Hand" "acts" (aw 0)) (ag (aa 1))) (gn 2))
 (cB (lF (bQ (aF (aC cV (aC bc (aa 2) (~~~0)) (pC (.str "letter"))))) (vN (bS (aO "Hand" "has_act" bL 2 (aw 0) (ao (ag (aa 2)) aW))))) (bU (rS (a9 "Hand" "sent" (aw 0)) (ag (bj {aC bc (aa 2) (~~~1),pC (.str "up")})))) cC))
def iY:iK:=cW 3 nz
def k9:fx:=(aK (cF (ka (a9 "Hand" "waiting" (aw 0)) (ag (~~~0))) (gn 1))
 (aK (cF (ka (a9 "Hand" "waiting" (aw 0)) (ag (~~~2))) (gn 2))
 (aK (fP "Hand" "waiting" (aw 0) (ag (pC .none)))
 (aK (cF (mH (Lg (bQ (aF (aC cV (aa 2) (pC (.tuple [(.str "chord")]))))) (iL fM 2 (ao (a9 "Hand" "bed" (aw 0)) (ao (ag (aa 1)) aW))) (ag (dC {bj {pC (.str "layer"),aC bc (aa 2) (~~~2)}})))) (gn 3))
 (xx (n6 (Gv {aa 1,aa 3})) (N8 2 (tQ (gn 4) (tQ (gn 5) Gg))) (bU (aO "Hand" "come" bq 3 (aw 0) (ao (ag (aa 4)) (ao (ag (aa 5)) aW)))))))))
def bT:iK:=cW 6 k9
def fC:fx:=(aK (cB (C9 (bS (mU ut (a9 "Hand" "waiting" (aw 0)) (ag (pC .none)))) (C9 (bS (mU xE (ka (a9 "Hand" "waiting" (aw 0)) (ag (~~~2))) (ag (pC (.tuple [(.str "chord")]))))) (bS (mU xE (iL dI 1 (ao (aO "Hand" "stands" bB 1 (aw 0) aW) aW)) (ag (~~~0)))))) (iw (ag (pC (.bool QQ)))) cC)
 (iw (mU xE (iL bE 2 (ao (a9 "Hand" "bed" (aw 0)) (ao (mU cH (ka (a9 "Hand" "waiting" (aw 0)) (ag (~~~0))) (ag (bj {aa 1}))) aW))) (ag (dC aq)))))
def dE:iK:=cW 2 fC
def gG:fx:=(aK (cF (mU cH (ka (a9 "Hand" "waiting" (aw 0)) (ag (~~~0))) (ag (bj {aa 1}))) (gn 2))
 (aK (fP "Hand" "waiting" (aw 0) (nt (ao (ag (aa 2)) (ao (ka (a9 "Hand" "waiting" (aw 0)) (ag (~~~1))) (ao (ag (pC (.tuple [(.str "chord")]))) aW)))))
 (cB (bS (mU cV (qB 1 [] (mw (iL bE 2 (ao (a9 "Hand" "bed" (aw 0)) (ao (ag (aa 2)) aW)))) (gn 0) pI (ag (gq gh {aC bc (aa 0) (~~~0)}))) (ag (dC {gq gh {aa 2}})))) (bU (aO "Hand" "decide" bT 1 (aw 0) aW)) cC)))
def c9:iK:=cW 3 gG
def jb:fx:=(aK (cF (iL dI 1 (ao (aO "Hand" "stands" bB 1 (aw 0) aW) aW)) (gn 2))
 (aK (cF (iL ib 3 (ao (a9 "Hand" "bed" (aw 0)) (ao (ag (aa 2)) (ao (ag (aa 1)) aW)))) (gn 3))
 (aK (cF (ag (aC bc (aa 3) (~~~0))) (gn 4))
 (aK (cB (bQ (aF (aC ox (aa 4) (bj {pC (.str "layer"),pC (.str "once")})))) (fP "Hand" "once" (aw 0) (ag (pC .none))) cC)
 (cB (bQ (aF (aC cV (aa 4) (pC (.str "tap"))))) (fP "Hand" "waiting" (aw 0) (ag (bj {bj {aa 1},~~~0,aa 3}))) (cB (lF (bQ (aF (aC cV (aa 4) (pC (.str "letter"))))) (lF (bQ (aF (aC cV (aa 2) (~~~0)))) (bS (mU xE (iL bE 2 (ao (a9 "Hand" "bed" (aw 0)) (ao (ag (bj {aa 1})) aW))) (ag (dC aq)))))) (fP "Hand" "waiting" (aw 0) (ag (bj {bj {aa 1},~~~0,pC (.tuple [(.str "chord")])}))) (cB (bQ (aF (aC cV (aa 4) (pC (.str "once"))))) (aK (bU (aO "Hand" "come" bq 3 (aw 0) (ao (ag (aa 1)) (ao (ag (pC (.tuple [(.str "none")]))) aW))))
 (fP "Hand" "once" (aw 0) (ag (aC bc (aa 3) (~~~1))))) (bU (aO "Hand" "come" bq 3 (aw 0) (ao (ag (aa 1)) (ao (ag (aa 3)) aW)))))))))))
def fG:iK:=cW 5 jb
def jq:fx:=(aK (cB (C9 (bS (wS QQ (ag (aa 1)) (a9 "Hand" "acts" (aw 0)))) (bS (aO "Hand" "is_waiting" bV 2 (aw 0) (ao (ag (aa 1)) aW)))) sQ cC)
 (aK (cB (bS (aO "Hand" "makes_chord" dE 2 (aw 0) (ao (ag (aa 1)) aW))) (aK (bU (aO "Hand" "put_to_chord" c9 2 (aw 0) (ao (ag (aa 1)) aW)))
 sQ) cC)
 (aK (cB (bS (mU kr (a9 "Hand" "waiting" (aw 0)) (ag (pC .none)))) (bU (aO "Hand" "decide" bT 1 (aw 0) aW)) cC)
 (bU (aO "Hand" "begin" fG 2 (aw 0) (ao (ag (aa 1)) aW))))))
def gM:iK:=cW 2 jq
def iy:fx:=(aK (cF (ka (a9 "Hand" "waiting" (aw 0)) (ag (~~~2))) (gn 2))
 (cB (bQ (aF (aC cV (aa 2) (pC (.tuple [(.str "chord")]))))) (bU (aO "Hand" "decide" bT 1 (aw 0) aW)) (aK (fP "Hand" "waiting" (aw 0) (ag (pC .none)))
 (bU (aO "Hand" "come" bq 3 (aw 0) (ao (ag (aa 1)) (ao (ag (bj {pC (.str "letter"),aC bc (aa 2) (~~~1)})) aW)))))))
def gr:iK:=cW 3 iy
def jD:fx:=(aK (cB (bS (aO "Hand" "is_waiting" bV 2 (aw 0) (ao (ag (aa 1)) aW))) (bU (aO "Hand" "settle" gr 2 (aw 0) (ao (ag (aa 1)) aW))) cC)
 (cB (bS (wS QQ (ag (aa 1)) (a9 "Hand" "acts" (aw 0)))) (bU (aO "Hand" "go" iY 2 (aw 0) (ao (ag (aa 1)) aW))) cC))
def ic:iK:=cW 2 jD
def gZ:fx:=(aK (cB (bS (mU ut (a9 "Hand" "waiting" (aw 0)) (ag (pC .none)))) sQ cC)
 (aK (cF (mU cH (ka (a9 "Hand" "waiting" (aw 0)) (ag (~~~1))) (ag (~~~1))) (gn 1))
 (aK (fP "Hand" "waiting" (aw 0) (nt (ao (ka (a9 "Hand" "waiting" (aw 0)) (ag (~~~0))) (ao (ag (aa 1)) (ao (ka (a9 "Hand" "waiting" (aw 0)) (ag (~~~2))) aW)))))
 (cB (bS (mU cV (ag (aa 1)) (ka (a9 "Hand" "bed" (aw 0)) (ag (~~~3))))) (bU (aO "Hand" "decide" bT 1 (aw 0) aW)) cC))))
def fJ:iK:=cW 2 gZ
def yq:fx:=(aK (cF (sW "Hand" dM 3 (ao (ag (aa 0)) (ao (ag (aa 1)) aW))) (gn 3))
 (aK (cB (bQ (aF (aC cV (aC bc (aa 2) (~~~0)) (pC (.str "turn"))))) (bU (aO "Hand" "wait_on" fJ 1 (aw 3) aW)) (cB (bQ (aF (aC cV (aC bc (aa 2) (~~~0)) (pC (.str "down"))))) (bU (aO "Hand" "press" gM 2 (aw 3) (ao (ag (aC bc (aa 2) (~~~1))) aW))) (bU (aO "Hand" "lift" ic 2 (aw 3) (ao (ag (aC bc (aa 2) (~~~1))) aW)))))
 (iw (nt (ao (a9 "Hand" "sent" (aw 3)) (ao (aO "Hand" "stands" bB 1 (aw 3) aW) aW))))))
def jT:iK:=cW 4 yq
end STP
local macro_rules| `(tactic|fail "nm")=> `(tactic|first|((simp only[Z9,aaa]);rfl)|rfl)| `(tactic|fail "evf")=> `(tactic|first|with_reducible assumption|change L3.gX _ _|change L3.yC _ _|change L3.ra _ _|change L3.Bo _ _|change L3.xw _ _|change L3.BS _ _|change L3.ahi _ _|change L3.afW _ _|change L3.mQ _ _|change L3.u7 _ _|change L3.aaC _ _|change L3.aaN _ _|change L3.afj _ _|change L3.afc _ _|change L3.tF _ _|change L3.afe _ _|change L3.ae0 _ _|change L3.adL _ _|change L3.ug _ _|change L3.adT _ _|change L3.adW _ _|change L3.aeS _ _|change L3.LX _ _|change L3.ip|change L3.i7|change L3.rB|change L3.ake|change L3.ajQ|change L3.Kw|change L3.iS _|change L3.i6 _|(with_reducible rfl))| `(tactic|fail "ev")=> `(tactic|first
 |change L3.aD
 |((exists L3.af);rfl)
 |((exists L3.ja);rfl)
 |change L3.aA
 |change L3.wE
 |((exists L3.aE);(·fail "ev");(·fail "ev");(·rfl);(·rfl);(·fail "evf"))
 |((exists L3.ahU);(·fail "ev");(·rfl);(·rfl))
 |((exists L3.ai);(·fail "ev");(·fail "ev"))
 |((exists L3.bK);(·fail "ev");(·rfl))
 |((exists L3.de);(·fail "ev");(·rfl);(·first|fail "evf"|rfl))
 |((exists L3.eU);(·fail "ev");(·rfl);(·rfl);(·with_reducible assumption))
 |((exists L3.b8);(·fail "ev");(·rfl);(·exact QL rfl))
 |((exists L3.lM);(·fail "ev");(·rfl);(·exact QL rfl))
 |((exists L3.afS);(·fail "ev");(·rfl);(·rfl))
 |((exists L3.iW);(·fail "ev");(·rfl))
 |((exists L3.BE);(·fail "ev");(·fail "ev");(·fail "ev");(·rfl);(·first|with_reducible assumption|rfl))
 |((exists L3.HV);(·fail "ev"))
 |((exists L3.o0);(·fail "ev");(·intro _;fail "ev"))
 |((exists L3.af5);(·fail "ev");(·intro _;fail "ev"))
 |((exists L3.afh);(·fail "ev"))
 |((exists L3.vj);(·fail "ev");(·intro _;fail "ev"))
 |((exists L3.ab5);(·fail "ev");(·intro _;fail "ev"))
 |((exists L3.pp);(·fail "ev");(·rfl);(·first|with_reducible assumption|rfl))
 |((exists L3.jr);(·fail "ev");(·rfl);(·rfl))
 |((exists L3.adQ);(·fail "ev");(·rfl);(·rfl))
 |((exists L3.nr);(·rfl);(·fail "ev");(·rfl);(·rfl);(·first|with_reducible assumption|(simp only[Ta,Q5,L3.cZ] at*;omega));(·fail "nm"))
 |((exists L3.agl);(·rfl);(·fail "ev");(·rfl);(·rfl);(·with_reducible assumption);(·with_reducible assumption);(·with_reducible assumption);(·fail "nm"))
 |((exists L3.pO);(·fail "ev");(·rfl);(·fail "nm"))
 |((exists L3.u6);(·fail "ev"))
 |((exists L3.tH);(·fail "ev");(·rfl)))
local macro_rules| `(tactic|fail "evb")=> `(tactic|first
 |((exists L3.ahp);(·fail "ev");(·fail "ev");(·rfl);(·rfl);(·fail "evf"))
 |((exists L3.aeQ);(·fail "ev");(·rfl);(·rfl);(·with_reducible assumption))
 |((exists L3.ag4);(·fail "ev");(·rfl);(·first|fail "evf"|rfl))
 |fail "ev")
local macro_rules| `(tactic|fail "ev")=> `(tactic|first
 |with_reducible assumption
 |((exists L3.vj);(·fail "ev");(·intro _;fail "evb"))
 |((exists L3.ab5);(·fail "ev");(·intro _;fail "evb"))
 |((exists L3.Gk);(·fail "ev");(·fail "ev");(·fail "ev");(·rfl);(·rfl);(·rfl);(·fail "evf");(·intro _;fail "evf"))
 |((exists L3.BH);(·fail "ev");(·rfl);(·rfl);(·rfl)))
local macro_rules| `(tactic|fail "go")=> `(tactic|first
 |((exists L3.bJ);(·fail "ev");(·rfl);(·fail "nm");try fail "go")
 |((exists L3.vq);(·fail "ev");try fail "go")
 |((exists L3.ahh);try fail "go")
 |((exists L3.dF);try fail "go")
 |((exists L3.gb);(·fail "ev");(·rfl))
 |((exists L3.iM);(·fail "ev"))
 |((exists L3.ahb);(·fail "ev");(·rfl);(·fail "nm"))
 |((exists L3.oV);(·fail "ev"))
 |((exists L3.eS);(·fail "ev");(·rfl))
 |((exists L3.aid);(·fail "ev"))
 |(exists L3.afg))
namespace STP
open PySem L2 L3
def dj (c:Nat):Str:=⟨#[97+c]⟩
inductive Mn where
 |Rk (c:Nat)
 |S6 (n:Int)
 |Vo (c:Nat) (n:Int)
 |once (n:Int)
 |none
 |below
 deriving DecidableEq
def mD:Mn->D
 | .Rk c=> .tuple [.str "letter",.str (dj c)]
 | .S6 n=> .tuple [.str "layer",.int n]
 | .Vo c n=> .tuple [.str "tap",.str (dj c),.int n]
 | .once n=> .tuple [.str "once",.int n]
 | .none=> .tuple [.str "none"]
 | .below=> .tuple [.str "below"]
def VM (L a:Int):Mn->Prop
 | .Rk c=>c<26
 | .S6 n=>1<=n/\n<a
 | .Vo c n=>c<26/\1<=n/\n<a
 | .once n=>1<=n/\n<a
 | .none=>True
 | .below=>L≠0
def Mn.isL:Mn->Bool
 | .Rk _=>QJ
 |_=>QQ
structure Bd where
 n:Int
 ls:List (List Mn)
 cs:List (List Nat×Nat)
 wt:Int
def dW (l:List Mn):D:= .tuple (l.map mD)
def d4 (c:List Nat×Nat):D:= .tuple [.tuple (a8 c.1),.str (dj c.2)]
def bD (b:Bd):D:= .tuple [.int b.n,.tuple (b.ls.map dW),.tuple (b.cs.map d4),.int b.wt]
def VL (n a:Int) (b:List (List Mn)):Prop:=∀(i:Nat) l,b[i]? =lD l->(l.length:Int)=n/\∀m∈l,VM i a m
def mZ (l0:List Mn) (k:Nat):Bool:=(l0[k]?.map Mn.isL).getD QQ
def VC (l0:List Mn) (c:List Nat×Nat):Prop:=2<=c.1.length/\c.1.Pairwise (·<·)/\(∀k∈c.1,mZ l0 k=QJ)/\c.2<26
structure VB (b:Bd):Prop where
 n1:1<=b.n
 n5:b.n<=5
 l1:1<=b.ls.length
 l3:b.ls.length<=3
 vl:VL b.n b.ls.length b.ls
 c4:b.cs.length<=4
 vc:∀c∈b.cs,VC (b.ls.headD []) c
 cu:b.cs.Pairwise fun a c=>a.1≠c.1
 w1:1<=b.wt
 w4:b.wt<=4
def wn:Mn->Nat
 | .Rk _=>0
 | .S6 _=>1
 | .Vo _ _=>2
 | .once _=>3
 | .none=>4
 | .below=>5
def ws:Nat->Str
 |0=> "letter"
 |1=> "layer"
 |2=> "tap"
 |3=> "once"
 |4=> "none"
 |_=> "below"
def wd (m:Mn):Str:=ws (wn m)
theorem oh (m:Mn):wn m<6:=by cases m<;>exact QL rfl
theorem nZ (m:Mn):bc (mD m) (.int 0)=lD (.fz (.str (wd m))):=by cases m<;>exact ip
theorem Kv (m:Mn):QK.strOk (wd m)=QJ:=(by left:∀i,i<6->QK.strOk (ws i)=QJ) _ (oh m)
theorem xG:∀i,i<6->∀j,j<6->(ws i==ws j)=decide (i=j):=by left
theorem xf (m:Mn) (j:Nat) (a:j<6):cV (.str (wd m)) (.str (ws j))=lD (.fz (.bool (decide (wn m=j)))):=by rw[O0 (Kv m) ((by left:∀i,i<6->QK.strOk (ws i)=QJ) j a)];unfold wd;rw[xG _ (oh m) _ a]
def Mn.isB:Mn->Bool
 | .below=>QJ
 |_=>QQ
def Mn.ZR:Mn->Bool
 | .S6 _=>QJ
 |_=>QQ
def Mn.isT:Mn->Bool
 | .Vo _ _=>QJ
 |_=>QQ
def Mn.isO:Mn->Bool
 | .once _=>QJ
 |_=>QQ
theorem kB (m:Mn):cV (.str (wd m)) (.str "letter")=lD (.fz (.bool m.isL)):=(xf m 0 (by decide)).trans (by cases m<;>rfl)
theorem Gf (m:Mn):cV (.str (wd m)) (.str "below")=lD (.fz (.bool m.isB)):=(xf m 5 (by decide)).trans (by cases m<;>rfl)
theorem FX (m:Mn):cV (.str (wd m)) (.str "layer")=lD (.fz (.bool m.ZR)):=(xf m 1 (by decide)).trans (by cases m<;>rfl)
theorem LM (m:Mn):cV (.str (wd m)) (.str "tap")=lD (.fz (.bool m.isT)):=(xf m 2 (by decide)).trans (by cases m<;>rfl)
theorem IE (m:Mn):cV (.str (wd m)) (.str "once")=lD (.fz (.bool m.isO)):=(xf m 3 (by decide)).trans (by cases m<;>rfl)
theorem Ob (m:Mn):ox (.str (wd m)) (.tuple [.str "layer",.str "once"])=lD (.fz (.bool (!(m.ZR||m.isO)))):=by
 have h:∀a:Str,QK.strOk a=QJ->ox (.str a) (.tuple [.str "layer",.str "once"])=lD (.fz (.bool (!(("layer":Str)==a||("once":Str)==a)))):=fun a ha=>by show(if(lm (.str a)&&(QK.strOk "layer"&&(QK.strOk "once"&&QJ)))=QJ then lD (RV.fz (.bool (!(QK.eqv (.str "layer") (.str a)||(QK.eqv (.str "once") (.str a)||false))))) else Ld)=_;rw[show lm (.str a)=QJ by unfold lm;rw[show QK.canLay0 (.str a)=QJ from ha];rfl,show QK.strOk "layer"=QJ by left,show QK.strOk "once"=QJ by left,Yn];rfl
 rw[h _ (Kv m)];unfold wd;rw[show(("layer":Str)==ws (wn m))=_ from xG 1 (by decide) _ (oh m),show(("once":Str)==ws (wn m))=_ from xG 3 (by decide) _ (oh m)];cases m<;>rfl
def LB:Mn->Prop
 | .Rk c=>c<26
 | .Vo c _=>c<26
 |_=>True
theorem VM.lb (h:VM L nL m):LB m:=by
 cases m with
 |Rk c=>exact h
 |Vo c n=>exact h.1
 |_=>trivial
theorem qh (h:c<26):QK.strOk (dj c)=QJ:=by show((#[97+c]:Array Nat).all fun c=>decide (c<0x110000))=QJ;simp;omega
theorem vR (h:dj c=dj d):c=d:=by
 have:(97+c)=97+d:=by have a:=congrArg (fun z:Str=>z.cps.toList) h;exact List.head_eq_of_cons_eq a
 omega
theorem vG (h:LB m):QK.canLay0 (mD m)=QJ:=by
 cases m with
 |Rk c=>show(QK.strOk "letter"&&(QK.strOk (dj c)&&QJ))=QJ;rw[qh h,show QK.strOk "letter"=QJ by left];rfl
 |S6 n=>show(QK.strOk "layer"&&(QJ&&QJ))=QJ;left
 |Vo c n=>show(QK.strOk "tap"&&(QK.strOk (dj c)&&(QJ&&QJ)))=QJ;rw[qh h,show QK.strOk "tap"=QJ by left];rfl
 |once n=>show(QK.strOk "once"&&(QJ&&QJ))=QJ;left
 |none=>show(QK.strOk "none"&&QJ)=QJ;left
 |below=>show(QK.strOk "below"&&QJ)=QJ;left
theorem FP (h:LB m):lm (mD m)=QJ:=by unfold lm;rw[vG h];cases m<;>rfl
def mR:Mn->List D
 | .Rk c=>[.str (dj c)]
 | .S6 n=>[.int n]
 | .Vo c n=>[.str (dj c),.int n]
 | .once n=>[.int n]
 | .none=>[]
 | .below=>[]
theorem Kj (m:Mn):mD m= .tuple (.str (wd m)::mR m):=by cases m<;>rfl
theorem OC (a b:Mn):decide (wd a=wd b)=decide (wn a=wn b):=by have h:=xG _ (oh a) _ (oh b);unfold wd;rw[<-h];rfl
theorem Ai (c d:Nat):decide (dj c=dj d)=decide (c=d):=decide_eq_decide.mpr ⟨vR,fun h=>by rw[h]⟩
theorem MH (a b:Mn) (h:wn a=wn b):QK.eqvAll (mR a) (mR b)=decide (a=b):=by
 cases a<;>cases b<;>first|cases h|skip
 .show(decide (dj _=dj _)&&QJ)=_;rw[Ai,WC];exact decide_eq_decide.mpr ⟨fun h=>by rw[h],fun h=>by cases h;rfl⟩
 .show(decide (_=_)&&QJ)=_;rw[WC];exact decide_eq_decide.mpr ⟨fun h=>by rw[h],fun h=>by cases h;rfl⟩
 .show(decide (dj _=dj _)&&(decide (_=_)&&QJ))=_;rw[Ai,WC,<-Bool.decide_and];exact decide_eq_decide.mpr ⟨fun h=>by rw[h.1,h.2],fun h=>by cases h;exact⟨rfl,rfl⟩⟩
 .show(decide (_=_)&&QJ)=_;rw[WC];exact decide_eq_decide.mpr ⟨fun h=>by rw[h],fun h=>by cases h;rfl⟩
 .rfl
 .rfl
theorem Nq (a b:Mn):QK.eqv (mD a) (mD b)=decide (a=b):=by
 rw[Kj,Kj];show(decide (wd a=wd b)&&QK.eqvAll (mR a) (mR b))=_;rw[OC];by_cases h:wn a=wn b
 .rw[decide_eq_true h,WB,MH a b h]
 .rw[decide_eq_false h,UU,decide_eq_false fun z=>h (by rw[z])]
theorem Ar:∀{l:List Mn},(∀m∈l,LB m)->QK.canLayAll0 (l.map mD)=QJ
 |[],_=>rfl
 |m::r,h=>by show(QK.canLay0 (mD m)&&QK.canLayAll0 (r.map mD))=QJ;rw[vG (h m QS),Ar fun x a=>h x (QV _ a)];rfl
theorem zR (a:Mn):∀l:List Mn,((l.map mD).any fun e=>QK.eqv e (mD a))=decide (a∈l)
 |[]=>rfl
 |m::r=>by rw[Q3,T1,zR a r,Nq,<-Bool.decide_or];exact decide_eq_decide.mpr (by rw[Rc];exact⟨fun h=>h.imp (fun z=>z.symm) id,fun h=>h.imp (fun z=>z.symm) id⟩)
theorem Hw {l:List Mn} (ha:LB a) (b:∀m∈l,LB m):Hj (mD a) (.list (l.map mD))=lD (.fz (.bool (decide (a∈l)))):=by show(if(lm (mD a)&&QK.canLayAll0 (l.map mD))=QJ then _ else _)=_;rw[FP ha,Ar b,Tf,if_pos rfl,zR]
theorem uO (e:α->D) (g:α->Option D) (I:aU->Prop) (xs:List α) (p:I ρ) (i:xs.length<=1000) (b:∀x∈xs,∀ρ,I ρ->∃ρ',j7 gt ft fe (e x) ρ= .ok (g x,ρ')/\I ρ'):jB (dA gt ft fe (xs.map e) ρ [])= .ok (xs.filterMap g):=by
 have h:∀(xs:List α) (a:List D) (ρ:aU),I ρ->a.length+xs.length<=1000->(∀x∈xs,∀ρ,I ρ->∃ρ',j7 gt ft fe (e x) ρ= .ok (g x,ρ')/\I ρ')->dA gt ft fe (xs.map e) ρ a= .ok (a++xs.filterMap g):=by
  intro xs
  induction xs with
  |nil=>intro a ρ _ _ _;show Res.ok a=_;rw[List.filterMap_nil,RF]
  |cons x r j=>
   intro a ρ m i b;rw[Q5] at i;obtain⟨ρ',o,n⟩:=b x QS ρ m;rw[Q3,pQ o (by omega)];have f:(a++(g x).toList).length+r.length<=1000:=by
    rw[QO];cases g x with
    |none=>rw[Zt,Ta];omega
    |some y=>rw[Option.toList_some,Ut];omega
   rw[j _ ρ' n f fun y l=>b y (QV _ l),RD];cases q:g x with
   |none=>rw[Vl q];rfl
   |some y=>rw[Vm q];rfl
 rw[h xs [] ρ p (by simpa using i) b];rfl
theorem AG (a:cT cp=cp):cT (lD (PV.fz d)::cp)=lD (.fz d)::cp:=by show EK _::cT cp=_;rw[a];rfl
theorem oU {α:Type} {ft:FT} {fe:FE} {a:aU} (e f:α->D) (p:α->Bool) (xs:List α) (j:xs.length<=1000) (m:cT a=a) (h:∀x∈xs,ft (lD (.fz (e x))::a)= .ok (p x,lD (.fz (e x))::a)) (l:∀x∈xs,p x=QJ->fe (lD (.fz (e x))::a)= .ok (.fz (f x),lD (.fz (e x))::a)):jB (dA (gN 0) ft fe (xs.map e) (Ld::a) [])= .ok ((xs.filter p).map f):=by
 rw[uO e (fun x=>if p x=QJ then lD (f x) else Ld) (fun ρ=>∃o,ρ=o::a) xs ⟨Ld,rfl⟩ j ?_]
 .congr 1
  clear j h l
  induction xs with
  |nil=>rfl
  |cons x r i=>
   cases q:p x with
   |true=>rw[Vm (b:=f x) (by rw[if_pos q]),Yz q,i];rfl
   |false=>rw[Vl (by rw[if_neg (by rw[q];simp)]),YA (by rw[q];simp),i]
 .rintro x g ρ ⟨o,rfl⟩
  cases q:p x with
  |true=>exact⟨_,B3 rfl ((h x g).trans (by rw[q])) (l x g q) rfl (AG m),_,rfl⟩
  |false=>exact⟨_,Md rfl ((h x g).trans (by rw[q])) (AG m),_,rfl⟩
theorem yd (xs:List α):xs.filter (fun _=>QJ)=xs:=List.filter_eq_self.mpr fun _ _=>rfl
theorem kS {α:Type} (e f:α->D) (xs:List α) (b:xs.length<=1000) (h:cT cp=cp) (g:∀x∈xs,fe (lD (.fz (e x))::cp)= .ok (.fz (f x),lD (.fz (e x))::cp)):jB (dA (gN 0) eX fe (xs.map e) (Ld::cp) [])= .ok (xs.map f):=by rw[oU e f (fun _=>QJ) xs b h (fun _ _=>rfl) fun x a _=>g x a,yd]
theorem xn (p:α->Bool):∀l:List α,uS (l.map fun c=>QK.bool (p c))=lD (l.map p)
 |[]=>rfl
 |c::r=>by show(uS (r.map fun c=>QK.bool (p c))).map (p c::·)=_;rw[xn p r];rfl
theorem GA (p:α->Bool) (l:List α):Fr [.list (l.map fun c=>QK.bool (p c))]=lD (.fz (.bool (l.all p))):=by show(uS _).map (fun bs=>RV.fz (.bool (bs.all id)))=_;rw[xn];show lD (RV.fz (.bool _))=_;rw[List.all_map];rfl
theorem pW:∀ns:List Int,nk (ns.map QK.int)=lD ns
 |[]=>rfl
 |n::r=>by show(nk (r.map QK.int)).map (n::·)=_;rw[pW r];rfl
abbrev Ac:=Nat->Option Mn
abbrev Wq:=Option (List Nat×Int×Option (Nat×Int))
structure Tc where
 ac:Ac
 wt:Wq
 oc:Option Int
def fR (ac:Ac):List (Nat×Mn):=(Q0 5).filterMap fun k=>(ac k).map fun a=>(k,a)
def pD (p:Nat×Mn):D:= .tuple [nd p.1,mD p.2]
def ro:Option (Nat×Int)->D
 |some (c,n)=>mD (.Vo c n)
 |none=> .tuple [.str "chord"]
def iu:Wq->D
 |some (ks,a,w)=> .tuple [.tuple (a8 ks),.int a,ro w]
 |none=> .none
def n9:Option Int->D
 |some o=> .int o
 |none=> .none
def eR (s:Tc):D:= .tuple [.tuple ((fR s.ac).map pD),iu s.wt,n9 s.oc]
inductive Vf where
 |down (k:Nat)
 |up (k:Nat)
 |turn
def cy:Vf->D
 | .down k=> .tuple [.str "down",nd k]
 | .up k=> .tuple [.str "up",nd k]
 | .turn=> .tuple [.str "turn",.int 0]
theorem fy:p∈fR ac↔p.1<5/\ac p.1=lD p.2:=by
 unfold fR;rw[UW];constructor
 .rintro⟨k,e,b⟩
  cases q:ac k with
  |none=>rw[q] at b;cases b
  |some a=>rw[q] at b;cases b;exact⟨Sg.mp e,q⟩
 .rintro⟨e,b⟩;exact⟨p.1,Sg.mpr e,by rw[b];rfl⟩
theorem vg (ac:Ac):(fR ac).length<=5:=List.length_filterMap_le _ _
def GS:Nat×Mn->Option Int
 |(_,.S6 n)=>lD n
 |_=>Ld
def v7 (ac:Ac):Int:=(((fR ac).filterMap GS).foldl j5 Ld).getD 0
def ju (ac:Ac):Option Int->Int
 |some o=>o
 |none=>v7 ac
theorem F8 (ac:Ac):jB (dA (gT 2 (C6 (gN 0) (C6 (gN 1) M4))) (aF (aC cV (aC bc (aa 1) (~~~0)) (pC (.str "layer")))) (aC bc (aa 1) (~~~1)) ((fR ac).map pD) [Ld,Ld] [])= .ok (((fR ac).filterMap GS).map .int):=by
 rw[uO pD (fun p=>(GS p).map .int) (fun ρ=>∃e b,ρ=[e,b]) (fR ac) ⟨Ld,Ld,rfl⟩ (RA (vg ac) (by decide)) ?_,List.map_filterMap];rintro⟨k,a⟩ _ ρ ⟨e,b,rfl⟩;have h:=nZ a;have g:=FX a;have f:aF (aC cV (aC bc (aa 1) (~~~0)) (pC (.str "layer"))) [lD (.fz (nd k)),lD (.fz (mD a))]= .ok (a.ZR,[lD (.fz (nd k)),lD (.fz (mD a))]):=by fail "ev"
 refine⟨[lD (.fz (nd k)),lD (.fz (mD a))],?_,_,_,rfl⟩;cases a with
 |S6 n=>exact B3 rfl f (aE (af rfl) aD rfl rfl i7) rfl rfl
 |_=>exact Md rfl f rfl
theorem wQ (s:Tc):dI [eR s]= .ok (.fz (.int (ju s.ac s.oc))):=by
 refine im rfl ?_;have a:bc (eR s) (.int 2)=lD (.fz (n9 s.oc)):=rB;have e0:bc (eR s) (.int 0)=lD (.fz (.tuple ((fR s.ac).map pD))):=ip;unfold lV;cases q:s.oc with
 |some o=>
  rw[q] at a;have b:kr (n9 (lD o)) .none=lD (.fz (.bool QJ)):=rfl;fail "go"
  .intro _;exact gb (by fail "ev") rfl rfl
  .intro h;cases h
 |none=>
  rw[q] at a;have b:kr (n9 Ld) .none=lD (.fz (.bool QQ)):=rfl;fail "go"
  .intro h;cases h
  .intro _;refine dF (eS (de (rv:= .fz (.int (v7 s.ac))) (ai (dc (by fail "ev") rfl (F8 s.ac)) aA) rfl ?_) rfl rfl);show(nk _).map _=_;rw[pW];rfl
def jv (b:Bd) (L k:Nat):Mn:=((b.ls[L]?.getD [])[k]?).getD .none
def look (b:Bd) (L:Int) (k:Nat):Mn:=if(jv b L.toNat k).isB=QJ then jv b 0 k else jv b L.toNat k
section
variable {b:Bd} (Z:VB b)
include Z
theorem J5 {L k:Nat} (a:L<b.ls.length) (f:(k:Int)<b.n):∃l,b.ls[L]? =lD l/\l[k]? =lD (jv b L k):=by
 have g:=Z.vl L _ (QY a);have e:k<(b.ls[L]).length:=by omega
 refine⟨_,QY a,?_⟩;unfold jv;rw[QY a,W6,QY e];rfl
theorem zG {L k:Nat} (e:L<b.ls.length) (a:(k:Int)<b.n):VM L b.ls.length (jv b L k):=by obtain⟨l,g,f⟩:=J5 Z e a;exact(Z.vl L l g).2 _ (Ry f)
theorem GQ {L k:Nat} (e:L<b.ls.length) (a:(k:Int)<b.n):∃d,bc (.tuple (b.ls.map dW)) (nd L)=lD (.fz d)/\bc d (nd k)=lD (.fz (mD (jv b L k))):=by obtain⟨l,g,f⟩:=J5 Z e a;exact⟨dW l,JJ (by rw[QW,g];rfl),JJ (by rw[QW,f];rfl)⟩
theorem IQ {L:Int} {k:Nat} (r:0<=L) (p:L<b.ls.length) (e:(k:Int)<b.n):ib [bD b,.int L,nd k]= .ok (.fz (mD (look b L k))):=by
 obtain⟨n,rfl⟩:∃n:Nat,L=(n:Int):=⟨L.toNat,by omega⟩;have o:=Z.l1;obtain⟨d,u,j⟩:=GQ Z (L:=n) (by omega) e;obtain⟨l,i,h⟩:=GQ Z (L:=0) (by omega) e;have v:bc (bD b) (.int 1)=lD (.fz (.tuple (b.ls.map dW))):=i7;have g:=nZ (jv b n k);have f:=Gf (jv b n k);have t:bc (.tuple (b.ls.map dW)) (.int 0)=lD (.fz l):=i;have a:look b (n:Int) k=if(jv b n k).isB=QJ then jv b 0 k else jv b n k:=rfl
 rw[a];generalize jv b n k=m at j g f a;generalize jv b 0 k=m0 at h a;refine im rfl ?_;unfold j9;fail "go"
 .intro q;rw[if_pos q];exact gb (by fail "ev") rfl rfl
 .intro q;rw[if_neg (by rw[q];simp)];exact dF (eS (by fail "ev") rfl rfl)
theorem tW {L:Int} {k:Nat} (g:0<=L) (i:L<b.ls.length) (f:(k:Int)<b.n):VM L b.ls.length (look b L k)/\look b L k≠ .below:=by
 have h:=Z.l1;have a:=zG Z (L:=0) (k:=k) (by omega) f;have v:=zG Z (L:=L.toNat) (k:=k) (by omega) f;have e:jv b 0 k≠ .below:=fun z=>by rw[z] at a;exact a rfl
 rw[Z7 g] at v;unfold look;split
 .refine⟨?_,e⟩
  generalize jv b 0 k=m at a e;cases m with
  |below=>exact absurd rfl e
  |_=>exact a
 .rename_i q;refine⟨v,fun z=> ?_⟩;rw[z] at q;exact q rfl
omit Z in
theorem E3 (ks:List Nat) (a:ks.length<=5) (c:List Nat×Nat):aF (gq Fr {eP 1 [0] (kg (aa 1)) (gN 0) eX (aC Hj (aa 0) (aC bc (aa 1) (~~~0)))}) [lD (.fz (d4 c)),lD (.fz (.tuple (a8 ks)))]= .ok (ks.all fun k=>decide (k∈c.1),[lD (.fz (d4 c)),lD (.fz (.tuple (a8 ks)))]):=by
 have e:jB (dA (gN 0) eX (aC Hj (aa 0) (aC bc (aa 1) (~~~0))) (a8 ks) [Ld,lD (.fz (d4 c))] [])= .ok (ks.map fun k=> .bool (decide (k∈c.1))):=kS nd (fun k=> .bool (decide (k∈c.1))) ks (by omega) rfl fun k _=>by have e0:bc (d4 c) (.int 0)=lD (.fz (.tuple (a8 c.1))):=ip;exact aE (rv:= .fz (.bool (decide (k∈c.1)))) (af rfl) (by fail "ev") rfl rfl (ug _ _)
 exact bK (de (rv:= .fz (.bool (ks.all fun k=>decide (k∈c.1)))) (ds:=[.list (ks.map fun k=> .bool (decide (k∈c.1)))]) (ai (dc (cs:=[d4 c]) (ds:=a8 ks) (by fail "ev") rfl e) aA) rfl (GA _ _)) rfl
def dZ (b:Bd) (ks:List Nat):List (List Nat×Nat):=b.cs.filter fun c=>ks.all fun k=>decide (k∈c.1)
theorem BP (a:ks.length<=5):bE [bD b,.tuple (a8 ks)]= .ok (.ow ((dZ b ks).map d4)):=by have f:bc (bD b) (.int 2)=lD (.fz (.tuple (b.cs.map d4))):=rB;have e:=Z.c4;refine im rfl ?_;unfold io;exact eS (dc (cs:=[.tuple (a8 ks)]) (by fail "ev") rfl (oU d4 d4 (fun c=>ks.all fun k=>decide (k∈c.1)) b.cs (by omega) rfl (fun c _=>E3 ks a c) fun c _ _=>af rfl)) rfl rfl
def oA (ks:List Nat):List Nat:=(j8 (ks.map Xs)).map YO
omit Z in
theorem rq (ks:List Nat):(oA ks).Perm ks:=by have h:=(fD (ks.map Xs)).map YO;rw[RL] at h;exact h.trans (by rw[show(YO∘Xs)=id from funext fun x=>rfl,List.map_id])
omit Z in
theorem HF (ks:List Nat):(j8 (ks.map Xs)).map QK.int=a8 (oA ks):=by unfold oA a8;rw[RL];refine UL fun x a=> ?_;obtain⟨n,_,rfl⟩:=Rn.mp ((fD _).mem_iff.mp a);rfl
omit Z in
theorem ye (ks:List Nat):(oA ks).Pairwise (·<=·):=by
 have h:∀l:List Int,l.Pairwise (·<=·)->(l.map YO).Pairwise (·<=·):=fun l h=>by rw[Vc];exact h.imp fun h=>by omega
 exact h _ (eK _)
omit Z in
theorem Hv (ks:List Nat):(oA ks).length=ks.length:=(rq ks).length_eq
omit Z in
theorem wa {ks:List Nat} (h:ks.length<64):L9.gI [.tuple (a8 ks)]=lD (.ow (a8 (oA ks))):=by
 have e:a8 ks=(ks.map Xs).map QK.int:=by rw[RL];rfl
 show(match nk (a8 ks) with
  |some a=>if a.length<64 then lD (RV.ow ((j8 a).map .int)) else Ld
  |none=>Ld)=_
 rw[e,pW];dsimp only;rw[if_pos (by rw[QI];exact h),HF]
def J3 (b:Bd) (ks:List Nat):List Mn:=match b.cs.find? fun c=>decide (c.1=oA ks) with
 |some c=> .Rk c.2::QT (ks.length - 1) .none
 |none=>ks.map (jv b 0)
omit Z in
omit Z in
theorem Od (n:Nat) (d:D):(QT n [d]).flatten=QT n d:=by
 induction n with
 |zero=>rfl
 |succ n a=>rw[RP,SI,a];rfl
theorem MU {ks:List Nat} (H:1<=ks.length) (G:ks.length<=5) (C:∀k∈ks,(k:Int)<b.n):fM [bD b,.tuple (a8 ks)]= .ok (.ow ((J3 b ks).map mD)):=by
 have I:bc (bD b) (.int 2)=lD (.fz (.tuple (b.cs.map d4))):=rB;have J:bc (bD b) (.int 1)=lD (.fz (.tuple (b.ls.map dW))):=i7;have F:=Z.l1;have i:=wa (ks:=ks) (by omega);refine im rfl ?_;unfold jh;have rt:∀c:List Nat×Nat,(aC cH (dC {bj {pC (.str "letter"),aC bc (aa 2) (~~~1)}}) (aC gl (dC {pC (.tuple [(.str "none")])}) (aC se (gq gh {aa 1}) (~~~1)))) [lD (.fz (bD b)),lD (.fz (.tuple (a8 ks))),lD (.fz (d4 c))]= .ok (.ow ((Mn.Rk c.2::QT (ks.length - 1) Mn.none).map mD),[lD (.fz (bD b)),lD (.fz (.tuple (a8 ks))),lD (.fz (d4 c))]):=fun c=>by
  have l:bc (d4 c) (.int 1)=lD (.fz (.str (dj c.2))):=i7;have j:gl (.list [.tuple [.str "none"]]) (.int (((a8 ks).length:Int) - 1))=lD (.ow (QT (ks.length - 1) (.tuple [.str "none"]))):=by rw[cZ,show((ks.length:Int) - 1)=((ks.length - 1:Nat):Int) by omega];exact(Mw (by omega) (by decide)).trans (by rw[Od])
  have y:cH (.list [mD (.Rk c.2)]) (.list (QT (ks.length - 1) (.tuple [.str "none"])))=lD (.ow ((Mn.Rk c.2::QT (ks.length - 1) Mn.none).map mD)):=by show(if 1+(QT (ks.length - 1) (QK.tuple [.str "none"])).length<=1000000 then lD (RV.ow ([mD (.Rk c.2)]++QT (ks.length - 1) (QK.tuple [.str "none"]))) else Ld)=_;rw[Rt,if_pos (by omega),Q3,WO];rfl
  exact aE (by fail "ev") (aE (by fail "ev") (aE (by fail "ev") aD rfl rfl (yC _ _)) rfl rfl j) rfl rfl y
 have f:∀(e:List (List Nat×Nat)) (o:Option PV),(∀c,e.find? (fun c=>decide (c.1=oA ks))=lD c->oJ (gN 2) (lY (aF (aC cV (gq uE {aC bc (aa 2) (~~~0)}) (gq L9.gI {aa 1}))) (dQ (aC cH (dC {bj {pC (.str "letter"),aC bc (aa 2) (~~~1)}}) (aC gl (dC {pC (.tuple [(.str "none")])}) (aC se (gq gh {aa 1}) (~~~1))))) eO) (e.map d4) [lD (.fz (bD b)),lD (.fz (.tuple (a8 ks))),o]= .ok (.rt (.ow ((Mn.Rk c.2::QT (ks.length - 1) Mn.none).map mD))))/\
   (e.find? (fun c=>decide (c.1=oA ks))=Ld->∃u,oJ (gN 2) (lY (aF (aC cV (gq uE {aC bc (aa 2) (~~~0)}) (gq L9.gI {aa 1}))) (dQ (aC cH (dC {bj {pC (.str "letter"),aC bc (aa 2) (~~~1)}}) (aC gl (dC {pC (.tuple [(.str "none")])}) (aC se (gq gh {aa 1}) (~~~1))))) eO) (e.map d4) [lD (.fz (bD b)),lD (.fz (.tuple (a8 ks))),o]= .ok (.nx [lD (.fz (bD b)),lD (.fz (.tuple (a8 ks))),u])):=by
  intro e
  induction e with
  |nil=>exact fun o=>⟨fun c h=>(by cases h),fun _=>⟨o,rfl⟩⟩
  |cons c r B=>
   intro o;have E:bc (d4 c) (.int 0)=lD (.fz (.tuple (a8 c.1))):=ip
   have a:aF (aC cV (gq uE {aC bc (aa 2) (~~~0)}) (gq L9.gI {aa 1})) [lD (.fz (bD b)),lD (.fz (.tuple (a8 ks))),lD (.fz (d4 c))]= .ok (decide (c.1=oA ks),[lD (.fz (bD b)),lD (.fz (.tuple (a8 ks))),lD (.fz (d4 c))]):=
    bK (aE (de (by fail "ev") rfl rfl) (de (by fail "ev") rfl i) rfl rfl (tF _ _)) rfl
   rw[RH];by_cases h:c.1=oA ks
   .rw[decide_eq_true h] at a⊢;refine⟨fun K t=> ?_,fun t=>(by cases t)⟩;cases t;show((gN 2 (.fz (d4 c)) [lD (.fz (bD b)),lD (.fz (.tuple (a8 ks))),o]).bind fun g=>_)=_;rw[DJ,Res.bind_ok];show((lY _ _ _ [lD (.fz (bD b)),lD (.fz (.tuple (a8 ks))),lD (.fz (d4 c))]).bind _)=_;rw[P2 a,tH (rt c) rfl];rfl
   .rw[decide_eq_false h] at a⊢
    have w:oJ (gN 2) (lY (aF (aC cV (gq uE {aC bc (aa 2) (~~~0)}) (gq L9.gI {aa 1}))) (dQ (aC cH (dC {bj {pC (.str "letter"),aC bc (aa 2) (~~~1)}}) (aC gl (dC {pC (.tuple [(.str "none")])}) (aC se (gq gh {aa 1}) (~~~1))))) eO) ((c::r).map d4) [lD (.fz (bD b)),lD (.fz (.tuple (a8 ks))),o]=oJ (gN 2) (lY (aF (aC cV (gq uE {aC bc (aa 2) (~~~0)}) (gq L9.gI {aa 1}))) (dQ (aC cH (dC {bj {pC (.str "letter"),aC bc (aa 2) (~~~1)}}) (aC gl (dC {pC (.tuple [(.str "none")])}) (aC se (gq gh {aa 1}) (~~~1))))) eO) (r.map d4) [lD (.fz (bD b)),lD (.fz (.tuple (a8 ks))),lD (.fz (d4 c))]:=by show((gN 2 (.fz (d4 c)) [lD (.fz (bD b)),lD (.fz (.tuple (a8 ks))),o]).bind fun g=>_)=_;rw[DJ,Res.bind_ok];show((lY _ _ _ [lD (.fz (bD b)),lD (.fz (.tuple (a8 ks))),lD (.fz (d4 c))]).bind _)=_;rw[PL a];rfl
    rw[w];exact B _
 obtain⟨A,m⟩:=f b.cs Ld;have v:kg (aC bc (aa 0) (~~~2)) [lD (.fz (bD b)),lD (.fz (.tuple (a8 ks))),Ld]= .ok (b.cs.map d4,[lD (.fz (bD b)),lD (.fz (.tuple (a8 ks))),Ld]):=by fail "ev"
 unfold J3;cases q:b.cs.find? fun c=>decide (c.1=oA ks) with
 |some c=>exact .eq (EU ((zD v).trans (A c q))) ⟨rfl⟩
 |none=>obtain⟨u,m⟩:=m q;refine .eq (yU ((zD v).trans m)) ?_;refine eS (dc (by fail "ev") rfl ?_) rfl rfl;rw[RL];refine kS nd (mD∘jv b 0) ks (by omega) rfl fun k p=> ?_;obtain⟨d,l,j⟩:=GQ Z (L:=0) (by omega) (C k p);have l:bc (.tuple (b.ls.map dW)) (.int 0)=lD (.fz d):=l;exact aE (by fail "ev") (af rfl) rfl rfl j
end
end STP
local macro_rules|`(-($x))=>`(Option.some (.fz $x))
namespace STP
open PySem L2 L3
open L10
def jC (p:Nat×Mn):cE×SV:=(.inl (p.1:Int),.fz (mD p.2))
def jR (ac:Ac) (k:Nat) (o:Option Mn):Ac:=fun j=>if j=k then o else ac j
theorem dR:jR ac k o k=o:=by unfold jR;rw[if_pos rfl]
theorem fA (h:j≠k):jR ac k o j=ac j:=by unfold jR;rw[if_neg h]
theorem E9 (ac:Ac):(fR ac).Pairwise fun p q=>p.1<q.1:=by
 unfold fR;refine adt _ (fun a g h p f q b=> ?_) (VG);cases e:ac a with
 |none=>rw[e] at f;cases f
 |some x=>
  cases e':ac g with
  |none=>rw[e'] at b;cases b
  |some y=>rw[e] at f;rw[e'] at b;cases f;cases b;exact h
theorem qI (ac:Ac):((fR ac).map (·.1)).Nodup:=by rw[RQ,Vc];exact(E9 ac).imp fun h=>Rg h
theorem Bt {l:List (Nat×Mn)} (h:(l.map (·.1)).Nodup):l.Nodup:=by rw[RQ,Vc] at h;exact h.imp fun h e=>h (by rw[e])
theorem qJ {l:List (Nat×Mn)} (h:(l.map (·.1)).Nodup) (hm:∀p,p∈l↔p.1<5/\ac p.1=lD p.2):l.Perm (fR ac):=
 (List.perm_ext_iff_of_nodup (Bt h) (Bt (qI ac))).mpr fun p=>(hm p).trans fy.symm
section
variable {ps:List (Nat×Mn)} {ac:Ac} (Z:ps.Perm (fR ac))
include Z
theorem jK:p∈ps↔p.1<5/\ac p.1=lD p.2:=Z.mem_iff.trans fy
theorem Gz:(ps.map (·.1)).Nodup:=(Z.map (·.1)).nodup_iff.mpr (qI ac)
theorem Ey:ps.length<=5:=by rw[Z.length_eq];exact vg ac
theorem l4 {k:Nat} (f:k<5):i9 (ps.map jC) (.inl (k:Int))=(ac k).map fun a=>SV.fz (mD a):=by
 unfold i9;cases q:(ps.map jC).find? fun b=>decide (b.1=(.inl (k:Int):cE)) with
 |none=>
  cases e:ac k with
  |none=>rfl
  |some a=>have:=List.find?_eq_none.mp q (jC (k,a)) (Rn.mpr ⟨(k,a),(jK Z).mpr ⟨f,e⟩,rfl⟩);exact absurd (decide_eq_true rfl) this
 |some b=>
  obtain⟨p,i,rfl⟩:=Rn.mp (U7 q);have h:=of_decide_eq_true (List.find?_some (p:=fun b:cE×SV=>decide (b.1=(.inl (k:Int):cE))) q);have g:p.1=k:=by have:=Sum.inl.inj h;omega
  rw[<-g,((jK Z).mp i).2];rfl
theorem G9 {k:Nat} (o:k<5):∃qs:List (Nat×Mn),jw (ps.map jC) (.inl (k:Int)) (.fz (mD a))=qs.map jC/\qs.Perm (fR (jR ac k (lD a))):=by
 unfold jw;have g:∀p:Nat×Mn,((jC p).1=(.inl (k:Int):cE))↔p.1=k:=fun p=>⟨fun h=>by have:=Sum.inl.inj h;omega,fun h=>by rw[<-h];rfl⟩;split
 .rename_i h
  refine⟨ps.map fun p=>if p.1=k then(k,a) else p,?_,qJ ?_ fun p=> ?_⟩
  .rw[RL,RL]
   refine UL fun p _=> ?_;show(if(jC p).1=(.inl (k:Int):cE) then((jC p).1,SV.fz (mD a)) else jC p)=jC (if p.1=k then(k,a) else p);by_cases e:p.1=k
   .rw[if_pos ((g p).mpr e),if_pos e,(g p).mpr e];rfl
   .rw[if_neg (fun z=>e ((g p).mp z)),if_neg e]
  .rw[RL,show ps.map ((·.1)∘fun p:Nat×Mn=>if p.1=k then(k,a) else p)=ps.map (·.1) from UL fun p _=>by
    show(if p.1=k then(k,a) else p).1=p.1;split
    .rename_i e;exact e.symm
    .rfl]
   exact Gz Z
  .obtain⟨w,l,j⟩:=Xm.mp h
   obtain⟨n,v,rfl⟩:=Rn.mp l;have b:=(g n).mp (of_decide_eq_true j);rw[Rn];constructor
   .rintro⟨r,u,rfl⟩
    split
    .exact⟨o,dR⟩
    .rename_i e;have:=(jK Z).mp u;exact⟨this.1,by rw[fA e];exact this.2⟩
   .rintro⟨f,i⟩
    by_cases e:p.1=k
    .rw[e,dR] at i;refine⟨n,v,?_⟩;rw[if_pos b,<-e,Ra i]
    .rw[fA e] at i;exact⟨p,(jK Z).mpr ⟨f,i⟩,by rw[if_neg e]⟩
 .rename_i h
  have hn:=fun p m e=>h (Xm.mpr ⟨jC p,Rn.mpr ⟨p,m,rfl⟩,decide_eq_true ((g p).mpr e)⟩);refine⟨ps++[(k,a)],by rw[Rm];rfl,qJ ?_ fun p=> ?_⟩
  .rw[Rm,Uh];refine⟨Gz Z,Sw.mpr ⟨Sm,Wa⟩,fun x t y q=> ?_⟩;obtain⟨p,b,rfl⟩:=Rn.mp t;rw[Q2.mp q];exact hn p b
  .rw[Rq,Q2]
   constructor
   .rintro(b|rfl)
    .have:=(jK Z).mp b;exact⟨this.1,by rw[fA (hn p b)];exact this.2⟩
    .exact⟨o,dR⟩
   .rintro⟨b,f⟩
    by_cases e:p.1=k
    .rw[e,dR] at f;exact .inr (by rw[<-e,Ra f])
    .rw[fA e] at f;exact .inl ((jK Z).mpr ⟨b,f⟩)
theorem FL {k:Nat}:∃qs:List (Nat×Mn),lz (ps.map jC) (.inl (k:Int))=qs.map jC/\qs.Perm (fR (jR ac k Ld)):=by
 have g:∀p:Nat×Mn,((jC p).1=(.inl (k:Int):cE))↔p.1=k:=fun p=>⟨fun h=>by have:=Sum.inl.inj h;omega,fun h=>by rw[<-h];rfl⟩;refine⟨ps.filter fun p=>decide (p.1≠k),?_,qJ ?_ fun p=> ?_⟩
 .unfold lz;rw[List.filter_map];congr 1;refine List.filter_congr fun p _=> ?_;exact decide_eq_decide.mpr (not_congr (g p))
 .exact ahE ((List.filter_sublist).map _) (Gz Z)
 .rw[SK,jK Z,decide_eq_true_eq]
  constructor
  .rintro⟨⟨b,a⟩,f⟩;exact⟨b,by rw[fA f];exact a⟩
  .rintro⟨b,a⟩
   by_cases e:p.1=k
   .rw[e,dR] at a;cases a
   .rw[fA e] at a;exact⟨⟨b,a⟩,e⟩
theorem Fm:aM zA ((ps.map jC).map (·.1))=lD (ps.map fun p=>(p.1:Int)):=by
 clear Z
 induction ps with
 |nil=>rfl
 |cons p r a=>rw[Q3,Q3];unfold aM;rw[a];rfl
theorem Gp:j8 (ps.map fun p=>(p.1:Int))=(fR ac).map fun p=>(p.1:Int):=by refine kz ((fD _).trans (Z.map _)) (eK _) ?_;rw[Vc];exact(E9 ac).imp fun h=>by omega
end
abbrev Sn:=List (Nat×Bool)
def lR (ac:Ac) (a:Mn):Bool:=decide (a∈(fR ac).map (·.2))
def pR (ac:Ac):Mn->Sn
 | .Rk c=>if lR ac (.Rk c)=QJ then[] else[(c,QJ)]
 |_=>[]
def Kk (ac:Ac):Mn->Sn
 | .Rk c=>if lR ac (.Rk c)=QJ then[] else[(c,QQ)]
 |_=>[]
def eT (p:Tc×Sn) (k:Nat) (a:Mn):Tc×Sn:=({p.1 with ac:=jR p.1.ac k (lD a)},p.2++pR p.1.ac a)
def go (p:Tc×Sn) (k:Nat):Tc×Sn:=match p.1.ac k with
 |some a=>({p.1 with ac:=jR p.1.ac k Ld},p.2++Kk (jR p.1.ac k Ld) a)
 |none=>p
def gF (p:Tc×Sn) (a:List (Nat×Mn)):Tc×Sn:=a.foldl (fun p q=>eT p q.1 q.2) p
def fZ (b:Bd) (ks:List Nat):Option (Nat×Int)->List Mn
 |some (_,n)=>[.S6 n]
 |none=>J3 b ks
def cc (b:Bd) (p:Tc×Sn):Tc×Sn:=match p.1.wt with
 |none=>p
 |some (ks,_,w)=>gF ({p.1 with wt:=Ld},p.2) (ks.zip (fZ b ks w))
def xp:Wq->Nat->Bool
 |some (ks,_,_),k=>decide (k∈ks)
 |none,_=>QQ
def yJ (b:Bd) (s:Tc) (k:Nat):Bool:=match s.wt with
 |some (ks,_,Ld)=>decide (ju s.ac s.oc=0)&& !(dZ b (ks++[k])).isEmpty
 |_=>QQ
def rA (b:Bd) (p:Tc×Sn) (k:Nat):Tc×Sn:=match p.1.wt with
 |some (ks,g,_)=>if(dZ b (ks++[k])).map (·.1.length)=[(ks++[k]).length] then cc b ({p.1 with wt:=lD (ks++[k],g,Ld)},p.2) else({p.1 with wt:=lD (ks++[k],g,Ld)},p.2)
 |none=>p
def ei (s:Tc) (m:Mn):Tc:=if(m.ZR||m.isO)=QJ then s else{s with oc:=Ld}
def tK (b:Bd) (L:Int) (p:Tc×Sn) (k:Nat):Mn->Tc×Sn
 | .Vo c n=>({p.1 with wt:=lD ([k],0,lD (c,n))},p.2)
 | .Rk c=>if(decide (L=0)&& !(dZ b [k]).isEmpty)=QJ then({p.1 with wt:=lD ([k],0,Ld)},p.2) else eT p k (.Rk c)
 | .once n=>({(eT p k .none).1 with oc:=lD n},(eT p k .none).2)
 |m=>eT p k m
def Br (b:Bd) (p:Tc×Sn) (k:Nat):Tc×Sn:=
 tK b (ju p.1.ac p.1.oc) (ei p.1 (look b (ju p.1.ac p.1.oc) k),p.2) k (look b (ju p.1.ac p.1.oc) k)
def hJ (b:Bd) (p:Tc×Sn) (k:Nat):Tc×Sn:=
 if((p.1.ac k).isSome||xp p.1.wt k)=QJ then p else if yJ b p.1 k=QJ then rA b p k else Br b (cc b p) k
def bO (b:Bd) (p:Tc×Sn) (k:Nat):Tc×Sn:=match p.1.wt with
 |some (_,_,Ld)=>cc b p
 |some (_,_,lD (c,_))=>eT ({p.1 with wt:=Ld},p.2) k (.Rk c)
 |none=>p
def mj (b:Bd) (p:Tc×Sn) (k:Nat):Tc×Sn:=go (if xp p.1.wt k=QJ then bO b p k else p) k
def gD (b:Bd) (p:Tc×Sn):Tc×Sn:=match p.1.wt with
 |none=>p
 |some (ks,g,w)=>if g+1=b.wt then cc b ({p.1 with wt:=lD (ks,g+1,w)},p.2) else({p.1 with wt:=lD (ks,g+1,w)},p.2)
def bR (b:Bd) (s:Tc):Vf->Tc×Sn
 | .down k=>hJ b (s,[]) k
 | .up k=>mj b (s,[]) k
 | .turn=>gD b (s,[])
def tf (b:Bd) (s:Tc):List (Str×SV):=[("bed",.fz (bD b)),("acts",.rf 1),("waiting",.fz (iu s.wt)),("once",.fz (n9 s.oc)),("sent",.rf 2)]
def kY (p:Nat×Bool):D:= .tuple [.str (dj p.1),.str (if p.2=QJ then "down" else "up")]
def ef (b:Bd) (s:Tc) (sn:Sn) (ps:List (Nat×Mn)) (J:aV):aV:= .obj "Hand" (tf b s):: .WH (ps.map jC):: .lst ((sn.map kY).map .fz)::J
def HS (b:Bd) (p:Tc×Sn) (Z:aV):Prop:=∃ps J,ps.Perm (fR p.1.ac)/\Z=ef b p.1 p.2 ps J
section
variable {b:Bd} {s:Tc} {sn:Sn} {ps:List (Nat×Mn)} {J:aV} {ρ:bp} {i:Nat} {Z:aV} {p:Tc×Sn} {k:Nat} {a:Mn}
theorem Nw:(tf b s).lookup ("bed":Str)=-(bD b):=by unfold tf;rw[Tu]
theorem Ie:(tf b s).lookup ("acts":Str)=lD (.rf 1):=by unfold tf;rw[Q7,show(("acts":Str)== "bed")=QQ by left];dsimp only;rw[Tu]
theorem Il:(tf b s).lookup ("waiting":Str)=-(iu s.wt):=by unfold tf;rw[Q7,show(("waiting":Str)== "bed")=QQ by left];dsimp only;rw[Q7,show(("waiting":Str)== "acts")=QQ by left];dsimp only;rw[Tu]
theorem Io:(tf b s).lookup ("once":Str)=-(n9 s.oc):=by unfold tf;rw[Q7,show(("once":Str)== "bed")=QQ by left];dsimp only;rw[Q7,show(("once":Str)== "acts")=QQ by left];dsimp only;rw[Q7,show(("once":Str)== "waiting")=QQ by left];dsimp only;rw[Tu]
theorem HP:(tf b s).lookup ("sent":Str)=lD (.rf 2):=by unfold tf;rw[Q7,show(("sent":Str)== "bed")=QQ by left];dsimp only;rw[Q7,show(("sent":Str)== "acts")=QQ by left];dsimp only;rw[Q7,show(("sent":Str)== "waiting")=QQ by left];dsimp only;rw[Q7,show(("sent":Str)== "once")=QQ by left];dsimp only;rw[Tu]
def PU (m:Str):Bool:=(m== "bed"||m== "acts"||m== "waiting"||m== "once"||m== "sent")==QQ
theorem NV (h:PU m=QJ):(tf b s).lookup m=Ld:=by unfold PU at h;simp only[beq_iff_eq,Zu] at h;obtain⟨⟨⟨⟨l,j⟩,g⟩,f⟩,e⟩:=h;unfold tf;rw[Q7,l];dsimp only;rw[Q7,j];dsimp only;rw[Q7,g];dsimp only;rw[Q7,f];dsimp only;rw[Q7,e];rfl
theorem nv (h:ρ[i]? =lD (lD (.rf 0))):a9 "Hand" "bed" (aw i) ρ (ef b s sn ps J)= .ok (.fz (bD b)) (ef b s sn ps J):=gW (b9 h) rfl Nw
theorem gJ (h:ρ[i]? =lD (lD (.rf 0))):a9 "Hand" "acts" (aw i) ρ (ef b s sn ps J)= .ok (.rf 1) (ef b s sn ps J):=gW (b9 h) rfl Ie
theorem bN (h:ρ[i]? =lD (lD (.rf 0))):a9 "Hand" "waiting" (aw i) ρ (ef b s sn ps J)= .ok (.fz (iu s.wt)) (ef b s sn ps J):=gW (b9 h) rfl Il
theorem BR (h:ρ[i]? =lD (lD (.rf 0))):a9 "Hand" "once" (aw i) ρ (ef b s sn ps J)= .ok (.fz (n9 s.oc)) (ef b s sn ps J):=gW (b9 h) rfl Io
theorem tG (h:ρ[i]? =lD (lD (.rf 0))):a9 "Hand" "sent" (aw i) ρ (ef b s sn ps J)= .ok (.rf 2) (ef b s sn ps J):=gW (b9 h) rfl HP
theorem DA (w:Wq):e9 "waiting" (.fz (iu w)) (tf b s)=tf b {s with wt:=w}:=by unfold tf;unfold e9;rw[if_neg (by left)];unfold e9;rw[if_neg (by left)];unfold e9;rw[if_pos rfl]
theorem Fo (o:Option Int):e9 "once" (.fz (n9 o)) (tf b s)=tf b {s with oc:=o}:=by unfold tf;unfold e9;rw[if_neg (by left)];unfold e9;rw[if_neg (by left)];unfold e9;rw[if_neg (by left)];unfold e9;rw[if_pos rfl]
theorem kJ (w:Wq) (h:ρ[i]? =lD (lD (.rf 0))) (e:fe ρ Z= .ok (.fz (iu w)) (ef b s sn ps J)):fP "Hand" "waiting" (aw i) fe ρ Z= .ok (.nx ρ) (ef b {s with wt:=w} sn ps J):=
 (nK e (b9 h) rfl (by exact QL rfl)).trans (by rw[DA];rfl)
theorem AR (o:Option Int) (h:ρ[i]? =lD (lD (.rf 0))) (e:fe ρ Z= .ok (.fz (n9 o)) (ef b s sn ps J)):fP "Hand" "once" (aw i) fe ρ Z= .ok (.nx ρ) (ef b {s with oc:=o} sn ps J):=
 (nK e (b9 h) rfl (by exact QL rfl)).trans (by rw[Fo];rfl)
theorem b4 (e:HS b p Z) (hm:PU m=QJ) (h:ρ[i]? =lD (lD (.rf 0))) (ha:fa ρ Z= .ok xs Z) (hn:(SV.rf 0::xs).length=n) (f:F (.rf 0::xs) Z= .ok x Z'):aO "Hand" m F n (aw i) fa ρ Z= .ok x Z':=by obtain⟨ps,J,g,rfl⟩:=e;exact BN (b9 h) rfl (NV hm) ha hn f
theorem GD (ps:List (Nat×Mn)):(ps.map jC).map (·.2)=((ps.map (·.2)).map mD).map SV.fz:=by rw[RL,RL,RL];rfl
def AK (ac:Ac):Prop:=∀k a,ac k=lD a->k<5/\LB a
theorem Et (f:HS b p Z) (g:AK p.1.ac) (ha:LB a):∃Z',bL [.rf 0,.fz (mD a)] Z= .ok (.fz (.bool (lR p.1.ac a))) Z'/\HS b p Z':=by
 obtain⟨ps,J,e,rfl⟩:=f;have j:lR p.1.ac a=decide (a∈ps.map (·.2)):=decide_eq_decide.mpr (e.map (·.2)).symm.mem_iff;have lb:∀m∈ps.map (·.2),LB m:=fun m hm=>by obtain⟨q,h,rfl⟩:=Rn.mp hm;exact(g _ _ ((jK e).mp h).2).2
 refine⟨ef b p.1 p.2 ps (J++[.lst ((ps.map jC).map (·.2))]),?_,ps,_,e,rfl⟩;rw[j];exact iG rfl (g9 (dS (ah (af rfl)) (G3 (gJ rfl) rfl) (t8 rfl (iB (by rw[GD];exact aX)) (Hw ha lb))))
theorem Aj (f:sn.length<1000) (h:ρ[i]? =lD (lD (.rf 0))) (e:fe ρ (ef b s sn ps J)= .ok (.fz (kY (c,d))) (ef b s sn ps J)):rS (a9 "Hand" "sent" (aw i)) fe ρ (ef b s sn ps J)= .ok (.fz .none) (ef b s (sn++[(c,d)]) ps J):=
 (uH (tG h) rfl e rfl (by rw[QI,QI];omega)).trans (by unfold ef;rw[Rm,Rm];rfl)
theorem ri (e:ps.Perm (fR s.ac)) (h:k<5) (o:ρ[0]? =lD (lD (.rf 0))) (n:ρ[1]? =lD (-(nd k))) (m:ρ[2]? =lD (-(mD a))):∃qs:List (Nat×Mn),qs.Perm (fR (jR s.ac k (lD a)))/\wm (a9 "Hand" "acts" (aw 0)) (ag (aa 1)) (ag (aa 2)) ρ (ef b s sn ps J)= .ok (.nx ρ) (ef b {s with ac:=jR s.ac k (lD a)} sn qs J):=by obtain⟨qs,l,j⟩:=G9 e h;have g:aa 1 (cx ρ)= .ok (.fz (nd k),cx ρ):=af (by unfold cx;rw[QW,n];rfl);have f:aa 2 (cx ρ)= .ok (.fz (mD a),cx ρ):=af (by unfold cx;rw[QW,m];rfl);refine⟨qs,j,(Jw (ah f) (gJ o) (ah g) rfl rfl (by rw[QI];have:=Ey e;omega)).trans ?_⟩;rw[l];rfl
theorem oZ (j:HS b p Z) (v:AK p.1.ac) (ha:LB a) (l:k<5) (u:p.2.length<1000):∃Z',bq [.rf 0,.fz (nd k),.fz (mD a)] Z= .ok (.fz .none) Z'/\HS b (eT p k a) Z':=by
 have e0:=nZ a;have r:=kB a;cases q:a.isL with
 |false=>
  obtain⟨ps,J,g,rfl⟩:=j;rw[q] at r;obtain⟨f,h,w⟩:=ri (ρ:=[lD (.rf 0),-(nd k),-(mD a)]) g l rfl rfl rfl;refine⟨_,mL rfl (cI (dL (gc (bH (by fail "ev"))) d8) w),f,J,h,?_⟩;have:pR p.1.ac a=[]:=by cases a<;>first|rfl|cases q
  unfold eT;rw[this,RF]
 |true=>
  rw[q] at r;obtain⟨y,h,A⟩:=Et j v ha;have t:∀o,lR p.1.ac a=o->(lF (bQ (aF (aC cV (aC bc (aa 2) (~~~0)) (pC (.str "letter"))))) (vN (bS (aO "Hand" "has_act" bL 2 (aw 0) (ao (ag (aa 2)) aW))))) [lD (.rf 0),-(nd k),-(mD a)] Z= .ok (!o) y:=fun o e=>by rw[e] at h;exact gj (bH (by fail "ev")) (pB (aZ (b4 j (by left) rfl (au (ah (af rfl)) aQ) rfl h)))
  obtain⟨ps,J,g,rfl⟩:=A;cases q2:lR p.1.ac a with
  |true=>
   obtain⟨f,n,m⟩:=ri (ρ:=[lD (.rf 0),-(nd k),-(mD a)]) g l rfl rfl rfl;refine⟨_,mL rfl (cI (dL (t QJ q2) d8) m),f,J,n,?_⟩;have:pR p.1.ac a=[]:=by
    cases a<;>first|cases q|skip
    show(if lR p.1.ac _=QJ then _ else _)=_;rw[if_pos q2]
   unfold eT;rw[this,RF]
  |false=>
   cases a<;>first|cases q|skip
   rename_i c;obtain⟨f,n,m⟩:=ri (ρ:=[lD (.rf 0),-(nd k),-(mD (.Rk c))]) (sn:=p.2++[(c,QJ)]) g l rfl rfl rfl;have B:bc (mD (.Rk c)) (.int 1)=-(.str (dj c)):=i7;refine⟨_,mL rfl (cI (dJ (t QQ q2) (hV (Aj u rfl (ah (show _=Res.ok (PV.fz (.tuple [.str (dj c),.str "down"]),_) by fail "ev"))))) m),f,J,n,?_⟩;have:pR p.1.ac (.Rk c)=[(c,QJ)]:=by show(if lR p.1.ac _=QJ then _ else _)=_;rw[if_neg (by rw[q2];simp)]
   unfold eT;rw[this]
end
end STP
namespace STP
open PySem L2 L3 L10
def VA (a:Int):Mn->Prop
 | .Rk c=>c<26
 | .S6 n=>1<=n/\n<a
 | .none=>True
 |_=>False
theorem VA.lb (h:VA nL m):LB m:=by
 cases m with
 |Rk c=>exact h
 |Vo c n=>exact h.elim
 |_=>trivial
structure SA (b:Bd) (s:Tc):Prop where
 ac:∀k a,s.ac k=lD a->(k:Int)<b.n/\VA b.ls.length a
 oc:∀o,s.oc=lD o->1<=o/\o<b.ls.length
structure WV (b:Bd) (ac:Ac) (ks:List Nat) (g:Int) (w:Option (Nat×Int)):Prop where
 ne:ks≠[]
 nd:ks.Nodup
 kn:∀k∈ks,(k:Int)<b.n
 kf:∀k∈ks,ac k=Ld
 g0:0<=g
 tp:∀c n,w=lD (c,n)->c<26/\(1<=n/\n<b.ls.length)/\ks.length=1
 ch:w=Ld->∀k∈ks,mZ (b.ls.headD []) k=QJ
structure SW (b:Bd) (s:Tc):Prop where
 sa:SA b s
 wt:∀ks g w,s.wt=lD (ks,g,w)->WV b s.ac ks g w/\g<b.wt
theorem zp {ks:List Nat} (hd:ks.Nodup) (h:∀k∈ks,k<n):ks.length<=n:=by rw[<-Hv ks];have b:=(rq ks).nodup_iff.mpr hd;refine Ic (((ye ks).and b).imp fun h=>by omega) fun k a=>h k ((rq ks).mem_iff.mp a)
section
variable {b:Bd} (Z:VB b) {s:Tc} {p:Tc×Sn} {ks:List Nat} {g:Int} {w:Option (Nat×Int)} {ac:Ac} {k:Nat} {a:Mn}
include Z
theorem WV.len (h:WV b ac ks g w):ks.length<=5:=zp h.nd fun k e=>by have:=h.kn k e;have:=Z.n5;omega
omit Z in
theorem WV.age (h:WV b ac ks g w):1<=ks.length:=List.length_pos_iff.mpr h.ne
theorem SA.ak (h:SA b s):AK s.ac:=fun k a e=>by have:=h.ac k a e;have:=Z.n5;exact⟨by omega,(h.ac k a e).2.lb⟩
omit Z in
theorem SA.cm (h:SA b p.1) (f:(k:Int)<b.n) (ha:VA b.ls.length a):SA b (eT p k a).1:=by
 refine⟨fun j x e=> ?_,h.oc⟩;by_cases z:j=k
 .subst z;have i:lD a=lD x:=(dR (ac:=p.1.ac) (k:=j) (o:=lD a)).symm.trans e;cases i;exact⟨f,ha⟩
 .exact h.ac j x ((fA z).symm.trans e)
omit Z in
theorem SA.gg (h:SA b p.1):SA b (go p k).1:=by
 unfold go;split
 .refine⟨fun j x e=> ?_,h.oc⟩
  by_cases z:j=k
  .subst z;exact absurd ((dR (ac:=p.1.ac) (k:=j) (o:=Ld)).symm.trans e) (by simp)
  .exact h.ac j x ((fA z).symm.trans e)
 .exact h
omit Z in
theorem mr:(eT p k a).2.length<=p.2.length+1:=by
 show(p.2++pR p.1.ac a).length<=_;rw[QO];have:(pR p.1.ac a).length<=1:=by
  cases a with
  |Rk c=>show(if _ then _ else _:Sn).length<=1;split<;>simp
  |_=>simp[pR]
 omega
omit Z in
theorem CW (e:List (Nat×Mn)):∀p:Tc×Sn,(gF p e).2.length<=p.2.length+e.length:=by
 induction e with
 |nil=>exact fun p=>QU _
 |cons q r f=>intro p;have i:=f (eT p q.1 q.2);have h:=mr (p:=p) (k:=q.1) (a:=q.2);show(gF (eT p q.1 q.2) r).2.length<=_;rw[Q5];omega
omit Z in
theorem SA.cms (e:List (Nat×Mn)):∀{p:Tc×Sn},SA b p.1->(∀q∈e,(q.1:Int)<b.n/\VA b.ls.length q.2)->SA b (gF p e).1/\(gF p e).1.wt=p.1.wt/\(gF p e).1.oc=p.1.oc:=by
 induction e with
 |nil=>exact fun h _=>⟨h,rfl,rfl⟩
 |cons q r j=>intro p h f;have i:=f q QS;exact j (h.cm i.1 i.2) fun x l=>f x (QV _ l)
theorem yA (h:mZ (b.ls.headD []) k=QJ):∃c,jv b 0 k= .Rk c:=by
 have i:=Z.l1;obtain⟨f,r,e⟩:∃f r,b.ls=f::r:=by
  cases q:b.ls with
  |nil=>rw[q] at i;cases i
  |cons l r=>exact⟨l,r,rfl⟩
 unfold mZ at h;unfold jv;rw[e] at h⊢;rw[Yy,W6];rw[aa9] at h;cases q:f[k]? with
 |none=>rw[q] at h;cases h
 |some m=>
  rw[q] at h;cases m with
  |Rk c=>exact⟨c,rfl⟩
  |_=>cases h
theorem Im (f:(k:Int)<b.n) (h:mZ (b.ls.headD []) k=QJ):VA b.ls.length (jv b 0 k):=by have i:=Z.l1;obtain⟨c,e⟩:=yA Z h;have:=zG Z (L:=0) (by omega) f;rw[e] at this⊢;exact this
theorem Nz (h:WV b ac ks g Ld):∀m∈J3 b ks,VA b.ls.length m:=by
 intro m hm;unfold J3 at hm;split at hm
 .rename_i c f
  rcases Rc.mp hm with rfl|hm
  .exact(Z.vc c (U7 f)).2.2.2
  .rw[(WQ.mp hm).2];trivial
 .obtain⟨j,e,rfl⟩:=Rn.mp hm;exact Im Z (h.kn j e) (h.ch rfl j e)
theorem uR (h:WV b ac ks g w):∀q∈ks.zip (fZ b ks w),(q.1:Int)<b.n/\VA b.ls.length q.2:=by
 intro q f;have e:=T4 f;refine⟨h.kn _ e.1,?_⟩;cases w with
 |none=>exact Nz Z h _ e.2
 |some i=>obtain⟨c,n⟩:=i;rw[Q2.mp e.2];exact(h.tp c n rfl).2.1
def WD (b:Bd) (s:Tc):Prop:=∀ks g w,s.wt=lD (ks,g,w)->WV b s.ac ks g w
theorem eF (h:SA b p.1) (i:WD b p.1):SW b (cc b p).1/\(cc b p).1.wt=Ld/\(cc b p).2.length<=p.2.length+5/\(cc b p).1.oc=p.1.oc:=by
 unfold cc;split
 .rename_i q;exact⟨⟨h,fun ks g w e=>by rw[q] at e;cases e⟩,q,aba _ _,rfl⟩
 .rename_i ks g w q
  have v:=i ks g w q;obtain⟨l,f,j⟩:=SA.cms (ks.zip (fZ b ks w)) (p:=({p.1 with wt:=Ld},p.2)) ⟨h.ac,h.oc⟩ (uR Z v);refine⟨⟨l,fun _ _ _ e=> ?_⟩,f,?_,j⟩
  .rw[f] at e;cases e
  .have:=CW (ks.zip (fZ b ks w)) ({p.1 with wt:=Ld},p.2);have m:=v.len Z;rw[abb] at this;have:(gF ({p.1 with wt:=Ld},p.2) (ks.zip (fZ b ks w))).2.length<=p.2.length+min ks.length (fZ b ks w).length:=this;omega
omit Z in
theorem Bm:∀(l:List Int) (m:Option Int),l.foldl j5 m=m\/∃x∈l,l.foldl j5 m=lD x
 |[],m=> .inl rfl
 |x::r,m=>by
  rw[VJ];rcases Bm r (j5 m x) with h|⟨y,hy,h⟩
  .rw[h]
   cases m with
   |none=>exact .inr ⟨x,QS,rfl⟩
   |some z=>
    show lD (if x>z then x else z)=lD z\/_;split
    .exact .inr ⟨x,QS,by show lD (if x>z then x else z)=_;rename_i q;rw[if_pos q]⟩
    .exact .inl rfl
  .exact .inr ⟨y,QV _ hy,h⟩
omit Z in
theorem AX:∀(l:List Int) (m:Option Int),(∀x∈l,∃y,l.foldl j5 m=lD y/\x<=y)/\∀z,m=lD z->∃y,l.foldl j5 m=lD y/\z<=y
 |[],m=>⟨fun x i=>(by cases i),fun z h=>⟨z,h,Wi _⟩⟩
 |x::r,m=>by
  rw[VJ];obtain⟨q,o⟩:=AX r (j5 m x);have n:∃z,j5 m x=lD z/\x<=z/\∀u,m=lD u->u<=z:=by
   cases m with
   |none=>exact⟨x,rfl,Wi _,fun u h=>by cases h⟩
   |some u=>
    refine⟨if x>u then x else u,rfl,?_,fun v h=> ?_⟩
    .split<;>omega
    .cases h;split<;>omega
  obtain⟨z,A,C,t⟩:=n;obtain⟨y,f,B⟩:=o z A;refine⟨fun v e=> ?_,fun u j=>⟨y,f,by have:=t u j;omega⟩⟩;rcases Rc.mp e with rfl|e
  .exact⟨y,f,by omega⟩
  .exact q v e
omit Z in
theorem Ae {ac:Ac} {n:Int}:n∈(fR ac).filterMap GS↔∃k,k<5/\ac k=lD (.S6 n):=by
 rw[UW];constructor
 .rintro⟨⟨k,m⟩,f,e⟩
  have h:=fy.mp f;cases m with
  |S6 x=>have:x=n:=Ra e;subst this;exact⟨k,h.1,h.2⟩
  |_=>cases e
 .rintro⟨k,f,e⟩;exact⟨(k,.S6 n),fy.mpr ⟨f,e⟩,rfl⟩
theorem Jp (h:SA b s):0<=v7 s.ac/\v7 s.ac<b.ls.length/\(∀k n,s.ac k=lD (.S6 n)->n<=v7 s.ac)/\(v7 s.ac=0\/∃k,s.ac k=lD (.S6 (v7 s.ac))):=by
 have o:=Z.l1;have q:=Z.n5;unfold v7;generalize hm:((fR s.ac).filterMap GS).foldl j5 Ld=m;have j:=(AX ((fR s.ac).filterMap GS) Ld).1;have f:=Bm ((fR s.ac).filterMap GS) Ld;rw[hm] at j f;have up:∀k n,s.ac k=lD (.S6 n)->∃y,m=lD y/\n<=y:=fun k n e=>j n (Ae.mpr ⟨k,by have:=(h.ac k _ e).1;omega,e⟩);cases m with
 |none=>refine⟨Wi _,by show(0:Int)<_;omega,fun k n e=> ?_,.inl rfl⟩;obtain⟨y,i,_⟩:=up k n e;cases i
 |some x=>
  rcases f with f|⟨y,hy,f⟩
  .cases f
  .cases f;obtain⟨k,_,e⟩:=Ae.mp hy;have:=(h.ac k _ e).2;have:1<=x/\x<b.ls.length:=this;refine⟨by show 0<=x;omega,by show x<_;omega,fun k n e=> ?_,.inr ⟨k,e⟩⟩;obtain⟨y,i,l⟩:=up k n e;cases i;exact l
theorem vt (h:SA b s):0<=ju s.ac s.oc/\ju s.ac s.oc<b.ls.length:=by
 cases q:s.oc with
 |none=>have:=Jp Z h;exact⟨this.1,this.2.1⟩
 |some o=>have:=h.oc o q;exact⟨by show 0<=o;omega,this.2⟩
end
section
variable {b:Bd} {s:Tc} {sn:Sn} {ps:List (Nat×Mn)} {J:aV} {ρ:bp} {i:Nat} {Z:aV} {p:Tc×Sn} {k:Nat} {a:Mn}
theorem yH (h:f x=lD y):aM f [x]=lD [y]:=by unfold aM;rw[h];rfl
theorem fF:(l++[c]).set l.length c'=l++[c']:=by simp
theorem nR (f:HS b p Z):∃Z',bB [.rf 0] Z= .ok (.fz (eR p.1)) Z'/\HS b p Z':=by
 obtain⟨ps,J,e,rfl⟩:=f;have h:=Ey e;have j:mw (sr (a9 "Hand" "acts" (aw 0))) [lD (.rf 0)] (ef b p.1 p.2 ps J)= .ok ((fR p.1.ac).map fun q=>nd q.1) (ef b p.1 p.2 ps (J++[.dead])):=by
  refine(EY (ds:=(fR p.1.ac).map fun q=>nd q.1) (IP (gJ rfl) rfl (Fm e) (by rw[QI];omega)) ?_).trans ?_
  .rw[Gp e];refine aX.trans ?_;rw[RL,RL];rfl
  .rw[fF];rfl
 have l:eE (gn 0) pI (nt (ao (ag (aa 0)) (ao (so (a9 "Hand" "acts" (aw 1)) (ag (aa 0))) aW))) ((fR p.1.ac).map fun q=>nd q.1) [Ld,lD (.rf 0)] (ef b p.1 p.2 ps (J++[.dead])) []= .ok (((fR p.1.ac).map pD).map .fz) (ef b p.1 p.2 ps (J++[.dead])):=by refine(mX (fun q:Nat×Mn=>nd q.1) (fun q=> .fz (pD q)) _ (fun ρ=>∃o,ρ=[o,lD (.rf 0)]) (fR p.1.ac) _ [] ⟨Ld,rfl⟩ (by have:=vg p.1.ac;rw[Ta];omega) ?_).trans (by rw[RL];rfl);rintro q g ρ ⟨o,rfl⟩;have hm:=fy.mp g;refine⟨[-(nd q.1),lD (.rf 0)],rfl,rfl,?_,_,rfl⟩;exact uh (au (ah (af rfl)) (au (Jo (gJ rfl) (ah (af rfl)) rfl rfl (by rw[l4 e hm.1,hm.2];rfl)) aQ)) (QL rfl)
 have tp:G5 iX (ao (qB 1 [0] (mw (sr (a9 "Hand" "acts" (aw 0)))) (gn 0) pI (nt (ao (ag (aa 0)) (ao (so (a9 "Hand" "acts" (aw 1)) (ag (aa 0))) aW)))) aW) [lD (.rf 0)] (ef b p.1 p.2 ps J)= .ok (.fz (.tuple ((fR p.1.ac).map pD))) (ef b p.1 p.2 ps (J++[.dead]++[.lst (((fR p.1.ac).map pD).map .fz)])):=
  GH (au (AZ j l) aQ) (yH (iB aX)) rfl
 exact⟨_,iG rfl (g9 (uh (au tp (au (bN rfl) (au (BR rfl) aQ))) (QL rfl))),ps,_,e,rfl⟩
theorem E7 (h:HS b p Z):bV [.rf 0,.fz (nd k)] Z= .ok (.fz (.bool (xp p.1.wt k))) Z:=by
 obtain⟨ps,J,l,rfl⟩:=h;refine iG rfl (g9 ?_);cases q:p.1.wt with
 |none=>
  have e:kr (iu p.1.wt) .none=-(.bool QQ):=by rw[q];rfl
  exact B2 (aZ (dS (bN rfl) (ah aD) (cD e)))
 |some x=>
  obtain⟨f,g,w⟩:=x;have e:kr (iu p.1.wt) .none=-(.bool QJ):=by rw[q];rfl
  have j:bc (iu p.1.wt) (.int 0)=-(.tuple (a8 f)):=by rw[q];exact ip
  exact Cl (aZ (dS (bN rfl) (ah aD) (cD e))) (dS (ah (af rfl)) (cX (bN rfl) (ah aD) j) (cD (ug _ _)))
theorem ON (E:HS b p Z) (n:AK p.1.ac) (ha:p.1.ac k=lD a) (F:p.2.length<1000):∃Z',iY [.rf 0,.fz (nd k)] Z= .ok (.fz .none) Z'/\HS b (go p k) Z':=by
 obtain⟨ps,J,A,rfl⟩:=E;have G:=(n k a ha).1;have lb:=(n k a ha).2;obtain⟨f,K,u⟩:=FL A
 have l:wX (a9 "Hand" "acts" (aw 0)) (ag (aa 1)) [lD (.rf 0),-(nd k),Ld] (ef b p.1 p.2 ps J)= .ok (.fz (mD a)) (ef b {p.1 with ac:=jR p.1.ac k Ld} p.2 f J):=
  (Hi (gJ rfl) rfl (ah (af rfl)) rfl rfl (by rw[l4 A G,ha];rfl)).trans (by rw[K];rfl)
 have H:go p k=({p.1 with ac:=jR p.1.ac k Ld},p.2++Kk (jR p.1.ac k Ld) a):=by unfold go;rw[ha]
 rw[H];have m:AK (jR p.1.ac k Ld):=fun j x e=>by
  by_cases z:j=k
  .subst z;rw[dR] at e;cases e
  .rw[fA z] at e;exact n j x e
 have e0:=nZ a;have N:=kB a;have g:aF (aC cV (aC bc (aa 2) (~~~0)) (pC (.str "letter"))) (cx [lD (.rf 0),-(nd k),-(mD a)])= .ok (a.isL,cx [lD (.rf 0),-(nd k),-(mD a)]):=by fail "ev"
 have t:UQ (cB (lF (bQ (aF (aC cV (aC bc (aa 2) (~~~0)) (pC (.str "letter"))))) (vN (bS (aO "Hand" "has_act" bL 2 (aw 0) (ao (ag (aa 2)) aW))))) (bU (rS (a9 "Hand" "sent" (aw 0)) (ag (bj {aC bc (aa 2) (~~~1),pC (.str "up")})))) cC [lD (.rf 0),-(nd k),-(mD a)] (ef b {p.1 with ac:=jR p.1.ac k Ld} p.2 f J)) (fun _ Z'=>SV.fz .none= .fz .none/\HS b ({p.1 with ac:=jR p.1.ac k Ld},p.2++Kk (jR p.1.ac k Ld) a) Z') (fun _ _=>False) (fun r Z'=>r= .fz .none/\HS b ({p.1 with ac:=jR p.1.ac k Ld},p.2++Kk (jR p.1.ac k Ld) a) Z'):=by
  cases q:a.isL with
  |false=>
   rw[q] at g;refine ez (gc (bH g)) (kC ⟨rfl,f,J,u,?_⟩);have:Kk (jR p.1.ac k Ld) a=[]:=by cases a<;>first|rfl|cases q
   rw[this,RF]
  |true=>
   rw[q] at g;obtain⟨B,o,L⟩:=Et (p:=({p.1 with ac:=jR p.1.ac k Ld},p.2)) ⟨f,J,u,rfl⟩ m lb;have v:∀h,lR (jR p.1.ac k Ld) a=h->(lF (bQ (aF (aC cV (aC bc (aa 2) (~~~0)) (pC (.str "letter"))))) (vN (bS (aO "Hand" "has_act" bL 2 (aw 0) (ao (ag (aa 2)) aW))))) [lD (.rf 0),-(nd k),-(mD a)] (ef b {p.1 with ac:=jR p.1.ac k Ld} p.2 f J)= .ok (!h) B:=fun h e=>by
    have o:bL [.rf 0,.fz (mD a)] (ef b {p.1 with ac:=jR p.1.ac k Ld} p.2 f J)= .ok (.fz (.bool h)) B:=by rw[<-e];exact o
    exact gj (bH g) (pB (aZ (b4 (p:=({p.1 with ac:=jR p.1.ac k Ld},p.2)) ⟨f,J,u,rfl⟩ (by left) rfl (au (ah (af rfl)) aQ) rfl o)))
   obtain⟨w,C,y,I⟩:=L;rw[I] at v;cases q2:lR (jR p.1.ac k Ld) a with
   |true=>
    refine ez (v QJ q2) (kC ⟨rfl,w,C,y,?_⟩);have:Kk (jR p.1.ac k Ld) a=[]:=by
     cases a<;>first|cases q|skip
     show(if lR (jR p.1.ac k Ld) _=QJ then _ else _)=_;rw[if_pos q2]
    rw[this,RF]
   |false=>
    cases a<;>first|cases q|skip
    rename_i c;have M:bc (mD (.Rk c)) (.int 1)=-(.str (dj c)):=i7;refine pS (v QQ q2) (hW (Aj (d:=QQ) F rfl (ah (show _=Res.ok (PV.fz (.tuple [.str (dj c),.str "up"]),_) by fail "ev"))) ⟨rfl,w,C,y,?_⟩);have:Kk (jR p.1.ac k Ld) (.Rk c)=[(c,QQ)]:=by show(if lR (jR p.1.ac k Ld) _=QJ then _ else _)=_;rw[if_neg (by rw[q2];simp)]
    rw[this]
 exact iz rfl (jc l rfl t)
end
section
variable {b:Bd} (Y:VB b) {s:Tc} {sn:Sn} {ps:List (Nat×Mn)} {J:aV} {ρ:bp} {i:Nat} {Z:aV} {p:Tc×Sn} {k:Nat} {a:Mn} {ks:List Nat} {g:Int} {w:Option (Nat×Int)}
theorem E5:∀(ks:List Nat) (e:List Mn),lH (a8 ks) (e.map mD)=(ks.zip e).map pD
 |[],_=>by cases ‹List Mn›<;>rfl
 |_::_,[]=>rfl
 |k::r,a::t=>by show QK.tuple [nd k,mD a]::lH (a8 r) (t.map mD)=_;rw[E5 r t];rfl
theorem zi (h:∀c n,w=lD (c,n)->c<26):cV (ro w) (.tuple [.str "chord"])=-(.bool w.isNone)/\xE (ro w) (.tuple [.str "chord"])=-(.bool w.isSome):=by
 cases w with
 |none=>
  have l:lm (.tuple [.str "chord"])=QJ:=by left
  have j:QK.canLay0 (.tuple [.str "chord"])=QJ:=by left
  have f:QK.eqv (.tuple [.str "chord"]) (.tuple [.str "chord"])=QJ:=by left
  constructor
  .show(if(lm (.tuple [.str "chord"])&&QK.canLay0 (.tuple [.str "chord"]))=QJ then lD (RV.fz (.bool (QK.eqv (.tuple [.str "chord"]) (.tuple [.str "chord"])))) else Ld)=_;rw[l,j,f];rfl
  .show(if(lm (.tuple [.str "chord"])&&QK.canLay0 (.tuple [.str "chord"]))=QJ then lD (RV.fz (.bool (!QK.eqv (.tuple [.str "chord"]) (.tuple [.str "chord"])))) else Ld)=_;rw[l,j,f];rfl
 |some m=>
  obtain⟨c,n⟩:=m;have lb:LB (.Vo c n):=h c n rfl;have e:QK.eqv (mD (.Vo c n)) (.tuple [.str "chord"])=QQ:=by show(decide (("tap":Str)= "chord")&&QK.eqvAll [.str (dj c),.int n] [])=QQ;rw[show decide (("tap":Str)= "chord")=QQ by left];rfl
  constructor
  .show(if(lm (mD (.Vo c n))&&QK.canLay0 (.tuple [.str "chord"]))=QJ then lD (RV.fz (.bool (QK.eqv (mD (.Vo c n)) (.tuple [.str "chord"])))) else Ld)=_;rw[FP lb,show QK.canLay0 (.tuple [.str "chord"])=QJ by left,e];rfl
  .show(if(lm (mD (.Vo c n))&&QK.canLay0 (.tuple [.str "chord"]))=QJ then lD (RV.fz (.bool (!QK.eqv (mD (.Vo c n)) (.tuple [.str "chord"])))) else Ld)=_;rw[FP lb,show QK.canLay0 (.tuple [.str "chord"])=QJ by left,e];rfl
theorem xA (ks:List Nat) (w:Option (Nat×Int)) (f:List Mn):∀(h:List (Nat×Mn)) (p:Tc×Sn) (Z:aV) (n m:Option SV),HS b p Z->AK p.1.ac->(∀q∈h,q.1<5/\LB q.2)->p.2.length+h.length<1000->
  ∃ρ' Z',jQ (N8 2 (tQ (gn 4) (tQ (gn 5) Gg))) (bU (aO "Hand" "come" bq 3 (aw 0) (ao (ag (aa 4)) (ao (ag (aa 5)) aW)))) (h.map pD) [lD (.rf 0),-(.tuple (a8 ks)),-(ro w),-(.list (f.map mD)),n,m] Z= .ok (.nx ρ') Z'/\HS b (gF p h) Z'
 |[],p,Z,n,m,hs,_,_,_=>⟨_,Z,rfl,hs⟩
 |q::r,p,Z,n,m,hs,hA,hq,hl=>by
  rw[Q5] at hl;have l:=hq q QS;obtain⟨t,A,E⟩:=oZ hs hA l.2 l.1 (by omega);have o:AK (eT p q.1 q.2).1.ac:=fun j x e=>by
   by_cases z:j=q.1
   .have B:lD q.2=lD x:=by rw[z] at e;exact(dR).symm.trans e
    cases B;exact⟨by rw[z];exact l.1,l.2⟩
   .exact hA j x ((fA z).symm.trans e)
  have:=mr (p:=p) (k:=q.1) (a:=q.2);obtain⟨ρ',Z',y,C⟩:=xA ks w f r (eT p q.1 q.2) t (-(nd q.1)) (-(mD q.2)) E o (fun x v=>hq x (QV _ v)) (by omega);refine⟨ρ',Z',?_,C⟩
  have u:bU (aO "Hand" "come" bq 3 (aw 0) (ao (ag (aa 4)) (ao (ag (aa 5)) aW))) [lD (.rf 0),-(.tuple (a8 ks)),-(ro w),-(.list (f.map mD)),-(nd q.1),-(mD q.2)] Z= .ok (.nx [lD (.rf 0),-(.tuple (a8 ks)),-(ro w),-(.list (f.map mD)),-(nd q.1),-(mD q.2)]) t:=
   hV (b4 hs (by left) rfl (au (ah (af rfl)) (au (ah (af rfl)) aQ)) rfl A)
  show((bU (aO "Hand" "come" bq 3 (aw 0) (ao (ag (aa 4)) (ao (ag (aa 5)) aW))) [lD (.rf 0),-(.tuple (a8 ks)),-(ro w),-(.list (f.map mD)),-(nd q.1),-(mD q.2)] Z).bind _)=_;rw[u,RS.bind_ok];exact y
include Y
theorem kE (u:HS b p Z) (o:SA b p.1) (f:p.1.wt=lD (ks,g,w)) (v:WV b p.1.ac ks g w) (L:p.2.length<900):∃Z',bT [.rf 0] Z= .ok (.fz .none) Z'/\HS b (cc b p) Z':=by
 obtain⟨ps,J,A,rfl⟩:=u;have e0:bc (iu p.1.wt) (.int 0)=-(.tuple (a8 ks)):=by rw[f];exact ip
 have G:bc (iu p.1.wt) (.int 2)=-(ro w):=by rw[f];exact rB
 have r:=v.len Y;have t:=v.age;have F:=zi fun c n h=>(v.tp c n h).1;have E:cc b p=gF ({p.1 with wt:=Ld},p.2) (ks.zip (fZ b ks w)):=by unfold cc;rw[f]
 rw[E];have m:aF (aC cV (aa 2) (pC (.tuple [.str "chord"]))) (cx [lD (.rf 0),-(.tuple (a8 ks)),-(ro w),Ld,Ld,Ld])= .ok (w.isNone,cx [lD (.rf 0),-(.tuple (a8 ks)),-(ro w),Ld,Ld,Ld]):=bK (aE (af rfl) aD rfl rfl F.1) rfl;have l:mH (Lg (bQ (aF (aC cV (aa 2) (pC (.tuple [(.str "chord")]))))) (iL fM 2 (ao (a9 "Hand" "bed" (aw 0)) (ao (ag (aa 1)) aW))) (ag (dC {bj {pC (.str "layer"),aC bc (aa 2) (~~~2)}}))) [lD (.rf 0),-(.tuple (a8 ks)),-(ro w),Ld,Ld,Ld] (ef b {p.1 with wt:=Ld} p.2 ps J)= .ok (.fz (.list ((fZ b ks w).map mD))) (ef b {p.1 with wt:=Ld} p.2 ps (J++[.dead])):=by
  cases w with
  |none=>have I:=MU Y t r v.kn;exact(j4 (G0 (bH m) (vo (au (nv rfl) (au (ah (af rfl)) aQ)) rfl I)) (kR aX)).trans (by rw[fF];rfl)
  |some H=>obtain⟨c,n⟩:=H;have K:bc (ro (lD (c,n))) (.int 2)=-(.int n):=rB;exact(j4 (HY (bH m) (eD (show _=Res.ok (PV.ow [.tuple [.str "layer",.int n]],_) by fail "ev"))) (kR aX)).trans (by rw[fF];rfl)
 have lp:∃e Z',xx (n6 (Gv {aa 1,aa 3})) (N8 2 (tQ (gn 4) (tQ (gn 5) Gg))) (bU (aO "Hand" "come" bq 3 (aw 0) (ao (ag (aa 4)) (ao (ag (aa 5)) aW)))) [lD (.rf 0),-(.tuple (a8 ks)),-(ro w),-(.list ((fZ b ks w).map mD)),Ld,Ld] (ef b {p.1 with wt:=Ld} p.2 ps (J++[.dead]))= .ok (.nx e) Z'/\HS b (gF ({p.1 with wt:=Ld},p.2) (ks.zip (fZ b ks w))) Z':=by
  have M:=Y.n5;obtain⟨e,Z',C,B⟩:=xA ks w (fZ b ks w) (ks.zip (fZ b ks w)) ({p.1 with wt:=Ld},p.2) (ef b {p.1 with wt:=Ld} p.2 ps (J++[.dead])) Ld Ld ⟨ps,_,A,rfl⟩ (SA.ak Y ⟨o.ac,o.oc⟩) (fun q y=>by
   have:=uR Y v q y;exact⟨by omega,this.2.lb⟩) (by
   rw[abb];show p.2.length+_<1000;omega)
  refine⟨e,Z',?_,B⟩;unfold xx;rw[p8 (BH (ai (af rfl) (ai (af rfl) aA)) rfl rfl rfl),RS.bind_ok,E5];exact C
 obtain⟨e,Z',lp,j⟩:=lp;refine⟨Z',mL (ρ1:=e) rfl ?_,j⟩;exact cI (nI (cX (bN rfl) (ah aD) e0) rfl) (cI (nI (cX (bN rfl) (ah aD) G) rfl) (cI (kJ Ld rfl (ah aD)) (cI (nI l rfl) lp)))
omit Y in
theorem Hh {c:List Nat×Nat} (h:c.2<26):QK.canLay0 (d4 c)=QJ:=by show(QK.canLayAll0 (a8 c.1)&&(QK.strOk (dj c.2)&&QJ))=QJ;rw[ii,qh h];rfl
omit Y in
theorem Nx:∀{cs:List (List Nat×Nat)},(∀c∈cs,c.2<26)->xE (.list (cs.map d4)) (.list [])=-(.bool (!cs.isEmpty)):=by
 intro cs h;have j:∀cs:List (List Nat×Nat),(∀c∈cs,c.2<26)->QK.canLayAll0 (cs.map d4)=QJ:=by
  intro cs
  induction cs with
  |nil=>exact fun _=>rfl
  |cons c r e=>intro h;show(QK.canLay0 (d4 c)&&QK.canLayAll0 (r.map d4))=QJ;rw[Hh (h c QS),e fun x l=>h x (QV _ l)];rfl
 have f:∀cs:List (List Nat×Nat),QK.depthAll (cs.map d4)<=2:=by
  intro cs
  induction cs with
  |nil=>exact Rp _
  |cons c r e=>show max (QK.depth (d4 c)) (QK.depthAll (r.map d4))<=2;refine afE.mpr ⟨?_,e⟩;show max (QK.depthAll (a8 c.1)+1) (max 0 0)+1<=2;rw[kH];decide
 show(if((QK.canLayAll0 (cs.map d4)&&decide (QK.depthAll (cs.map d4)+1<=64))&&QJ)=QJ then lD (RV.fz (.bool (!QK.eqvAll (cs.map d4) []))) else Ld)=_;rw[j cs h,decide_eq_true (show QK.depthAll (cs.map d4)+1<=64 by have:=f cs;omega)];cases cs<;>rfl
theorem JI (h:c∈dZ b ks):c.2<26:=(Y.vc c (SK.mp h).1).2.2.2
omit Y in
theorem AU (h:ks≠[]) (e:ks.length<=5):cH (.tuple (a8 ks)) (.tuple [nd k])=-(.tuple (a8 (ks++[k]))):=by
 show(if a8 ks≠[]/\(a8 ks).length+1<=1000000 then lD (RV.fz (.tuple (a8 ks++[nd k]))) else Ld)=_;rw[if_pos ⟨by cases ks with
  |nil=>exact absurd rfl h
  |cons x r=>simp[a8],by rw[cZ];omega⟩,JG]
 rfl
theorem Aq {fa:dU} {Z1:aV} (e:∃ps J,Z1=ef b s sn ps J) (l:ρ[0]? =lD (lD (.rf 0))) (f:ks.length<=5) (h:fa ρ Z1= .ok (.fz (.tuple (a8 ks))) Z1):mU xE (iL bE 2 (ao (a9 "Hand" "bed" (aw 0)) (ao fa aW))) (ag (dC aq)) ρ Z1= .ok (.fz (.bool (!(dZ b ks).isEmpty))) (Z1++[.lst (((dZ b ks).map d4).map .fz)]++[.lst []]):=by obtain⟨ps,J,rfl⟩:=e;refine dS (vo (ds:=[bD b,.tuple (a8 ks)]) (au (nv l) (au h aQ)) rfl (BP Y f)) (eD (ds:=[]) (ρ':=cx ρ) (lM aA rfl (Rp _))) ?_;exact t8 (iB (gS aX)) (iB (ds:=[]) aX) (Nx fun c j=>JI Y j)
theorem Mh (j:HS b p Z) (G:SW b p.1) (N:(k:Int)<b.n) (hn:xp p.1.wt k=QQ):∃Z',dE [.rf 0,.fz (nd k)] Z= .ok (.fz (.bool (yJ b p.1 k))) Z'/\HS b p Z':=by
 cases q:p.1.wt with
 |none=>
  have l:yJ b p.1 k=QQ:=by unfold yJ;rw[q]
  rw[l];obtain⟨ps,J,f,rfl⟩:=j;have m:ut (iu p.1.wt) .none=-(.bool QJ):=by rw[q];rfl
  exact⟨_,iG rfl (mW (dJ (qG (aZ (dS (bN rfl) (ah aD) (cD m)))) (g9 (ah aD)))),ps,J,f,rfl⟩
 |some x=>
  obtain⟨ks,g,w⟩:=x;have v:=(G.wt ks g w q).1;have H:=v.len Y;have m:ut (iu p.1.wt) .none=-(.bool QQ):=by rw[q];rfl
  have E:bc (iu p.1.wt) (.int 2)=-(ro w):=by rw[q];exact rB
  have e0:bc (iu p.1.wt) (.int 0)=-(.tuple (a8 ks)):=by rw[q];exact ip
  have C:=(zi fun c n h=>(v.tp c n h).1).2;cases w with
  |some P=>
   have l:yJ b p.1 k=QQ:=by unfold yJ;rw[q]
   rw[l];obtain⟨ps,J,f,rfl⟩:=j;exact⟨_,iG rfl (mW (dJ (mz (aZ (dS (bN rfl) (ah aD) (cD m))) (qG (aZ (dS (cX (bN rfl) (ah aD) E) (ah aD) (cD C))))) (g9 (ah aD)))),ps,J,f,rfl⟩
  |none=>
   have l:yJ b p.1 k=(decide (ju p.1.ac p.1.oc=0)&& !(dZ b (ks++[k])).isEmpty):=by unfold yJ;rw[q]
   rw[l];obtain⟨A,L,F⟩:=nR j;have o:(C9 (bS (mU ut (a9 "Hand" "waiting" (aw 0)) (ag (pC .none)))) (C9 (bS (mU xE (ka (a9 "Hand" "waiting" (aw 0)) (ag (~~~2))) (ag (pC (.tuple [(.str "chord")]))))) (bS (mU xE (iL dI 1 (ao (aO "Hand" "stands" bB 1 (aw 0) aW) aW)) (ag (~~~0)))))) [lD (.rf 0),-(nd k)] Z= .ok (!decide (ju p.1.ac p.1.oc=0)) A:=by
    have M:bS (mU xE (iL dI 1 (ao (aO "Hand" "stands" bB 1 (aw 0) aW) aW)) (ag (~~~0))) [lD (.rf 0),-(nd k)] Z= .ok (!decide (ju p.1.ac p.1.oc=0)) A:=
     aZ (dS (yu (au (b4 j (by left) rfl aQ rfl L) aQ) rfl (wQ p.1)) (ah aD) (cD (u7 _ _)))
    obtain⟨ps,J,f,rfl⟩:=j;exact mz (aZ (dS (bN rfl) (ah aD) (cD m))) (mz (aZ (dS (cX (bN rfl) (ah aD) E) (ah aD) (cD C))) M)
   by_cases B:ju p.1.ac p.1.oc=0
   .rw[decide_eq_true B] at o⊢
    obtain⟨ps,J,f,rfl⟩:=F;have u:k∉ks:=by rw[q] at hn;exact of_decide_eq_false hn
    have r:(ks++[k]).Nodup:=by rw[Uh];exact⟨v.nd,Sw.mpr ⟨Sm,Wa⟩,fun x t y I e=>u (by rw[<-Q2.mp I,<-e];exact t)⟩
    have K:(ks++[k]).length<=5:=zp r fun x t=>by
     have O:=Y.n5;rcases Rq.mp t with h|h
     .have:=v.kn x h;omega
     .rw[Q2.mp h];omega
    refine⟨_,iG rfl (cI (dL o d8) (g9 (Aq Y ⟨ps,J,rfl⟩ rfl K (dS (cX (bN rfl) (ah aD) e0) (ah (b8 (ai (af rfl) aA) rfl (QL rfl))) (cD (AU v.ne H)))))),ps,_,f,rfl⟩
   .rw[decide_eq_false B] at o⊢;exact⟨A,iG rfl (mW (dJ o (g9 (ah aD)))),F⟩
end
section
variable {b:Bd} (Y:VB b) {s:Tc} {sn:Sn} {ps:List (Nat×Mn)} {J:aV} {ρ:bp} {i:Nat} {Z:aV} {p:Tc×Sn} {k:Nat} {a:Mn} {ks:List Nat} {g:Int} {w:Option (Nat×Int)}
include Y
theorem ML (v:WV b p.1.ac ks g w) (hn:k∉ks) (m:(k:Int)<b.n):(ks++[k]).Nodup/\(ks++[k]).length<=5:=by
 have f:(ks++[k]).Nodup:=by rw[Uh];exact⟨v.nd,Sw.mpr ⟨Sm,Wa⟩,fun x j y l e=>hn (by rw[<-Q2.mp l,<-e];exact j)⟩
 refine⟨f,zp f fun x j=> ?_⟩;have o:=Y.n5;rcases Rq.mp j with h|h
 .have:=v.kn x h;omega
 .rw[Q2.mp h];omega
theorem vM (o:SW b p.1) (m:(k:Int)<b.n) (ha:p.1.ac k=Ld) (hn:xp p.1.wt k=QQ) (hm:yJ b p.1 k=QJ):∃ks g,p.1.wt=lD (ks,g,Ld)/\k∉ks/\WV b p.1.ac (ks++[k]) g Ld/\g<b.wt:=by
 unfold yJ at hm;split at hm
 .rename_i ks g q
  rw[Q6] at hm;obtain⟨v,t⟩:=o.wt ks g Ld q;have f:k∉ks:=by rw[q] at hn;exact of_decide_eq_false hn
  obtain⟨l,B⟩:=ML Y v f m;refine⟨ks,g,q,f,⟨by simp,l,fun x e=> ?_,fun x e=> ?_,v.g0,fun c n h=>(by cases h),fun _ x e=> ?_⟩,t⟩
  .rcases Rq.mp e with h|h
   .exact v.kn x h
   .rw[Q2.mp h];exact m
  .rcases Rq.mp e with h|h
   .exact v.kf x h
   .rw[Q2.mp h];exact ha
  .have j:=hm.2
   cases qo:dZ b (ks++[k]) with
   |nil=>rw[qo] at j;cases j
   |cons c r=>
    have u:c∈dZ b (ks++[k]):=by rw[qo];exact QS
    obtain⟨A,y⟩:=SK.mp u;have:=TU.mp y x e;exact(Y.vc c A).2.2.1 x (of_decide_eq_true this)
 .cases hm
theorem HL (t:HS b p Z) (j:SW b p.1) (f:p.1.wt=lD (ks,g,Ld)) (v:WV b p.1.ac (ks++[k]) g Ld) (h:WV b p.1.ac ks g Ld) (u:p.2.length<900):∃Z',c9 [.rf 0,.fz (nd k)] Z= .ok (.fz .none) Z'/\HS b (rA b p k) Z':=by
 obtain⟨ps,J,l,rfl⟩:=t;have n:=v.len Y;have e0:bc (iu p.1.wt) (.int 0)=-(.tuple (a8 ks)):=by rw[f];exact ip
 have E:bc (iu p.1.wt) (.int 1)=-(.int g):=by rw[f];exact i7
 have C:rA b p k=if(dZ b (ks++[k])).map (·.1.length)=[(ks++[k]).length] then cc b ({p.1 with wt:=lD (ks++[k],g,Ld)},p.2) else({p.1 with wt:=lD (ks++[k],g,Ld)},p.2):=by unfold rA;rw[f]
 have H:HS b ({p.1 with wt:=lD (ks++[k],g,Ld)},p.2) (ef b {p.1 with wt:=lD (ks++[k],g,Ld)} p.2 ps J):=⟨ps,J,l,rfl⟩;have F:eE (gn 0) pI (ag (gq gh {aC bc (aa 0) (~~~0)})) ((dZ b (ks++[k])).map d4) [Ld] (ef b {p.1 with wt:=lD (ks++[k],g,Ld)} p.2 ps (J++[.dead])) []= .ok ((a8 ((dZ b (ks++[k])).map (·.1.length))).map .fz) (ef b {p.1 with wt:=lD (ks++[k],g,Ld)} p.2 ps (J++[.dead])):=by
  refine(mX d4 (fun c=> .fz (nd c.1.length)) _ (fun ρ=>∃o,ρ=[o]) (dZ b (ks++[k])) _ [] ⟨Ld,rfl⟩ ?_ ?_).trans (by unfold a8;rw[RL,RL];rfl)
  .have:=Uu (fun c:List Nat×Nat=>(ks++[k]).all fun k=>decide (k∈c.1)) b.cs;have:=Y.c4;show 0+(dZ b (ks++[k])).length<=_;unfold dZ;omega
  .rintro c _ ρ ⟨o,rfl⟩;have r:bc (d4 c) (.int 0)=-(.tuple (a8 c.1)):=ip;refine⟨[-(d4 c)],rfl,rfl,ah (de (ai (aE (af rfl) aD rfl rfl r) aA) rfl ((iS _).trans (by rw[cZ]))),_,rfl⟩
 have B:mw (iL bE 2 (ao (a9 "Hand" "bed" (aw 0)) (ao (ag (aa 2)) aW))) [lD (.rf 0),-(nd k),-(.tuple (a8 (ks++[k])))] (ef b {p.1 with wt:=lD (ks++[k],g,Ld)} p.2 ps J)= .ok ((dZ b (ks++[k])).map d4) (ef b {p.1 with wt:=lD (ks++[k],g,Ld)} p.2 ps (J++[.dead])):=
  (EY (vo (au (nv rfl) (au (ah (af rfl)) aQ)) rfl (BP Y n)) aX).trans (by rw[fF];rfl)
 have rt:dC {gq gh {aa 2}} (cx [lD (.rf 0),-(nd k),-(.tuple (a8 (ks++[k])))])= .ok (.ow (a8 [(ks++[k]).length]),cx [lD (.rf 0),-(nd k),-(.tuple (a8 (ks++[k])))]):=by refine lM (ai (de (ai (af rfl) aA) rfl ((iS _).trans (by rw[cZ]))) aA) rfl (QL rfl)
 have m:bS (mU cV (qB 1 [] (mw (iL bE 2 (ao (a9 "Hand" "bed" (aw 0)) (ao (ag (aa 2)) aW)))) (gn 0) pI (ag (gq gh {aC bc (aa 0) (~~~0)}))) (ag (dC {gq gh {aa 2}}))) [lD (.rf 0),-(nd k),-(.tuple (a8 (ks++[k])))] (ef b {p.1 with wt:=lD (ks++[k],g,Ld)} p.2 ps J)= .ok (decide ((dZ b (ks++[k])).map (·.1.length)=[(ks++[k]).length])) (ef b {p.1 with wt:=lD (ks++[k],g,Ld)} p.2 ps (J++[.dead])++[.lst ((a8 ((dZ b (ks++[k])).map (·.1.length))).map .fz)]++[.lst ((a8 [(ks++[k]).length]).map .fz)]):=
  aZ (dS (AZ B F) (eD rt) (t8 (iB (gS aX)) (iB aX) (tF _ _)))
 have e:HS b ({p.1 with wt:=lD (ks++[k],g,Ld)},p.2) (ef b {p.1 with wt:=lD (ks++[k],g,Ld)} p.2 ps (J++[.dead])++[.lst ((a8 ((dZ b (ks++[k])).map (·.1.length))).map .fz)]++[.lst ((a8 [(ks++[k]).length]).map .fz)]):=⟨ps,_,l,rfl⟩;generalize (ef b {p.1 with wt:=lD (ks++[k],g,Ld)} p.2 ps (J++[.dead])++[.lst ((a8 ((dZ b (ks++[k])).map (·.1.length))).map .fz)]++[.lst ((a8 [(ks++[k]).length]).map .fz)]:aV)=Z3 at m e;rw[C];refine iz rfl (jc (dS (cX (bN rfl) (ah aD) e0) (ah (b8 (ai (af rfl) aA) rfl (QL rfl))) (cD (AU h.ne (h.len Y)))) rfl (AD (kJ (lD (ks++[k],g,Ld)) rfl (uh (au (ah (af rfl)) (au (cX (bN rfl) (ah aD) E) (au (ah aD) aQ))) (QL rfl))) (wC m (fun q=> ?_) fun q=> ?_)))
 .rw[if_pos (of_decide_eq_true q)];obtain⟨G,A,y⟩:=kE Y e ⟨j.sa.ac,j.sa.oc⟩ rfl v u;exact hW (b4 e (by left) rfl aQ rfl A) ⟨rfl,y⟩
 .rw[if_neg (of_decide_eq_false q)];exact kC ⟨rfl,e⟩
theorem He (f:SW b p.1) (h:p.1.wt=lD (ks,g,Ld)) (v:WV b p.1.ac (ks++[k]) g Ld) (j:g<b.wt):SW b (rA b p k).1:=by
 have l:rA b p k=if(dZ b (ks++[k])).map (·.1.length)=[(ks++[k]).length] then cc b ({p.1 with wt:=lD (ks++[k],g,Ld)},p.2) else({p.1 with wt:=lD (ks++[k],g,Ld)},p.2):=by unfold rA;rw[h]
 rw[l];split
 .exact(eF Y (p:=({p.1 with wt:=lD (ks++[k],g,Ld)},p.2)) ⟨f.sa.ac,f.sa.oc⟩ fun _ _ _ e=>by cases e;exact v).1
 .exact⟨⟨f.sa.ac,f.sa.oc⟩,fun _ _ _ e=>by cases e;exact⟨v,j⟩⟩
omit Y in
theorem Bs (s:Tc) (m:Mn):(ei s m).ac=s.ac/\(ei s m).wt=s.wt:=by unfold ei;split<;>exact⟨rfl,rfl⟩
omit Y in
theorem BG {m:Mn} (h:SA b s):SA b (ei s m):=by
 unfold ei;split
 .exact h
 .exact⟨h.ac,fun o e=>by cases e⟩
theorem Lx (F:HS b p Z) (S:SA b p.1) (hw:p.1.wt=Ld) (U:(k:Int)<b.n) (hl:p.2.length<900):∃Z',fG [.rf 0,.fz (nd k)] Z= .ok (.fz .none) Z'/\HS b (Br b p k) Z':=by
 obtain⟨Q,P⟩:=vt Y S;have M:=IQ Y Q P U;obtain⟨u,K⟩:=tW Y Q P U;obtain⟨Z1,h1,VV⟩:=nR F;have h5:=Y.n5;have eb:Br b p k=tK b (ju p.1.ac p.1.oc) (ei p.1 (look b (ju p.1.ac p.1.oc) k),p.2) k (look b (ju p.1.ac p.1.oc) k):=rfl;rw[eb];have T:iL dI 1 (ao (aO "Hand" "stands" bB 1 (aw 0) aW) aW) [lD (.rf 0),-(nd k),Ld,Ld,Ld] Z= .ok (.fz (.int (ju p.1.ac p.1.oc))) Z1:=yu (au (b4 F (by left) rfl aQ rfl h1) aQ) rfl (wQ p.1);generalize ju p.1.ac p.1.oc=L at M u K T Q P;generalize look b L k=m at M u K;obtain⟨ps,J,hp,rfl⟩:=VV;have lb:=u.lb;have c0:=nZ m;have c1:=Ob m;have c2:=LM m;have c3:=kB m;have c4:=IE m;have eL:cV (.int L) (.int 0)=-(.bool (decide (L=0))):=mQ _ _;have B:(aK (cB (bQ (aF (aC ox (aa 4) (bj {pC (.str "layer"),pC (.str "once")})))) (fP "Hand" "once" (aw 0) (ag (pC .none))) cC) cC) [lD (.rf 0),-(nd k),-(.int L),-(mD m),-(.str (wd m))] (ef b p.1 p.2 ps J)= .ok (.nx [lD (.rf 0),-(nd k),-(.int L),-(mD m),-(.str (wd m))]) (ef b (ei p.1 m) p.2 ps J):=by
  have t:bQ (aF (aC ox (aa 4) (bj {pC (.str "layer"),pC (.str "once")}))) [lD (.rf 0),-(nd k),-(.int L),-(mD m),-(.str (wd m))] (ef b p.1 p.2 ps J)= .ok (!(m.ZR||m.isO)) (ef b p.1 p.2 ps J):=bH (by fail "ev");unfold ei;cases q:(m.ZR||m.isO) with
  |true=>rw[q] at t;rw[if_pos rfl];exact cI (dL t d8) d8
  |false=>rw[q] at t;rw[if_neg Q8];exact cI (dJ t (AR Ld rfl (ah aD))) d8
 have R:=Bs p.1 m;have I:SA b (ei p.1 m):=BG S;have e:ps.Perm (fR (ei p.1 m).ac):=by rw[R.1];exact hp
 have A:HS b (ei p.1 m,p.2) (ef b (ei p.1 m) p.2 ps J):=⟨ps,J,e,rfl⟩;generalize ei p.1 m=s2 at B R I e A;have O:UQ ((cB (bQ (aF (aC cV (aa 4) (pC (.str "tap"))))) (fP "Hand" "waiting" (aw 0) (ag (bj {bj {aa 1},~~~0,aa 3}))) (cB (lF (bQ (aF (aC cV (aa 4) (pC (.str "letter"))))) (lF (bQ (aF (aC cV (aa 2) (~~~0)))) (bS (mU xE (iL bE 2 (ao (a9 "Hand" "bed" (aw 0)) (ao (ag (bj {aa 1})) aW))) (ag (dC aq)))))) (fP "Hand" "waiting" (aw 0) (ag (bj {bj {aa 1},~~~0,pC (.tuple [(.str "chord")])}))) (cB (bQ (aF (aC cV (aa 4) (pC (.str "once"))))) (aK (bU (aO "Hand" "come" bq 3 (aw 0) (ao (ag (aa 1)) (ao (ag (pC (.tuple [(.str "none")]))) aW))))
 (fP "Hand" "once" (aw 0) (ag (aC bc (aa 3) (~~~1))))) (bU (aO "Hand" "come" bq 3 (aw 0) (ao (ag (aa 1)) (ao (ag (aa 3)) aW))))))) [lD (.rf 0),-(nd k),-(.int L),-(mD m),-(.str (wd m))] (ef b s2 p.2 ps J)) (fun _ Z'=>SV.fz .none= .fz .none/\HS b (tK b L (s2,p.2) k m) Z') (fun _ _=>False) (fun r Z'=>r= .fz .none/\HS b (tK b L (s2,p.2) k m) Z'):=by
  have y:∀{Z:aV},bQ (aF (aC cV (aa 4) (pC (.str "tap")))) [lD (.rf 0),-(nd k),-(.int L),-(mD m),-(.str (wd m))] Z= .ok m.isT Z:=bH (by fail "ev");have E:∀{Z:aV},bQ (aF (aC cV (aa 4) (pC (.str "letter")))) [lD (.rf 0),-(nd k),-(.int L),-(mD m),-(.str (wd m))] Z= .ok m.isL Z:=bH (by fail "ev");have C:∀{Z:aV},bQ (aF (aC cV (aa 4) (pC (.str "once")))) [lD (.rf 0),-(nd k),-(.int L),-(mD m),-(.str (wd m))] Z= .ok m.isO Z:=bH (by fail "ev");have G:∀{Z:aV},bQ (aF (aC cV (aa 2) (~~~0))) [lD (.rf 0),-(nd k),-(.int L),-(mD m),-(.str (wd m))] Z= .ok (decide (L=0)) Z:=bH (by fail "ev");have kt:∀{Z:aV},ag (bj {aa 1}) [lD (.rf 0),-(nd k),-(.int L),-(mD m),-(.str (wd m))] Z= .ok (.fz (.tuple (a8 [k]))) Z:=ah (b8 (ai (af rfl) aA) rfl (QL rfl));have cm:∀{Z:aV},HS b (s2,p.2) Z->VA b.ls.length m->∃Z',bU (aO "Hand" "come" bq 3 (aw 0) (ao (ag (aa 1)) (ao (ag (aa 3)) aW))) [lD (.rf 0),-(nd k),-(.int L),-(mD m),-(.str (wd m))] Z= .ok (.nx [lD (.rf 0),-(nd k),-(.int L),-(mD m),-(.str (wd m))]) Z'/\HS b (eT (s2,p.2) k m) Z':=fun{Z} F va=>by obtain⟨Z',l,j⟩:=oZ (k:=k) F (I.ak Y) va.lb (by omega) (show p.2.length<1000 by omega);exact⟨Z',hV (b4 F (by left) rfl (au (ah (af rfl)) (au (ah (af rfl)) aQ)) rfl l),j⟩
  cases m with
  |below=>exact absurd rfl K
  |Vo c n=>refine pS y (mC (kJ (lD ([k],0,lD (c,n))) rfl (ah (ρ':=cx [lD (.rf 0),-(nd k),-(.int L),-(mD (.Vo c n)),-(.str (wd (.Vo c n)))]) ?_)) ⟨rfl,ps,J,e,rfl⟩);show _=Res.ok (PV.fz (.tuple [.tuple [nd k],.int 0,mD (.Vo c n)]),_);fail "ev"
  |Rk c=>
   obtain⟨d1,d2⟩:VA b.ls.length (.Rk c)/\True:=⟨u,trivial⟩;by_cases H:L=0
   .rw[decide_eq_true H] at G
    have ov:=Aq Y (Z1:=ef b s2 p.2 ps J) ⟨ps,J,rfl⟩ rfl (QL rfl) kt;have N:HS b (s2,p.2) (ef b s2 p.2 ps J++[.lst (((dZ b [k]).map d4).map .fz)]++[.lst []]):=⟨ps,_,e,rfl⟩;have v:tK b L (s2,p.2) k (.Rk c)=if(!(dZ b [k]).isEmpty)=QJ then({s2 with wt:=lD ([k],0,Ld)},p.2) else eT (s2,p.2) k (.Rk c):=by show(if(decide (L=0)&& !(dZ b [k]).isEmpty)=QJ then _ else _)=_;rw[decide_eq_true H,WB]
    rw[v];refine ez y (wC (gj E (gj G (aZ ov))) (fun q=> ?_) fun q=> ?_)
    .rw[if_pos q];refine mC (kJ (lD ([k],0,Ld)) rfl (ah (ρ':=cx [lD (.rf 0),-(nd k),-(.int L),-(mD (.Rk c)),-(.str (wd (.Rk c)))]) ?_)) ⟨rfl,ps,_,e,rfl⟩;show _=Res.ok (PV.fz (.tuple [.tuple [nd k],.int 0,.tuple [.str "chord"]]),_);fail "ev"
    .rw[if_neg (by rw[q];simp)];obtain⟨Z',l,j⟩:=cm N u;exact ez C (mC l ⟨rfl,j⟩)
   .rw[decide_eq_false H] at G
    have v:tK b L (s2,p.2) k (.Rk c)=eT (s2,p.2) k (.Rk c):=by show(if(decide (L=0)&& !(dZ b [k]).isEmpty)=QJ then _ else _)=_;rw[decide_eq_false H,UU,if_neg Q8]
    rw[v];obtain⟨Z',l,j⟩:=cm A u;exact ez y (ez (gj E (gc G)) (ez C (mC l ⟨rfl,j⟩)))
  |S6 n=>obtain⟨Z',l,j⟩:=cm A u;exact ez y (ez (gc E) (ez C (mC l ⟨rfl,j⟩)))
  |none=>obtain⟨Z',l,j⟩:=cm A trivial;exact ez y (ez (gc E) (ez C (mC l ⟨rfl,j⟩)))
  |once n=>obtain⟨Z',l,j⟩:=oZ (k:=k) (a:= .none) A (I.ak Y) trivial (by omega) (show p.2.length<1000 by omega);have i1:bc (mD (.once n)) (.int 1)=-(.int n):=i7;obtain⟨qs,J2,hq,rfl⟩:=j;refine ez y (ez (gc E) (pS C (AD (hV (b4 A (by left) rfl (au (ah (af rfl)) (au (ah aD) aQ)) rfl l)) (mC (AR (lD n) rfl (ah (ρ':=cx [lD (.rf 0),-(nd k),-(.int L),-(mD (.once n)),-(.str (wd (.once n)))]) ?_)) ⟨rfl,qs,J2,hq,rfl⟩))));show _=Res.ok (PV.fz (.int n),_);exact aE (rv:= .fz (.int n)) (af rfl) aD rfl rfl i1
 refine iz (ρ:=[lD (.rf 0),-(nd k),Ld,Ld,Ld]) rfl (jc T rfl (jc (yu (ds:=[bD b,.int L,nd k]) (au (nv rfl) (au (ah (af rfl)) (au (ah (af rfl)) aQ))) rfl M) rfl (jc (ah (d:= .str (wd m)) (ρ':=cx [lD (.rf 0),-(nd k),-(.int L),-(mD m),Ld]) (aE (rv:= .fz (.str (wd m))) (af rfl) aD rfl rfl c0)) rfl ?_)));refine .eq ?_ O;have X:∀{f g:fx} {ρ:bp} {Z Z':aV},aK f cC ρ Z= .ok (.nx ρ) Z'->aK f g ρ Z=g ρ Z':=fun{f g ρ Z Z'} h=>by
  unfold aK at h⊢;cases q:f ρ Z with
  |bad=>rw[q] at h;cases h
  |er x o=>rw[q] at h;cases h
  |ok fl o=>
   rw[q] at h;cases fl with
   |nx r=>cases h;rfl
   |_=>cases h
 exact X B
end
section
variable {b:Bd} (Y:VB b) {s:Tc} {sn:Sn} {ps:List (Nat×Mn)} {J:aV} {ρ:bp} {i:Nat} {Z:aV} {p:Tc×Sn} {k:Nat} {a:Mn} {ks:List Nat} {g:Int} {w:Option (Nat×Int)}
include Y
omit Y in
theorem Bv (h:SA b s) (f:s.wt=Ld):SW b s:=⟨h,fun _ _ _ e=>by rw[f] at e;cases e⟩
theorem Lm (B:SA b p.1) (N:p.1.wt=Ld) (y:(k:Int)<b.n) (ha:p.1.ac k=Ld):SW b (Br b p k).1:=by
 obtain⟨I,H⟩:=vt Y B;obtain⟨f,v⟩:=tW Y I H y;have P:Br b p k=tK b (ju p.1.ac p.1.oc) (ei p.1 (look b (ju p.1.ac p.1.oc) k),p.2) k (look b (ju p.1.ac p.1.oc) k):=rfl;rw[P];generalize ju p.1.ac p.1.oc=L at f v I H;generalize look b L k=m at f v;have A:=Bs p.1 m;have l:SA b (ei p.1 m):=BG B;have j:=A.2.trans N;have u:(ei p.1 m).ac k=Ld:=by rw[A.1];exact ha
 generalize ei p.1 m=s2 at l j u;have T:=Y.w1;have E:[k].Nodup:=Sw.mpr ⟨Sm,Wa⟩;have F:∀x∈[k],(x:Int)<b.n:=fun x t=>by rw[Q2.mp t];exact y
 have G:∀x∈[k],s2.ac x=Ld:=fun x t=>by rw[Q2.mp t];exact u
 have cm:∀m,VA b.ls.length m->SW b (eT (s2,p.2) k m).1:=fun m K=>Bv (l.cm y K) j;cases m with
 |below=>exact absurd rfl v
 |Vo c n=>refine⟨⟨l.ac,l.oc⟩,fun _ _ _ e=> ?_⟩;cases e;exact⟨⟨by simp,E,F,G,Wi _,fun S M e=>by cases e;exact⟨f.1,f.2,rfl⟩,fun e=>by cases e⟩,by omega⟩
 |Rk c=>
  show SW b (if(decide (L=0)&& !(dZ b [k]).isEmpty)=QJ then({s2 with wt:=lD ([k],0,Ld)},p.2) else eT (s2,p.2) k (.Rk c)).1;split
  .rename_i q
   refine⟨⟨l.ac,l.oc⟩,fun _ _ _ e=> ?_⟩;cases e;refine⟨⟨by simp,E,F,G,Wi _,fun S M e=>(by cases e),fun _ x t=> ?_⟩,by omega⟩;have C:=(Q6 _ _▸q:_/\_).2;cases qo:dZ b [k] with
   |nil=>rw[qo] at C;cases C
   |cons c r=>
    have O:c∈dZ b [k]:=by rw[qo];exact QS
    obtain⟨R,Q⟩:=SK.mp O;exact(Y.vc c R).2.2.1 x (of_decide_eq_true (TU.mp Q x t))
  .exact cm _ f
 |S6 n=>exact cm _ f
 |none=>exact cm _ trivial
 |once n=>have h:=cm .none trivial;exact⟨⟨h.sa.ac,fun o e=>by cases e;exact f⟩,fun ks g w e=>by have e:s2.wt=lD (ks,g,w):=e;rw[j] at e;cases e⟩
theorem SW.wd (h:SW b s):WD b s:=fun ks g w e=>(h.wt ks g w e).1
omit Y in
theorem yL (e:List (Nat×Mn)):∀{p:Tc×Sn},p.1.ac k=Ld->k∉e.map (·.1)->(gF p e).1.ac k=Ld:=by
 induction e with
 |nil=>exact fun h _=>h
 |cons q r f=>intro p h hn;rw[Q3,Rc,not_or] at hn;exact f (p:=eT p q.1 q.2) ((fA hn.1).trans h) hn.2
omit Y in
theorem x9 (ha:p.1.ac k=Ld) (hn:xp p.1.wt k=QQ):(cc b p).1.ac k=Ld:=by
 unfold cc;split
 .exact ha
 .rename_i ks g w q;refine yL _ (p:=({p.1 with wt:=Ld},p.2)) ha fun z=> ?_;rw[q] at hn;obtain⟨x,e,rfl⟩:=Rn.mp z;exact of_decide_eq_false hn (T4 e).1
theorem Fv (e:SW b p.1) (f:(k:Int)<b.n):SW b (hJ b p k).1:=by
 unfold hJ;split
 .exact e
 .rename_i q
  rw[VP,not_or] at q;have ha:p.1.ac k=Ld:=by
   cases z:p.1.ac k with
   |none=>rfl
   |some x=>rw[z] at q;exact absurd rfl q.1
  have hn:xp p.1.wt k=QQ:=by
   cases z:xp p.1.wt k with
   |false=>rfl
   |true=>exact absurd z q.2
  split
  .rename_i h;obtain⟨ks,g,m,o,l,j⟩:=vM Y e f ha hn h;exact He Y e m l j
  .have d:=eF Y e.sa (SW.wd Y e);exact Lm Y d.1.sa d.2.1 f (x9 ha hn)
theorem DR (h:HS b p Z) (e:SW b p.1) (B:(k:Int)<b.n) (Q:p.2.length<800):∃Z',gM [.rf 0,.fz (nd k)] Z= .ok (.fz .none) Z'/\HS b (hJ b p k) Z':=by
 have R:=Y.n5;have A:k<5:=by omega
 have O:C9 (bS (wS QQ (ag (aa 1)) (a9 "Hand" "acts" (aw 0)))) (bS (aO "Hand" "is_waiting" bV 2 (aw 0) (ao (ag (aa 1)) aW))) [lD (.rf 0),-(nd k)] Z= .ok ((p.1.ac k).isSome||xp p.1.wt k) Z:=by
  have I:=b4 (ρ:=[lD (.rf 0),-(nd k)]) (i:=0) (m:= "is_waiting") (fa:=ao (ag (aa 1)) aW) h (by left) rfl (au (ah (af rfl)) aQ) rfl (E7 h);obtain⟨ps,J,y,rfl⟩:=h
  have u:wS QQ (ag (aa 1)) (a9 "Hand" "acts" (aw 0)) [lD (.rf 0),-(nd k)] (ef b p.1 p.2 ps J)= .ok (.fz (.bool (p.1.ac k).isSome)) (ef b p.1 p.2 ps J):=
   (yx (ah (af rfl)) (gJ rfl) rfl rfl).trans (by rw[show i9 (ps.map jC) (.inl (k:Int))=_ from l4 y A];cases p.1.ac k<;>rfl)
  cases q:(p.1.ac k).isSome with
  |true=>rw[q] at u;rw[UP];exact qG (aZ u)
  |false=>rw[q] at u;rw[Vk];exact mz (aZ u) (aZ I)
 refine iz rfl (xP O (fun q=> ?_) fun q=>mS ?_)
 .unfold hJ;rw[if_pos q];exact vk ⟨rfl,h⟩
 rw[Zu] at q;have ha:p.1.ac k=Ld:=by
  cases z:p.1.ac k with
  |none=>rfl
  |some x=>rw[z] at q;exact absurd q.1 (by simp)
 have L:hJ b p k=if yJ b p.1 k=QJ then rA b p k else Br b (cc b p) k:=by unfold hJ;rw[if_neg (by rw[q.1,q.2];simp)]
 rw[L];obtain⟨P,H,f⟩:=Mh Y h e B q.2;refine xP (aZ (b4 h (by left) rfl (au (ah (af rfl)) aQ) rfl H)) (fun t=> ?_) fun t=>mS ?_
 .rw[if_pos t];obtain⟨ks,g,j,T,N,S⟩:=vM Y e B ha q.2 t;obtain⟨l,C,o⟩:=HL Y f e j N (e.wt _ _ _ j).1 (by omega);exact K8 (kP (b4 f (by left) rfl (au (ah (af rfl)) aQ) rfl C) (vk ⟨rfl,o⟩))
 .rw[if_neg (by rw[t];simp)]
  have d:=eF Y e.sa (SW.wd Y e);have F:∀l,HS b (cc b p) l->UQ (bU (aO "Hand" "begin" fG 2 (aw 0) (ao (ag (aa 1)) aW)) [lD (.rf 0),-(nd k)] l) (fun _ Z'=>SV.fz .none= .fz .none/\HS b (Br b (cc b p) k) Z') (fun _ _=>False) (fun r Z'=>r= .fz .none/\HS b (Br b (cc b p) k) Z'):=fun l o=>by obtain⟨U,K,v⟩:=Lx Y o d.1.sa d.2.1 B (by have:=d.2.2.1;omega);exact hW (b4 o (by left) rfl (au (ah (af rfl)) aQ) rfl K) ⟨rfl,v⟩
  cases qw:p.1.wt with
  |none=>
   have M:cc b p=p:=by unfold cc;rw[qw]
   have j:kr (iu p.1.wt) .none=-(.bool QQ):=by rw[qw];rfl
   have E:=F P (by rw[M];exact f);obtain⟨ps,J,y,rfl⟩:=f;exact rN (aZ (dS (bN rfl) (ah aD) (cD j))) (mS E)
  |some x=>
   obtain⟨ks,g,w⟩:=x;have j:kr (iu p.1.wt) .none=-(.bool QJ):=by rw[qw];rfl
   obtain⟨l,C,o⟩:=kE Y f e.sa qw (e.wt _ _ _ qw).1 (by omega);have G:=b4 (ρ:=[lD (.rf 0),-(nd k)]) (i:=0) (m:= "decide") f (by left) rfl aQ rfl C;obtain⟨ps,J,y,rfl⟩:=f;exact tP (aZ (dS (bN rfl) (ah aD) (cD j))) (kP G (F l o))
theorem kF (e:SW b p.1) (f:xp p.1.wt k=QJ):SW b (bO b p k).1/\(bO b p k).2.length<=p.2.length+5:=by
 unfold bO;split
 .have d:=eF Y e.sa (SW.wd Y e);exact⟨d.1,d.2.2.1⟩
 .rename_i ks g c n q;have v:=(e.wt _ _ _ q).1;rw[q] at f;have h:=v.kn k (of_decide_eq_true f);have j:=(v.tp c n rfl).1;refine⟨Bv (SA.cm ⟨e.sa.ac,e.sa.oc⟩ h j) rfl,?_⟩;have:=mr (p:=({p.1 with wt:=Ld},p.2)) (k:=k) (a:= .Rk c);have:(eT ({p.1 with wt:=Ld},p.2) k (.Rk c)).2.length<=p.2.length+1:=this;omega
 .exact⟨e,aba _ _⟩
theorem fY (j:HS b p Z) (e:SW b p.1) (f:xp p.1.wt k=QJ) (K:p.2.length<800):∃Z',gr [.rf 0,.fz (nd k)] Z= .ok (.fz .none) Z'/\HS b (bO b p k) Z':=by
 have M:=Y.n5;cases q:p.1.wt with
 |none=>rw[q] at f;cases f
 |some x=>
  obtain⟨ks,g,w⟩:=x;have v:=(e.wt _ _ _ q).1;have l:k∈ks:=by rw[q] at f;exact of_decide_eq_true f
  have A:bc (iu p.1.wt) (.int 2)=-(ro w):=by rw[q];exact rB
  have G:=(zi fun c n h=>(v.tp c n h).1).1;have u:∀{Z:aV},bQ (aF (aC cV (aa 2) (pC (.tuple [.str "chord"])))) [lD (.rf 0),-(nd k),-(ro w)] Z= .ok w.isNone Z:=bH (bK (aE (af rfl) aD rfl rfl G) rfl);cases w with
  |none=>
   have r:bO b p k=cc b p:=by unfold bO;rw[q]
   rw[r];obtain⟨I,o,t⟩:=kE Y j e.sa q v (by omega);have C:=b4 (ρ:=[lD (.rf 0),-(nd k),-(ro Ld)]) (i:=0) (m:= "decide") j (by left) rfl aQ rfl o;obtain⟨ps,J,y,rfl⟩:=j;exact iz rfl (jc (cX (bN rfl) (ah aD) A) rfl (pS u (hW C ⟨rfl,t⟩)))
  |some H=>
   obtain⟨c,n⟩:=H;have r:bO b p k=eT ({p.1 with wt:=Ld},p.2) k (.Rk c):=by unfold bO;rw[q]
   rw[r];have F:=(v.tp c n rfl).1;have L:=v.kn k l;obtain⟨ps,J,y,rfl⟩:=j;have B:HS b ({p.1 with wt:=Ld},p.2) (ef b {p.1 with wt:=Ld} p.2 ps J):=⟨ps,J,y,rfl⟩;obtain⟨I,o,t⟩:=oZ (k:=k) (a:= .Rk c) B (SA.ak Y ⟨e.sa.ac,e.sa.oc⟩) F (by omega) (show p.2.length<1000 by omega);have E:bc (ro (lD (c,n))) (.int 1)=-(.str (dj c)):=i7;exact iz rfl (jc (cX (bN rfl) (ah aD) A) rfl (ez u (AD (kJ Ld rfl (ah aD)) (hW (b4 B (by left) rfl (au (ah (af rfl)) (au (ah (b8 (ai aD (ai (aE (af rfl) aD rfl rfl E) aA)) rfl (QL rfl))) aQ)) rfl o) ⟨rfl,t⟩))))
omit Y in
theorem Kp (f:SW b p.1):SW b (go p k).1:=by
 refine⟨f.sa.gg,?_⟩;unfold go;split
 .intro ks g w e;obtain⟨v,j⟩:=f.wt ks g w e;exact⟨⟨v.ne,v.nd,v.kn,fun x h=>by
   by_cases z:x=k
   .rw[z];exact dR
   .exact(fA z).trans (v.kf x h),v.g0,v.tp,v.ch⟩,j⟩
 .exact f.wt
theorem Hb (e:SW b p.1):SW b (mj b p k).1:=by
 unfold mj;split
 .rename_i q;exact Kp (kF Y e q).1
 .exact Kp e
theorem Ij (e:HS b p Z) (h:SW b p.1) (C:(k:Int)<b.n) (t:p.2.length<700):∃Z',ic [.rf 0,.fz (nd k)] Z= .ok (.fz .none) Z'/\HS b (mj b p k) Z':=by
 have E:=Y.n5;have j:k<5:=by omega
 have f:∀{p:Tc×Sn} {Z:aV},HS b p Z->SW b p.1->p.2.length<800->UQ (cB (bS (wS QQ (ag (aa 1)) (a9 "Hand" "acts" (aw 0)))) (bU (aO "Hand" "go" iY 2 (aw 0) (ao (ag (aa 1)) aW))) cC [lD (.rf 0),-(nd k)] Z) (fun _ Z'=>SV.fz .none= .fz .none/\HS b (go p k) Z') (fun _ _=>False) (fun r Z'=>r= .fz .none/\HS b (go p k) Z'):=fun{p Z} e h t=>by
  cases qa:p.1.ac k with
  |none=>
   have y:go p k=p:=by unfold go;rw[qa]
   rw[y];obtain⟨ps,J,l,rfl⟩:=e;refine ez (aZ ((yx (ah (af rfl)) (gJ rfl) rfl rfl).trans (by rw[show i9 (ps.map jC) (.inl (k:Int))=_ from l4 l j,qa];rfl))) (kC ⟨rfl,ps,J,l,rfl⟩)
  |some a=>obtain⟨F,u,A⟩:=ON e (h.sa.ak Y) qa (by omega);have o:=b4 (ρ:=[lD (.rf 0),-(nd k)]) (i:=0) (m:= "go") (fa:=ao (ag (aa 1)) aW) e (by left) rfl (au (ah (af rfl)) aQ) rfl u;obtain⟨ps,J,l,rfl⟩:=e;exact pS (aZ ((yx (ah (af rfl)) (gJ rfl) rfl rfl).trans (by rw[show i9 (ps.map jC) (.inl (k:Int))=_ from l4 l j,qa];rfl))) (hW o ⟨rfl,A⟩)
 refine iz rfl (xP (aZ (b4 e (by left) rfl (au (ah (af rfl)) aQ) rfl (E7 e))) (fun q=> ?_) fun q=> ?_)
 .unfold mj;rw[if_pos q];obtain⟨G,v,B⟩:=fY Y e h q (by omega);have z:=kF Y h q;exact kP (b4 e (by left) rfl (au (ah (af rfl)) aQ) rfl v) (f B z.1 (by omega))
 .unfold mj;rw[if_neg (by rw[q];simp)];exact mS (f e h (by omega))
theorem Hl (f:SW b p.1):SW b (gD b p).1:=by
 unfold gD;split
 .exact f
 .rename_i ks g w q
  obtain⟨v,l⟩:=f.wt ks g w q;have j:WV b p.1.ac ks (g+1) w:=⟨v.ne,v.nd,v.kn,v.kf,by have:=v.g0;omega,v.tp,v.ch⟩;split
  .exact(eF Y (p:=({p.1 with wt:=lD (ks,g+1,w)},p.2)) ⟨f.sa.ac,f.sa.oc⟩ fun _ _ _ e=>by cases e;exact j).1
  .rename_i h;exact⟨⟨f.sa.ac,f.sa.oc⟩,fun _ _ _ e=>by cases e;exact⟨j,by omega⟩⟩
theorem Je (n:HS b p Z) (e:SW b p.1) (A:p.2.length<800):∃Z',fJ [.rf 0] Z= .ok (.fz .none) Z'/\HS b (gD b p) Z':=by
 obtain⟨ps,J,l,rfl⟩:=n;cases q:p.1.wt with
 |none=>
  have f:gD b p=p:=by unfold gD;rw[q]
  rw[f];have h:ut (iu p.1.wt) .none=-(.bool QJ):=by rw[q];rfl
  exact iz rfl (tP (aZ (dS (bN rfl) (ah aD) (cD h))) (vk ⟨rfl,ps,J,l,rfl⟩))
 |some x=>
  obtain⟨ks,g,w⟩:=x;have v:=(e.wt _ _ _ q).1;have m:WV b p.1.ac ks (g+1) w:=⟨v.ne,v.nd,v.kn,v.kf,by have:=v.g0;omega,v.tp,v.ch⟩;have f:gD b p=if g+1=b.wt then cc b ({p.1 with wt:=lD (ks,g+1,w)},p.2) else({p.1 with wt:=lD (ks,g+1,w)},p.2):=by unfold gD;rw[q]
  rw[f];have h:ut (iu p.1.wt) .none=-(.bool QQ):=by rw[q];rfl
  have e0:bc (iu p.1.wt) (.int 0)=-(.tuple (a8 ks)):=by rw[q];exact ip
  have u:bc (iu p.1.wt) (.int 2)=-(ro w):=by rw[q];exact rB
  have t:bc (iu p.1.wt) (.int 1)=-(.int g):=by rw[q];exact i7
  have r:bc (bD b) (.int 3)=-(.int b.wt):=JJ rfl;have j:HS b ({p.1 with wt:=lD (ks,g+1,w)},p.2) (ef b {p.1 with wt:=lD (ks,g+1,w)} p.2 ps J):=⟨ps,J,l,rfl⟩;refine iz rfl (rN (aZ (dS (bN rfl) (ah aD) (cD h))) (mS (jc (dS (cX (bN rfl) (ah aD) t) (ah aD) (cD (gX _ _))) rfl (AD (kJ (lD (ks,g+1,w)) rfl (uh (au (cX (bN rfl) (ah aD) e0) (au (ah (af rfl)) (au (cX (bN rfl) (ah aD) u) aQ))) (QL rfl))) (wC (aZ (dS (ah (af rfl)) (cX (nv rfl) (ah aD) r) (cD (mQ _ _)))) (fun z=> ?_) fun z=> ?_)))))
  .rw[if_pos (of_decide_eq_true z)];obtain⟨B,o,y⟩:=kE Y j ⟨e.sa.ac,e.sa.oc⟩ rfl m (show p.2.length<900 by omega);exact hW (b4 j (by left) rfl aQ rfl o) ⟨rfl,y⟩
  .rw[if_neg (of_decide_eq_false z)];exact kC ⟨rfl,j⟩
def Vf.aaA:Vf->Bool
 | .turn=>QJ
 |_=>QQ
def Vf.isDown:Vf->Bool
 | .down _=>QJ
 |_=>QQ
def EV (b:Bd):Vf->Prop
 | .down k=>(k:Int)<b.n
 | .up k=>(k:Int)<b.n
 | .turn=>True
theorem pA (f:SW b s) (h:EV b e):SW b (bR b s e).1:=by
 cases e with
 |down k=>exact Fv Y f h
 |up k=>exact Hb Y f
 |turn=>exact Hl Y f
omit Y in
theorem su:∀l:List (Nat×Mn),aM re (l.map pD)=lD (l.map jC)
 |[]=>rfl
 |q::r=>by rw[Q3];unfold aM;rw[su r];rfl
omit Y in
theorem xc:∀(l f:List (Nat×Mn)),((f++l).map (·.1)).Nodup->lU (f.map jC) (l.map jC)=(f++l).map jC
 |[],f,_=>by rw[RF];rfl
 |q::r,f,h=>by
  have hn:∀x∈f,x.1≠q.1:=fun x j e=>by rw[Rm,Uh] at h;exact h.2.2 _ (Rn.mpr ⟨x,j,rfl⟩) q.1 QS e
  have t:jw (f.map jC) (jC q).1 (jC q).2=(f++[q]).map jC:=by
   unfold jw;rw[if_neg ?_,Rm]
   .rfl
   .intro z;obtain⟨u,o,n⟩:=Xm.mp z;obtain⟨x,m,rfl⟩:=Rn.mp o;have:=Sum.inl.inj (of_decide_eq_true n);exact hn x m (by omega)
  show lU (jw (f.map jC) (jC q).1 (jC q).2) (r.map jC)=_;rw[t,xc r (f++[q]) (by rw[RD];exact h),RD];rfl
omit Y in
theorem II:dM [.rf 0,.fz (bD b),.fz (eR s)] [.obj "Hand" []]= .ok (.fz .none) (ef b s [] (fR s.ac) []):=by
 have e0:bc (eR s) (.int 0)=-(.tuple ((fR s.ac).map pD)):=ip;have y:bc (eR s) (.int 1)=-(iu s.wt):=i7;have v:bc (eR s) (.int 2)=-(n9 s.oc):=rB;have A:e9 "bed" (.fz (bD b)) []=([("bed",.fz (bD b))]:List (Str×SV)):=rfl;have q:e9 "acts" (.rf 1) ([("bed",.fz (bD b))]:List (Str×SV))=([("bed",.fz (bD b)),("acts",.rf 1)]:List (Str×SV)):=by unfold e9;rw[if_neg (by left)];rfl
 have o:e9 "waiting" (.fz (iu s.wt)) ([("bed",.fz (bD b)),("acts",.rf 1)]:List (Str×SV))=([("bed",.fz (bD b)),("acts",.rf 1),("waiting",.fz (iu s.wt))]:List (Str×SV)):=by unfold e9;rw[if_neg (by left)];unfold e9;rw[if_neg (by left)];rfl
 have n:e9 "once" (.fz (n9 s.oc)) ([("bed",.fz (bD b)),("acts",.rf 1),("waiting",.fz (iu s.wt))]:List (Str×SV))=([("bed",.fz (bD b)),("acts",.rf 1),("waiting",.fz (iu s.wt)),("once",.fz (n9 s.oc))]:List (Str×SV)):=by unfold e9;rw[if_neg (by left)];unfold e9;rw[if_neg (by left)];unfold e9;rw[if_neg (by left)];rfl
 have m:e9 "sent" (.rf 2) ([("bed",.fz (bD b)),("acts",.rf 1),("waiting",.fz (iu s.wt)),("once",.fz (n9 s.oc))]:List (Str×SV))=tf b s:=by unfold e9;rw[if_neg (by left)];unfold e9;rw[if_neg (by left)];unfold e9;rw[if_neg (by left)];unfold e9;rw[if_neg (by left)];rfl
 have r:lU [] ((fR s.ac).map jC)=(fR s.ac).map jC:=xc (fR s.ac) [] (qI s.ac);have e:∀{x:SV} {ρ:bp} {fs:List (Str×SV)} {Z:aV} {j:dU} {f:Str} {c:Cell} {l:aV},ρ[0]? =lD (lD (.rf 0))->j ρ Z= .ok x (.obj "Hand" fs::l)->fs.length<100->fP "Hand" f (aw 0) j ρ Z= .ok (.nx ρ) (.obj "Hand" (e9 f x fs)::l):=fun h u t=>(nK u (b9 h) rfl t).trans rfl
 have ha:wc (ag (aC bc (aa 2) (~~~0))) [lD (.rf 0),-(bD b),-(eR s)] [.obj "Hand" ([("bed",.fz (bD b))]:List (Str×SV))]= .ok (.rf 1) [.obj "Hand" ([("bed",.fz (bD b))]:List (Str×SV)),.WH ((fR s.ac).map jC)]:=
  (Jn (ah (d:= .tuple ((fR s.ac).map pD)) (aE (rv:= .fz (.tuple ((fR s.ac).map pD))) (af rfl) aD rfl rfl e0)) (su _)).trans (by rw[r];rfl)
 refine mL (ρ:=[lD (.rf 0),-(bD b),-(eR s)]) (ρ1:=[lD (.rf 0),-(bD b),-(eR s)]) rfl (cI (e rfl (c:= .dead) (ah (d:=bD b) (af rfl)) (QL rfl)) (cI (e rfl (c:= .dead) ha (QL rfl)) (cI (e rfl (c:= .dead) (ah (d:=iu s.wt) (aE (rv:= .fz (iu s.wt)) (af rfl) aD rfl rfl y)) (QL rfl)) (cI (e rfl (c:= .dead) (ah (d:=n9 s.oc) (aE (rv:= .fz (n9 s.oc)) (af rfl) aD rfl rfl v)) (QL rfl)) ?_))));rw[q,o,n];refine(e (fs:=([("bed",.fz (bD b)),("acts",.rf 1),("waiting",.fz (iu s.wt)),("once",.fz (n9 s.oc))]:List (Str×SV))) rfl (c:= .dead) (eD (ds:=[]) (lM aA rfl (Rp _))) (QL rfl)).trans ?_;show RS.ok _ (Cell.obj "Hand" (e9 "sent" (.rf 2) ([("bed",.fz (bD b)),("acts",.rf 1),("waiting",.fz (iu s.wt)),("once",.fz (n9 s.oc))]:List (Str×SV)))::_)=_;rw[m];rfl
omit Y in
theorem Hm (e:Vf):∃x:Str,bc (cy e) (.int 0)=-(.str x)/\cV (.str x) (.str "turn")=-(.bool (e.aaA))/\cV (.str x) (.str "down")=-(.bool (e.isDown)):=by
 have h:QK.strOk "down"=QJ:=by left
 have j:QK.strOk "up"=QJ:=by left
 have f:QK.strOk "turn"=QJ:=by left
 cases e with
 |down k=>exact⟨"down",ip,z9 h f (by left),JZ h⟩
 |up k=>exact⟨"up",ip,z9 j f (by left),z9 j h (by left)⟩
 |turn=>exact⟨"turn",ip,JZ f,z9 f h (by left)⟩
theorem HR (o:SW b s) (y:EV b e):∃Z',jT [.fz (bD b),.fz (eR s),.fz (cy e)] []= .ok (.tp [.rf 2,.fz (eR (bR b s e).1)]) Z'/\sh Z' (.rf 2)=lD (.list ((bR b s e).2.map kY)):=by
 have f:HS b (s,[]) (ef b s [] (fR s.ac) []):=⟨fR s.ac,[],.refl _,rfl⟩;obtain⟨x,u,B,A⟩:=Hm e;have n:∀{Z:aV},bQ (aF (aC cV (aC bc (aa 2) (~~~0)) (pC (.str "turn")))) [-(bD b),-(eR s),-(cy e),lD (.rf 0)] Z= .ok (e.aaA) Z:=bH (bK (aE (aE (af rfl) aD rfl rfl u) aD rfl rfl B) rfl);have v:∀{Z:aV},bQ (aF (aC cV (aC bc (aa 2) (~~~0)) (pC (.str "down")))) [-(bD b),-(eR s),-(cy e),lD (.rf 0)] Z= .ok (e.isDown) Z:=bH (bK (aE (aE (af rfl) aD rfl rfl u) aD rfl rfl A) rfl);have j:∀{Z:aV},HS b (bR b s e) Z->UQ (iw (nt (ao (a9 "Hand" "sent" (aw 3)) (ao (aO "Hand" "stands" bB 1 (aw 3) aW) aW))) [-(bD b),-(eR s),-(cy e),lD (.rf 0)] Z) (fun _ Z'=>SV.fz .none= .tp [.rf 2,.fz (eR (bR b s e).1)]/\sh Z' (.rf 2)=lD (.list ((bR b s e).2.map kY))) (fun _ _=>False) (fun r Z'=>r= .tp [.rf 2,.fz (eR (bR b s e).1)]/\sh Z' (.rf 2)=lD (.list ((bR b s e).2.map kY))):=fun{Z} hs=>by obtain⟨t,h,l⟩:=nR hs;have m:=b4 (ρ:=[-(bD b),-(eR s),-(cy e),lD (.rf 0)]) (i:=3) (m:= "stands") hs (by left) rfl aQ rfl h;obtain⟨ps,J,G,rfl⟩:=hs;obtain⟨E,H,F,rfl⟩:=l;exact Nb (OX (au (tG rfl) (au m aQ)) (QL rfl) rfl rfl) ⟨rfl,iB rfl⟩
 have C:sW "Hand" dM 3 (ao (ag (aa 0)) (ao (ag (aa 1)) aW)) [-(bD b),-(eR s),-(cy e),Ld] []= .ok (.rf 0) (ef b s [] (fR s.ac) []):=K5 (au (ah (af rfl)) (au (ah (af rfl)) aQ)) rfl II;refine iz rfl (jc C rfl ?_);cases e with
 |turn=>obtain⟨t,h,l⟩:=Je Y f o (show 0<800 by decide);exact tP n (kP (b4 f (by left) rfl aQ rfl h) (j l))
 |down k=>obtain⟨t,h,l⟩:=DR Y f o y (show 0<800 by decide);have q:bc (cy (.down k)) (.int 1)=-(nd k):=i7;exact rN n (tP v (kP (b4 f (by left) rfl (au (ah (aE (af rfl) aD rfl rfl q)) aQ) rfl h) (j l)))
 |up k=>obtain⟨t,h,l⟩:=Ij Y f o y (show 0<700 by decide);have q:bc (cy (.up k)) (.int 1)=-(nd k):=i7;exact rN n (rN v (kP (b4 f (by left) rfl (au (ah (aE (af rfl) aD rfl rfl q)) aQ) rfl h) (j l)))
theorem NT {e:Vf} (h:SW b s) (l:EV b e):sR jT 3 [.fz (bD b),.fz (eR s),.fz (cy e)] Z= .ok (.tp [.rf Z.length,.fz (eR (bR b s e).1)]) (Z++[.lst (((bR b s e).2.map kY).map .fz)]):=by
 obtain⟨f,n,m⟩:=HR Y h l;unfold sR;rw[if_pos (show([.fz (bD b),.fz (eR s),.fz (cy e)]:List SV).length=3 from rfl),show aM wR [.fz (bD b),.fz (eR s),.fz (cy e)]=lD [bD b,eR s,cy e] from rfl];dsimp only;rw[show[bD b,eR s,cy e].map SV.fz=[.fz (bD b),.fz (eR s),.fz (cy e)] from rfl,n];show(match C7 f Z.length [.rf 2,.fz (eR (bR b s e).1)] with
  |some (l',cs,js)=>if js.Nodup then RS.ok (SV.tp l') (Z++cs.map Pv) else .bad
  |none=> .bad)=_
 have j:C7 f Z.length [.rf 2,.fz (eR (bR b s e).1)]=lD ([.rf Z.length,.fz (eR (bR b s e).1)],[(bR b s e).2.map kY],[2]):=by unfold C7;rw[m];rfl
 rw[j];dsimp only;rw[if_pos (by decide)];rfl
end
def fV:Tc:=⟨fun _=>Ld,Ld,Ld⟩
theorem ig (b:Bd):SW b fV:=⟨⟨fun k a e=>(by cases e),fun o e=>(by cases e)⟩,fun f g w e=>(by cases e)⟩
theorem Be {α:Type} {f:α->D}:∀{l:List α},(∀a∈l,QK.canLay0 (f a)=QJ)->QK.canLayAll0 (l.map f)=QJ
 |[],_=>rfl
 |a::r,h=>by show(QK.canLay0 (f a)&&QK.canLayAll0 (r.map f))=QJ;rw[h a QS,Be fun x b=>h x (QV _ b)];rfl
theorem vf {α:Type} {f:α->D} {n:Nat}:∀{l:List α},(∀a∈l,QK.depth (f a)<=n)->QK.depthAll (l.map f)<=n
 |[],_=>Rp _
 |a::r,h=>afE.mpr ⟨h a QS,vf fun x b=>h x (QV _ b)⟩
theorem KC {d:D} (b:QK.canLay0 d=QJ) (a:QK.depth d<=64):lm d=QJ:=by unfold lm;rw[b,decide_eq_true a];rfl
theorem No {d:D} (h:lm d=QJ):QK.canLay0 d=QJ:=by unfold lm at h;exact(Q6 _ _▸h:_/\_).1
def US (sn:Sn):Prop:=∀q∈sn,q.1<26
theorem Ff {b:Bd} {s:Tc} (h:SW b s):lm (eR s)=QJ:=by
 have j:QK.canLayAll0 ((fR s.ac).map pD)=QJ:=Be fun q l=>by show(QJ&&(QK.canLay0 (mD q.2)&&QJ))=QJ;rw[vG (h.sa.ac _ _ (fy.mp l).2).2.lb];rfl
 have o:∀m:Mn,QK.depth (mD m)<=1:=fun m=>by cases m<;>exact QL rfl
 have p:QK.depthAll ((fR s.ac).map pD)<=2:=vf fun q _=>by show max 0 (max (QK.depth (mD q.2)) 0)+1<=2;have:=o q.2;omega
 have f:QK.canLay0 (iu s.wt)=QJ/\QK.depth (iu s.wt)<=2:=by
  cases q:s.wt with
  |none=>exact⟨rfl,Rp _⟩
  |some x=>
   obtain⟨a,g,w⟩:=x;have v:=(h.wt a g w q).1;constructor
   .show(QK.canLayAll0 (a8 a)&&(QJ&&(QK.canLay0 (ro w)&&QJ)))=QJ
    rw[ii];cases w with
    |none=>show QK.canLay0 (.tuple [.str "chord"])&&QJ=QJ;left
    |some i=>obtain⟨c,n⟩:=i;have lb:LB (.Vo c n):=(v.tp c n rfl).1;show(QK.canLay0 (mD (.Vo c n))&&QJ)=QJ;rw[vG lb];rfl
   .show max (QK.depthAll (a8 a)+1) (max 0 (max (QK.depth (ro w)) 0))+1<=2
    rw[kH];cases w with
    |none=>exact QL rfl
    |some i=>exact QL rfl
 have e:QK.canLay0 (n9 s.oc)=QJ/\QK.depth (n9 s.oc)=0:=by cases s.oc<;>exact⟨rfl,rfl⟩
 refine KC ?_ ?_
 .show(QK.canLayAll0 ((fR s.ac).map pD)&&(QK.canLay0 (iu s.wt)&&(QK.canLay0 (n9 s.oc)&&QJ)))=QJ;rw[j,f.1,e.1];rfl
 .show max (QK.depthAll ((fR s.ac).map pD)+1) (max (QK.depth (iu s.wt)) (max (QK.depth (n9 s.oc)) 0))+1<=64;rw[e.2];have:=f.2;omega
section
variable {b:Bd} (Z:VB b) {s:Tc} {p:Tc×Sn} {k:Nat} {a:Mn}
theorem US.app {x y:Sn} (f:US x) (e:US y):US (x++y):=fun q g=>(Rq.mp g).elim (f q) (e q)
theorem kL (h:US p.2) (ha:LB a):US (eT p k a).2:=by
 refine h.app fun q e=> ?_;cases a with
 |Rk c=>
  have e:q∈(if lR p.1.ac (.Rk c)=QJ then[] else[(c,QJ)]:Sn):=e;split at e
  .cases e
  .rw[Q2.mp e];exact ha
 |_=>cases e
theorem FH (e:List (Nat×Mn)):∀{p:Tc×Sn},US p.2->(∀q∈e,LB q.2)->US (gF p e).2:=by
 induction e with
 |nil=>exact fun h _=>h
 |cons q r g=>exact fun h f=>g (kL h (f q QS)) fun x i=>f x (QV _ i)
theorem JP (h:US p.2) (ha:SA b p.1):US (go p k).2:=by
 unfold go;split
 .rename_i a q
  have lb:=(ha.ac k a q).2.lb;refine h.app fun x e=> ?_;cases a with
  |Rk c=>
   have e:x∈(if lR (jR p.1.ac k Ld) (.Rk c)=QJ then[] else[(c,QQ)]:Sn):=e;split at e
   .cases e
   .rw[Q2.mp e];exact lb
  |_=>cases e
 .exact h
include Z
theorem md (h:US p.2) (i:WD b p.1):US (cc b p).2:=by
 unfold cc;split
 .exact h
 .rename_i e g w q;exact FH _ (p:=({p.1 with wt:=Ld},p.2)) h fun x f=>(uR Z (i e g w q) x f).2.lb
theorem M3 (h:US p.2) (g:SA b p.1) (i:(k:Int)<b.n):US (Br b p k).2:=by
 obtain⟨o,l⟩:=vt Z g;obtain⟨e,f⟩:=tW Z (k:=k) o l i;have j:Br b p k=tK b (ju p.1.ac p.1.oc) (ei p.1 (look b (ju p.1.ac p.1.oc) k),p.2) k (look b (ju p.1.ac p.1.oc) k):=rfl;rw[j];generalize look b (ju p.1.ac p.1.oc) k=m at e f;generalize ju p.1.ac p.1.oc=L at e;have lb:=e.lb;cases m with
 |Vo c n=>exact h
 |Rk c=>
  show US (if(decide (L=0)&& !(dZ b [k]).isEmpty)=QJ then({ei p.1 (.Rk c) with wt:=lD ([k],0,Ld)},p.2) else eT (ei p.1 (.Rk c),p.2) k (.Rk c)).2;split
  .exact h
  .exact kL (p:=(ei p.1 (.Rk c),p.2)) h lb
 |S6 n=>exact kL (p:=(ei p.1 (.S6 n),p.2)) h lb
 |once n=>exact kL (p:=(ei p.1 (.once n),p.2)) (k:=k) (a:= .none) h trivial
 |none=>exact kL (p:=(ei p.1 .none,p.2)) h lb
 |below=>exact absurd rfl f
theorem Bi {e:Vf} (h:SW b s) (l:EV b e):US (bR b s e).2:=by
 have f:US []:=fun q o=>by cases o
 cases e with
 |turn=>
  show US (gD b (s,[])).2;unfold gD;split
  .exact f
  .rename_i i g w q
   have v:=(h.wt i g w q).1;split
   .exact md Z (p:=({s with wt:=lD (i,g+1,w)},[])) f fun _ _ _ e=>by cases e;exact⟨v.ne,v.nd,v.kn,v.kf,by have:=v.g0;omega,v.tp,v.ch⟩
   .exact f
 |up k=>
  show US (mj b (s,[]) k).2;unfold mj;split
  .rename_i q
   have z:=kF Z (p:=(s,[])) h q;refine JP ?_ z.1.sa;unfold bO;split
   .exact md Z (p:=(s,[])) f (SW.wd Z h)
   .rename_i c n e;have r:c<26:=((h.wt _ _ _ e).1.tp c n rfl).1;exact kL (p:=({s with wt:=Ld},[])) f r
   .exact f
  .exact JP (p:=(s,[])) f h.sa
 |down k=>
  show US (hJ b (s,[]) k).2;unfold hJ;split
  .exact f
  .rename_i q
   rw[VP,not_or] at q;have ha:s.ac k=Ld:=by
    cases z:s.ac k with
    |none=>rfl
    |some x=>exact absurd (show(s.ac k).isSome=QJ by rw[z];rfl) q.1
   have hn:xp s.wt k=QQ:=by
    cases z:xp s.wt k with
    |false=>rfl
    |true=>exact absurd z q.2
   split
   .rename_i m
    obtain⟨i,g,j,y,t,u⟩:=vM Z (p:=(s,[])) h l ha hn m;have j:s.wt=lD (i,g,Ld):=j;unfold rA;dsimp only;rw[j];dsimp only;split
    .exact md Z (p:=({s with wt:=lD (i++[k],g,Ld)},[])) f fun _ _ _ e=>by cases e;exact t
    .exact f
   .have d:=eF Z (p:=(s,[])) h.sa (SW.wd Z h);exact M3 Z (md Z (p:=(s,[])) f (SW.wd Z h)) d.1.sa l
end
end STP
namespace K73
open PySem L2 L3 STP
def og:FS:=(dQ (MM (aF (aC NM (aa 1) (gq gh {aa 0}))) (aC bc (aa 0) (aa 1)) (~~~0)))
def cr:FN:=gv 2 og
def jH:FS:=(bx (cL (aC df (aC gl (aC cH (aC df (aa 0) (~~~1000033)) (aa 1)) (aC cH (aa 1) (~~~521))) (~~~1000033)) (gN 3))
 (bx (cL (aC df (aC cH (aC cH (aC gl (aa 3) (aa 3)) (aC eW (aa 0) (~~~1000033))) (aC gl (~~~7) (aa 1))) (~~~999983)) (gN 3))
 (dQ (aC df (aC eW (aa 3) (~~~3)) (aa 2)))))
def bA:FN:=gv 4 jH
def eC:FS:=(bx (cL (aC ka (pC (.str "abc")) (fq bA 3 {aa 0,~~~5,~~~3})) (gN 3))
 (bx (cL (aC cH (~~~1) (fq bA 3 {aa 0,~~~7,gq wo {~~~1,aC se (aa 2) (~~~1)}})) (gN 4))
 (bx (cL (fq bA 3 {aa 0,~~~3,~~~8}) (gN 5))
 (bx (lY (ko (aF (aC x8 (aa 1) (~~~0))) (aF (aC x8 (aa 5) (~~~5)))) (dQ (bj {pC (.str "below")})) eO)
 (bx (lY (ko (aF (aC x8 (aa 2) (~~~1))) (aF (aC cV (aa 5) (~~~3)))) (dQ (bj {pC (.str "layer"),aa 4})) eO)
 (bx (lY (ko (aF (aC x8 (aa 2) (~~~1))) (aF (aC cV (aa 5) (~~~4)))) (dQ (bj {pC (.str "tap"),aa 3,aa 4})) eO)
 (bx (lY (ko (aF (aC x8 (aa 2) (~~~1))) (aF (aC cV (aa 5) (~~~5)))) (dQ (bj {pC (.str "once"),aa 4})) eO)
 (dQ (bj {pC (.str "letter"),aa 3})))))))))
def eB:FN:=gv 6 eC
def i8:FS:=(bx (cL (fq cr 2 {aa 0,~~~0}) (gN 2))
 (bx (cL (aC cH (~~~1) (fq bA 3 {aa 2,~~~1,aa 1})) (gN 3))
 (bx (cL (aC cH (~~~1) (fq bA 3 {aa 2,~~~2,~~~2})) (gN 4))
 (bx (cL (dC aq) (gN 5))
 (bx (oz (kZ gA {aa 4}) (gN 6) (bx (cL (eP 1 [0,3,6] (kZ gA {aa 3}) (gN 0) eX (fq cr 2 {aa 1,aC cH (aC cH (~~~1) (aC gl (aa 2) (aa 3))) (aa 0)})) (gN 7))
 (jV (t9 5 (gq iX {eP 1 [6,4] (kg (aa 7)) (gN 0) eX (fq eB 3 {aa 0,aa 1,aa 2})})))))
 (bx (cL (gq iX {eP 1 [5] (kZ gA {aa 3}) (gN 0) (aF (aC cV (aC bc (aC bc (aC bc (aa 1) (~~~0)) (aa 0)) (~~~0)) (pC (.str "letter")))) (aa 0)}) (gN 8))
 (bx (cL (bj aq) (gN 9))
 (bx (lY (ko (aF (aC x8 (gq gh {aa 8}) (~~~1))) (aF (aC x8 (fq bA 3 {aa 2,~~~17,~~~3}) (~~~0)))) (cL (bj {bj {Lo PR (aa 8) Aa (mP (~~~2)),aC ka (pC (.str "abd")) (fq bA 3 {aa 2,~~~19,~~~3})}}) (gN 9)) eO)
 (dQ (bj {aa 3,gq iX {aa 5},aa 9,aC cH (~~~1) (fq bA 3 {aa 2,~~~23,~~~2})}))))))))))
def jd:FN:=gv 10 i8
def cz:FS:=(bx (cL (aC ka (pC (.str "abcdefghijklmnopqrstuvwxyz")) (aC df (aC eW (aa 0) (~~~7)) (~~~26))) (gN 3))
 (bx (cL (aC cH (~~~1) (aC df (aC eW (aa 0) (~~~182)) (gq wo {~~~1,aC se (aa 2) (~~~1)}))) (gN 4))
 (bx (lY (ko (aF (aC cV (aC df (aa 0) (~~~7)) (~~~1))) (aF (aC x8 (aa 1) (~~~0)))) (dQ (bj {pC (.str "below")})) eO)
 (bx (lY (aF (aC cV (aC df (aa 0) (~~~7)) (~~~2))) (dQ (bj {pC (.str "none")})) eO)
 (bx (lY (ko (aF (aC cV (aC df (aa 0) (~~~7)) (~~~3))) (aF (aC x8 (aa 2) (~~~1)))) (dQ (bj {pC (.str "layer"),aa 4})) eO)
 (bx (lY (ko (aF (aC cV (aC df (aa 0) (~~~7)) (~~~4))) (aF (aC x8 (aa 2) (~~~1)))) (dQ (bj {pC (.str "tap"),aa 3,aa 4})) eO)
 (bx (lY (ko (aF (aC cV (aC df (aa 0) (~~~7)) (~~~5))) (aF (aC x8 (aa 2) (~~~1)))) (dQ (bj {pC (.str "once"),aa 4})) eO)
 (dQ (bj {pC (.str "letter"),aa 3})))))))))
def c7:FN:=gv 5 cz
def fu:FS:=(bx (cL (aC cH (~~~1) (aC df (aa 0) (aa 1))) (gN 4))
 (bx (cL (aC cH (~~~1) (aC df (aC eW (aa 0) (aa 1)) (aa 2))) (gN 5))
 (bx (cL (aC eW (aC eW (aa 0) (aa 1)) (aa 2)) (gN 0))
 (bx (cL (aC cH (~~~1) (aC df (aa 0) (aa 3))) (gN 6))
 (bx (cL (aC eW (aa 0) (aa 3)) (gN 0))
 (bx (cL (dC aq) (gN 7))
 (bx (oz (kZ gA {aa 5}) (gN 8) (bx (cL (dC aq) (gN 9))
 (bx (oz (kZ gA {aa 4}) (gN 10) (bx (jV (t9 9 (fq c7 3 {aC df (aa 0) (~~~364),aa 8,aa 5})))
 (cL (aC eW (aa 0) (~~~364)) (gN 0))))
 (jV (t9 7 (gq iX {aa 9}))))))
 (bx (cL (dC aq) (gN 11))
 (bx (oz (kZ gA {~~~4}) (gN 12) (bx (cL (gq iX {eP 1 [0,7] (kZ gA {aa 4}) (gN 0) (ko (aF (aC cV (aC xI (aC B9 (aa 1) (aa 0)) (~~~1)) (~~~1))) (aF (aC cV (aC bc (aC bc (aC bc (aa 2) (~~~0)) (aa 0)) (~~~0)) (pC (.str "letter"))))) (aa 0)}) (gN 13))
 (bx (lY (ko (aF (aC x8 (gq gh {aa 13}) (~~~1))) (aF (aC ox (aa 13) (eP 1 [] (BQ 11) (gN 0) eX (aC bc (aa 0) (~~~0)))))) (jV (t9 11 (bj {aa 13,aC ka (pC (.str "abcdefghijklmnopqrstuvwxyz")) (aC df (aC eW (aa 0) (~~~32)) (~~~26))}))) eO)
 (cL (aC eW (aa 0) (~~~832)) (gN 0)))))
 (dQ (bj {aa 4,gq iX {aa 7},gq iX {aa 11},aa 6})))))))))))
def fw:FN:=gv 14 fu
def dG:FS:=(bx (cL (dC aq) (gN 2))
 (bx (cL (aC df (aa 0) (~~~41)) (gN 3))
 (bx (cL (aC eW (aa 0) (~~~41)) (gN 0))
 (bx (oz (kZ gA {aa 3}) (gN 4) (bx (cL (aC df (aa 0) (aC cH (aC gl (~~~2) (aa 1)) (~~~1))) (gN 5))
 (bx (cL (aC eW (aa 0) (aC cH (aC gl (~~~2) (aa 1)) (~~~1))) (gN 0))
 (jV (t9 2 (aC bc (dC {bj {pC (.str "down"),aC df (aa 5) (aa 1)},bj {pC (.str "up"),aC df (aa 5) (aa 1)},bj {pC (.str "turn"),~~~0}}) (aC eW (aa 5) (aa 1))))))))
 (dQ (aa 2))))))
def dD:FN:=gv 6 dG
def gH:FS:=(bx (cL (fq bA 3 {aa 1,~~~139,aC cH (aC gl (~~~2) (aC bc (aa 0) (~~~0))) (~~~1)}) (gN 2))
 (dQ (aC bc (dC {bj {pC (.str "down"),aC df (aa 2) (aC bc (aa 0) (~~~0))},bj {pC (.str "up"),aC df (aa 2) (aC bc (aa 0) (~~~0))},bj {pC (.str "turn"),~~~0}}) (aC eW (aa 2) (aC bc (aa 0) (~~~0))))))
def fQ:FN:=gv 3 gH
def kh:FS:=(bx (cL (eP 1 [] (kZ gA {aC bc (aa 0) (~~~0)}) (gN 0) eX (bj {pC (.str "down"),aa 0})) (gN 1))
 (bx (cL (eP 1 [] (kZ gA {aC bc (aa 0) (~~~0)}) (gN 0) eX (bj {pC (.str "up"),aa 0})) (gN 2))
 (dQ (aC cH (aC cH (aa 1) (aa 2)) (dC {bj {pC (.str "turn"),~~~0}})))))
def gy:FN:=gv 3 kh
def iC:FS:=(bx (cL (Oo wG (pC (.str "")) {eP 2 [] (kg (aa 2)) (gT 2 (C6 (gN 0) (C6 (gN 1) M4))) (aF (aC cV (aa 1) (pC (.str "down")))) (aa 0)}) (gN 3))
 (bx (cL (aC cH (aa 1) (gq yS {aa 3})) (gN 4))
 (bx (lY (aF (aC xE (Lo ub (aa 0) (mP (aa 1)) (mP (aa 4))) (aa 3))) (dQ (pC .none)) eO)
 (dQ (aa 4)))))
def gp:FN:=gv 5 iC
end K73
namespace K73
open PySem L2 L3 L10 STP
def dg:fx:=(aK (cB (bS (wB QJ (ag (aa 1)) (a9 "Places" "numbers" (aw 0)))) (aK (cB (bS (mU PZ (G5 gh (ao (a9 "Places" "found" (aw 0)) aW)) (a9 "Places" "most" (aw 0)))) (pi "TooMany" "most" (a9 "Places" "most" (aw 0))) cC)
 (aK (ur (a9 "Places" "numbers" (aw 0)) (ag (aa 1)) (G5 gh (ao (a9 "Places" "found" (aw 0)) aW)))
 (bU (rS (a9 "Places" "found" (aw 0)) (ag (bj {aa 1,aa 2,aa 3})))))) cC)
 (iw (lQ (a9 "Places" "numbers" (aw 0)) (ag (aa 1)))))
def b6:iK:=cW 4 dg
def cP:fx:=(aK (fP "Places" "most" (aw 0) (ag (aa 2)))
 (aK (fP "Places" "found" (aw 0) (ag (dC aq)))
 (aK (fP "Places" "numbers" (aw 0) zb)
 (bU (rh "Places" "enter" b6 4 (aw 0) (ao (ag (aa 1)) (ao (ag (pC .none)) (ao (ag (pC .none)) aW))))))))
def cO:iK:=cW 3 cP
def gz:fx:=(aK (cF (ag (dC aq)) (gn 2))
 (aK (cF (ka (a9 "Places" "found" (aw 0)) (ag (aa 1))) (gn 3))
 (aK (uz (bQ (aF (aC kr (aC bc (aa 3) (~~~1)) (pC .none)))) (aK (bU (rS (aw 2) (ag (aC bc (aa 3) (~~~2)))))
 (cF (ka (a9 "Places" "found" (aw 0)) (ag (aC bc (aa 3) (~~~1)))) (gn 3))))
 (iw (zV (aw 2))))))
def cJ:iK:=cW 4 gz
def kq:fx:=(aK (cF (mH (ag (fq gy 1 {aa 0}))) (gn 3))
 (aK (cF (FU "Places" cO 3 (ao (ag (bj {pC (.tuple [(.tuple []),.none,.none]),~~~0})) (ao (ag (aa 2)) aW))) (gn 4))
 (aK (cF (ag (~~~0)) (gn 5))
 (aK (uz (bS (mU NM (ag (aa 5)) (G5 gh (ao (a9 "Places" "found" (aw 4)) aW)))) (aK (cF (ka (ka (a9 "Places" "found" (aw 4)) (ag (aa 5))) (ag (~~~0))) (gn 6))
 (aK (xx (n6 (kg (aa 3))) (gn 7) (aK (cF (mH (sA STP.jT 3 (ao (ag (aa 0)) (ao (ag (aC bc (aa 6) (~~~0))) (ao (ag (aa 7)) aW))))) (gn 8))
 (aK (cF (ag (fq gp 3 {aa 1,aC bc (aa 6) (~~~1),aC bc (aa 8) (~~~0)})) (gn 9))
 (cB (bQ (aF (aC kr (aa 9) (pC .none)))) (bU (rh "Places" "enter" b6 4 (aw 4) (ao (ag (bj {aC bc (aa 8) (~~~1),aa 9})) (ao (ag (aa 5)) (ao (ag (aa 7)) aW))))) cC))))
 (Dh 5 NP (ag (~~~1))))))
 (iw (aw 4))))))
def gx:iK:=cW 10 kq
def uX:fx:=(aK (cF (Bj gx 3 [] (ao (ag (aa 0)) (ao (ag (aa 1)) (ao (ag (aa 2)) aW)))) (gn 3))
 (aK (cF (ag (bj {pC (.tuple [(.tuple []),.none,.none]),gq yS {aa 1}})) (gn 4))
 (aK (cB (bS (wB QJ (ag (aa 4)) (a9 "Places" "numbers" (aw 3)))) (iw (ag (pC .none))) cC)
 (iw (aO "Places" "way_to" cJ 2 (aw 3) (ao (lQ (a9 "Places" "numbers" (aw 3)) (ag (aa 4))) aW))))))
def kQ:iK:=cW 5 uX
def l8:fx:=(aK (cF (mH (uc kQ 3 [(.int 400)] (ao (ag (aa 0)) (ao (ag (aa 1)) aW)))) (gn 3))
 (iw (ag (Fi (aC kr (aa 3) (pC .none)) (aC L6 (gq gh {aa 3}) (aa 2))))))
def gP:iK:=cW 4 l8
def FM:fx:=(aK (cF (ag (fq jd 2 {aa 0,~~~2})) (gn 1))
 (aK (cF (mH (ag (eP 1 [1] (kg (Lo Ph (aa 0) (mP (~~~9)) (mP (~~~63)))) (gN 0) eX (fq fQ 2 {aa 1,aa 0})))) (gn 2))
 (aK (cB (bQ (Cu (aF (qK L6 NM (~~~0) (fq cr 2 {aa 0,~~~1}) (aC DL (~~~10) (~~~18)))))) (aK (cF (ag (fq fw 4 {gq Cj {fq cr 2 {aa 0,~~~1}},~~~2,~~~2,~~~2})) (gn 1))
 (cF (mH (ag (fq dD 2 {gq Cj {fq cr 2 {aa 0,~~~2}},aC bc (aa 1) (~~~0)}))) (gn 2))) cC)
 (aK (cF (mH (ag (aC cH (aC cH (aa 2) (eP 1 [] (kZ gA {aC bc (aa 1) (~~~0)}) (gN 0) eX (bj {pC (.str "up"),aa 0}))) (aC gl (dC {bj {pC (.str "turn"),~~~0}}) (aC bc (aa 1) (~~~3)))))) (gn 2))
 (aK (cF (ag (bj {bj aq,pC .none,pC .none})) (gn 3))
 (aK (cF (ag (pC (.str ""))) (gn 4))
 (aK (cF (ag (~~~0)) (gn 5))
 (aK (cF (ag (dC aq)) (gn 6))
 (aK (xx (n6 (kg (aa 2))) (gn 7) (aK (cF (mH (sA STP.jT 3 (ao (ag (aa 1)) (ao (ag (aa 3)) (ao (ag (aa 7)) aW))))) (N8 2 (tQ (gn 8) (tQ (gn 9) Gg))))
 (aK (cF (ag (Oo wG (pC (.str "")) {eP 2 [] (kg (aa 8)) (gT 2 (C6 (gN 0) (C6 (gN 1) M4))) (aF (aC cV (aa 1) (pC (.str "down")))) (aa 0)})) (gn 10))
 (cB (bQ (aF (aC L6 (gq yS {aC CM (aa 4) (aa 10)}) (~~~3)))) (aK (cF (ag (aa 9)) (gn 3))
 (aK (cF (ag (aC CM (aa 4) (aa 10))) (gn 4))
 (aK (cF (ag (aC cH (aa 5) (~~~1))) (gn 5))
 (cB (lF (bQ (aF (aC cV (aa 3) (bj {bj aq,pC .none,pC .none})))) (bS (mU ox (ag (aa 4)) (aw 6)))) (aK (bU (rS (aw 6) (ag (aa 4))))
 (cB (vN (bS (zT gP 3 (ao (ag (aa 1)) (ao (ag (aa 4)) (ao (ag (aa 5)) aW)))))) (iw (ag (pC (.bool QQ)))) cC)) cC)))) cC))))
 (iw (ag (pC (.bool QJ)))))))))))))
def F_law:iK:=cW 11 FM
section
variable {ρ ρ1:bp} {Z Z1 Y Z3:aV} {x y z:SV} {i:Nat} {d:D} {X:List (D×D)}
theorem EW (h:Z[i]? =lD (.dd X)):rT Z (.rf i)=lD (i,X):=by unfold rT;dsimp only;rw[h]
theorem zP (a:fk ρ Z= .ok x Z1) (hd:fd ρ Z1= .ok (.rf i) Y) (e:oa x=lD k) (b:Y[i]? =lD (.dd X)):wB neg fk fd ρ Z= .ok (.fz (.bool ((ie X k).isSome !=neg))) Y:=by unfold wB;rw[a,RS.bind_ok,hd,RS.bind_ok,e];show((RS.RO Y (rT Y (.rf i))).bind _)=_;rw[EW b];rfl
theorem ww (hd:fd ρ Z= .ok (.rf i) Z1) (a:fk ρ Z1= .ok x Y) (f:oa x=lD k) (e:Y[i]? =lD (.dd X)) (b:ie X k=lD d):lQ fd fk ρ Z= .ok (.fz d) Y:=by unfold lQ;rw[hd,RS.bind_ok,a,RS.bind_ok,f];show((RS.RO Y (rT Y (.rf i))).bind _)=_;rw[EW e];show((RS.RO Y (ie X k)).bind _)=_;rw[b];rfl
theorem Fb (a:fv ρ Z= .ok (.fz d) Z1) (hd:fd ρ Z1= .ok (.rf i) Y) (e:fk ρ Y= .ok x Z3) (g:oa x=lD k) (f:Z3[i]? =lD (.dd X)) (b:X.length<1000000):ur fd fk fv ρ Z= .ok (.nx ρ) (Z3.set i (.dd (pU X k d))):=by unfold ur;rw[a,RS.bind_ok,hd,RS.bind_ok,e,RS.bind_ok,g];show((RS.RO Z3 (rT Z3 (.rf i))).bind _)=_;rw[EW f];show(if X.length<1000000 then _ else _)=_;rw[if_pos b]
theorem IS (ha:fa ρ Z= .ok xs Z1) (hn:xs.length=n) (a:F xs Z1= .ok x Y):zT F n fa ρ Z= .ok x Y:=by unfold zT;rw[ha,RS.bind_ok,if_pos hn,a,wZ]
end
theorem B7 {l r:aV}:(l++r)[l.length+t]? =r[t]? :=by rw[Ro (by omega),Uc]
theorem GU {l r:aV}:(l++r).set (l.length+t) c=l++r.set t c:=by rw[List.set_append_right _ _ (by omega),Uc]
structure Pl where
 p:D
 b:D
 e:D
def xN (q:Pl):D:= .tuple [q.p,q.b,q.e]
def g6:List Pl->D->Option Nat
 |[],_=>Ld
 |q::r,p=>if QK.eqv q.p p=QJ then lD 0 else(g6 r p).map (·+1)
def iA:Nat->List Pl->List (D×D)
 |_,[]=>[]
 |k,q::r=>(q.p,nd k)::iA (k+1) r
theorem jI:∀(k:Nat) (fs:List Pl) (p:D),ie (iA k fs) p=(g6 fs p).map fun i=>nd (k+i)
 |_,[],_=>rfl
 |k,q::r,p=>by
  have a:=jI (k+1) r p;unfold ie at a⊢;unfold iA g6;rw[RH];cases QK.eqv q.p p with
  |true=>rfl
  |false=>dsimp only;rw[a,if_neg Q8,Option.map_map];congr 1;funext i;show nd (k+1+i)=nd (k+(i+1));rw[WN,YW 1 i]
theorem xB:∀(k:Nat) (fs:List Pl) (q:Pl),iA k (fs++[q])=iA k fs++[(q.p,nd (k+fs.length))]
 |k,[],q=>rfl
 |k,a::r,q=>by show(a.p,nd k)::iA (k+1) (r++[q])=(a.p,nd k)::(iA (k+1) r++[(q.p,nd (k+(r.length+1)))]);rw[xB (k+1) r q,WN,YW 1 r.length]
theorem AN:∀(k:Nat) (fs:List Pl),(iA k fs).length=fs.length
 |_,[]=>rfl
 |k,q::r=>congrArg (·+1) (AN (k+1) r)
theorem HH (h:g6 fs p=Ld):pU (iA 0 fs) p (nd fs.length)=iA 0 (fs++[⟨p,b,e⟩]):=by
 have g:=jI 0 fs p;rw[h] at g;unfold ie at g;have f:((iA 0 fs).find? fun a=>QK.eqv a.1 p)=Ld:=by
  cases q:(iA 0 fs).find? fun a=>QK.eqv a.1 p with
  |none=>rfl
  |some x=>rw[q] at g;cases g
 unfold pU;rw[f,xB,Uk];rfl
theorem DH (h:g6 fs q.p=Ld) (f:QK.eqv q.p q.p=QJ):g6 (fs++[q]) q.p=lD fs.length:=by
 induction fs with
 |nil=>show(if QK.eqv q.p q.p=QJ then lD 0 else _)=_;rw[if_pos f];rfl
 |cons a r b=>
  unfold g6 at h;show(if QK.eqv a.p q.p=QJ then lD 0 else(g6 (r++[q]) q.p).map (·+1))=_;by_cases e:QK.eqv a.p q.p=QJ
  .rw[if_pos e] at h;cases h
  .rw[if_neg e] at h⊢;rw[b (by cases k:g6 r q.p with|none=>rfl|some _=>rw[k] at h;cases h)];rfl
theorem tZ (h:LD.keyD p=QJ):QK.eqv p p=QJ:=by
 refine afF p (LD.kd_lay p ?_);cases p with
 |tuple xs=>unfold LD.keyD at h;rw[Q6] at h;unfold LD.kd;exact h.1
 |_=>simp[LD.keyD] at h
def pF (m:Int) (j k:Nat):List (Str×SV):=[("most",.fz (.int m)),("found",.rf j),("numbers",.rf k)]
structure PSt (i j k:Nat) (m:Int) (fs:List Pl) (Z:aV):Prop where
 o:Z[i]? =lD (.obj "Places" (pF m j k))
 f:Z[j]? =lD (.lst ((fs.map xN).map .fz))
 n:Z[k]? =lD (.dd (iA 0 fs))
 jk:j≠k
 ij:i≠j
 ik:i≠k
 lt:fs.length<100000
def rY (j k:Nat) (fs:List Pl) (Z:aV):aV:=(Z.set k (.dd (iA 0 fs))).set j (.lst ((fs.map xN).map .fz))
section
variable {i j k:Nat} {m:Int} {fs:List Pl} {Z:aV} {p b e:D}
theorem PSt.ent (h:PSt i j k m fs Z) (l:fs.length+1<100000):PSt i j k m (fs++[q]) (rY j k (fs++[q]) Z):=by
 have g:=(QM.mp h.f).1;have a:=(QM.mp h.n).1;refine⟨?_,?_,?_,h.jk,h.ij,h.ik,by rw[QO];exact l⟩
 .unfold rY;rw[R9 (Ne.symm h.ij),R9 (Ne.symm h.ik)];exact h.o
 .unfold rY;rw[Sv (by rw[Si];exact g)]
 .unfold rY;rw[R9 h.jk,Sv a]
theorem Dg:(pF m j k).lookup ("most":Str)=-(.int m):=by rfl
theorem nc:(pF m j k).lookup ("found":Str)=lD (.rf j):=by rfl
theorem ot:(pF m j k).lookup ("numbers":Str)=lD (.rf k):=by rfl
theorem sY:(pF m j k).lookup ("enter":Str)=Ld:=by rfl
theorem xz (a:LD.keyD p=QJ):oa (.fz p)=lD p:=if_pos a
theorem tD (h:PSt i j k m fs Z) (hm:L9.Oq (.int m)=QJ) (O:m<=1000) (E:LD.keyD p=QJ):b6 [.rf i,.fz p,.fz b,.fz e] Z=(match g6 fs p with
  |some t=> .ok (.fz (nd t)) Z
  |none=>if m<=(fs.length:Int) then .er ⟨"TooMany",[("most",.int m)]⟩ Z else .ok (.fz (nd fs.length)) (rY j k (fs++[⟨p,b,e⟩]) Z)):=by
 have w:=xz E;have A:∀{a:aV},a[i]? =lD (.obj "Places" (pF m j k))->a9 "Places" "numbers" (aw 0) [lD (.rf i),-(p),-(b),-(e)] a= .ok (.rf k) a:=fun z=>gW (b9 rfl) z ot;have F:∀{a:aV},a[i]? =lD (.obj "Places" (pF m j k))->a9 "Places" "found" (aw 0) [lD (.rf i),-(p),-(b),-(e)] a= .ok (.rf j) a:=fun z=>gW (b9 rfl) z nc;have B:∀{a:aV},a[i]? =lD (.obj "Places" (pF m j k))->a9 "Places" "most" (aw 0) [lD (.rf i),-(p),-(b),-(e)] a= .ok (.fz (.int m)) a:=fun z=>gW (b9 rfl) z Dg;have u:∀{a:aV},ag (aa 1) [lD (.rf i),-(p),-(b),-(e)] a= .ok (.fz p) a:=ah (af rfl);have g:=zP (neg:=QJ) u (A h.o) w h.n;rw[jI] at g;have get:∀{l:List Pl} {a:aV} {t:Nat},a[i]? =lD (.obj "Places" (pF m j k))->a[k]? =lD (.dd (iA 0 l))->g6 l p=lD t->iw (lQ (a9 "Places" "numbers" (aw 0)) (ag (aa 1))) [lD (.rf i),-(p),-(b),-(e)] a= .ok (.rt (.fz (nd t))) a:=fun K J I=>by refine g9 (ww (A K) u w J ?_);rw[jI,I];show lD (nd (0+_))=_;rw[Uk]
 have v:=GH (au (F h.o) aQ) (by unfold aM;rw[iB h.f];rfl) ((i6 _).trans (by rw[QI]));cases q:g6 fs p with
 |some t=>rw[q] at g;refine iG rfl ?_;exact cI (dL (aZ g) d8) (get h.o h.n q)
 |none=>
  rw[q] at g;dsimp only;by_cases r:m<=(fs.length:Int)
  .rw[if_pos r]
   have y:=aZ (dS v (B h.o) (cD ((BS _ _).trans (by rw[decide_eq_true r]))));show cW 4 dg _ _=_;unfold cW;show((dg [lD (.rf i),-(p),-(b),-(e)] Z).bind _)=_;have N:dg [lD (.rf i),-(p),-(b),-(e)] Z= .er ⟨"TooMany",[("most",.int m)]⟩ Z:=by unfold dg;unfold aK;rw[dJ (aZ g) rfl,dJ y rfl,CA (B h.o) hm];rfl
   rw[N];rfl
  .rw[if_neg r]
   have y:=aZ (dS v (B h.o) (cD ((BS _ _).trans (by rw[decide_eq_false r]))));have C:=Fb v (A h.o) u w h.n (by rw[AN];have:=h.lt;omega);rw[HH q] at C;have L:(Z.set k (.dd (iA 0 (fs++[⟨p,b,e⟩]))))[i]? =lD (.obj "Places" (pF m j k)):=(R9 (Ne.symm h.ik)).trans h.o;have G:(Z.set k (.dd (iA 0 (fs++[⟨p,b,e⟩]))))[j]? =lD (.lst ((fs.map xN).map .fz)):=(R9 (Ne.symm h.jk)).trans h.f;have H:=uH (fe:=ag (bj {aa 1,aa 2,aa 3})) (x:= .fz (xN ⟨p,b,e⟩)) (F L) G (ah (b8 (ai (af rfl) (ai (af rfl) (ai (af rfl) aA))) rfl (QL rfl))) G (by rw[QI,QI];have:=h.lt;omega);have M:(Z.set k (.dd (iA 0 (fs++[⟨p,b,e⟩])))).set j (.lst ((fs.map xN).map SV.fz++[.fz (xN ⟨p,b,e⟩)]))=rY j k (fs++[⟨p,b,e⟩]) Z:=by unfold rY;rw[Rm,Rm];rfl
   rw[M] at H;have P:=h.ent (q:=⟨p,b,e⟩) (by omega);refine iG rfl ?_;exact cI (dJ (aZ g) (cI (dL y d8) (cI C (hV H)))) (get P.o P.n (DH q (tZ E)))
end
def jz (Z:aV) (m:Int) (fs:List Pl) (J:aV):aV:=Z++(Cell.obj "Places" (pF m (Z.length+1) (Z.length+2)):: .lst ((fs.map xN).map .fz):: .dd (iA 0 fs)::J)
theorem zJ (h:fs.length<100000):PSt Z.length (Z.length+1) (Z.length+2) m fs (jz Z m fs J):=
 ⟨by have:=B7 (l:=Z) (r:=Cell.obj "Places" (pF m (Z.length+1) (Z.length+2)):: .lst ((fs.map xN).map .fz):: .dd (iA 0 fs)::J) (t:=0);exact this,B7,B7,by omega,by omega,by omega,h⟩
theorem AC:rY (Z.length+1) (Z.length+2) fs' (jz Z m fs J)=jz Z m fs' J:=by unfold rY jz;rw[GU,GU];rfl
def TM (m:Int):Xc:=⟨"TooMany",[("most",.int m)]⟩
theorem xg (a:0<=m) (h:m<=1000):L9.Oq (.int m)=QJ:=by refine decide_eq_true (aaj (Nat.log2_le_self m.natAbs) ?_);omega
theorem Fs (l:LD.keyD p=QJ) (j:0<=m) (f:m<=1000):cO [.rf Z.length,.fz p,.fz (.int m)] (Z++[.obj "Places" []])=if m<=0 then .er (TM m) (jz Z m [] []) else .ok (.fz .none) (jz Z m [⟨p,.none,.none⟩] []):=by
 have i:fP "Places" "most" (aw 0) (ag (aa 2)) [lD (.rf Z.length),-(p),-(.int m)] (Z++[.obj "Places" []])= .ok (.nx [lD (.rf Z.length),-(p),-(.int m)]) (Z++[.obj "Places" [("most",.fz (.int m))]]):=
  (nK (ah (af rfl)) (b9 rfl) aX (by decide)).trans (by rw[fF];rfl)
 have h:fP "Places" "found" (aw 0) (ag (dC aq)) [lD (.rf Z.length),-(p),-(.int m)] (Z++[.obj "Places" [("most",.fz (.int m))]])= .ok (.nx [lD (.rf Z.length),-(p),-(.int m)]) (Z++[.obj "Places" [("most",.fz (.int m)),("found",.rf (Z.length+1))],.lst []]):=by refine(nK (eD (by fail "ev")) (b9 rfl) (by rw[RD];exact B7 (t:=0)) (QL rfl)).trans ?_;rw[RD,show Z.length=Z.length+0 from rfl,GU,QO];rfl
 have g:fP "Places" "numbers" (aw 0) zb [lD (.rf Z.length),-(p),-(.int m)] (Z++[.obj "Places" [("most",.fz (.int m)),("found",.rf (Z.length+1))],.lst []])= .ok (.nx [lD (.rf Z.length),-(p),-(.int m)]) (jz Z m [] []):=by refine(nK rfl (b9 rfl) (by rw[RD];exact B7 (t:=0)) (QL rfl)).trans ?_;rw[RD,show Z.length=Z.length+0 from rfl,GU,QO];rfl
 have P:PSt Z.length (Z.length+1) (Z.length+2) m [] (jz Z m [] []):=zJ (by decide);have n:=tD (b:= .none) (e:= .none) P (xg j f) f l;have a:=BU (F:=b6) (fo:=aw 0) (fa:=ao (ag (aa 1)) (ao (ag (pC .none)) (ao (ag (pC .none)) aW))) (ρ:=[lD (.rf Z.length),-(p),-(.int m)]) (b9 rfl) P.o sY (au (ah (af rfl)) (au (ah aD) (au (ah aD) aQ))) rfl;rw[n] at a;have a:rh "Places" "enter" b6 4 (aw 0) (ao (ag (aa 1)) (ao (ag (pC .none)) (ao (ag (pC .none)) aW))) [lD (.rf Z.length),-(p),-(.int m)] (jz Z m [] [])=if m<=0 then .er (TM m) (jz Z m [] []) else .ok (.fz (nd 0)) (rY (Z.length+1) (Z.length+2) [⟨p,.none,.none⟩] (jz Z m [] [])):=a
 rw[AC] at a;show cW 3 cP _ _=_;unfold cW;show((cP [lD (.rf Z.length),-(p),-(.int m)] (Z++[.obj "Places" []])).bind _)=_;unfold cP;rw[cI i rfl,cI h rfl,cI g rfl];unfold bU;rw[a];split<;>rfl
theorem uG:∀{l:List α},(∀a∈l,LD.kd (f a)=QJ)->LD.kds (l.map f)=QJ
 |[],_=>by rw[UO,LD.kds]
 |a::r,h=>by rw[Q3,LD.kds,h a QS,uG fun x b=>h x (QV _ b)];rfl
theorem Ht:∀ks:List Nat,LD.kds (a8 ks)=QJ:=fun ks=>uG fun a _=>by show LD.kd (.int a)=QJ;rw[LD.kd]
theorem JQ (h:LB m):LD.kd (mD m)=QJ:=by
 cases m with
 |Rk c=>show LD.kd (.tuple [.str "letter",.str (dj c)])=QJ;simp only[LD.kd,LD.kds];rw[qh h,show QK.strOk "letter"=QJ by left];rfl
 |S6 n=>show LD.kd (.tuple [.str "layer",.int n])=QJ;simp only[LD.kd,LD.kds];rw[show QK.strOk "layer"=QJ by left];rfl
 |Vo c n=>show LD.kd (.tuple [.str "tap",.str (dj c),.int n])=QJ;simp only[LD.kd,LD.kds];rw[qh h,show QK.strOk "tap"=QJ by left];rfl
 |once n=>show LD.kd (.tuple [.str "once",.int n])=QJ;simp only[LD.kd,LD.kds];rw[show QK.strOk "once"=QJ by left];rfl
 |none=>show LD.kd (.tuple [.str "none"])=QJ;simp only[LD.kd,LD.kds];rw[show QK.strOk "none"=QJ by left];rfl
 |below=>show LD.kd (.tuple [.str "below"])=QJ;simp only[LD.kd,LD.kds];rw[show QK.strOk "below"=QJ by left];rfl
theorem Ag (h:SW b s):LD.kd (eR s)=QJ/\QK.depth (eR s)<=4:=by
 have j:LD.kds ((fR s.ac).map pD)=QJ:=uG fun q l=>by show LD.kd (.tuple [nd q.1,mD q.2])=QJ;simp only[LD.kd,LD.kds];rw[JQ (h.sa.ac _ _ (fy.mp l).2).2.lb];rfl
 have o:∀m:Mn,QK.depth (mD m)<=1:=fun m=>by cases m<;>exact QL rfl
 have p:QK.depthAll ((fR s.ac).map pD)<=2:=vf fun q _=>by show max 0 (max (QK.depth (mD q.2)) 0)+1<=2;have:=o q.2;omega
 have f:LD.kd (iu s.wt)=QJ/\QK.depth (iu s.wt)<=2:=by
  cases q:s.wt with
  |none=>exact⟨by show LD.kd .none=QJ;rw[LD.kd],Rp _⟩
  |some x=>
   obtain⟨a,g,w⟩:=x;have v:=(h.wt a g w q).1;constructor
   .show LD.kd (.tuple [.tuple (a8 a),.int g,ro w])=QJ
    simp only[LD.kd,LD.kds];rw[Ht];cases w with
    |none=>show(QJ&&(QJ&&(LD.kd (.tuple [.str "chord"])&&QJ)))=QJ;simp only[LD.kd,LD.kds];rw[show QK.strOk "chord"=QJ by left];rfl
    |some i=>obtain⟨c,n⟩:=i;have lb:LB (.Vo c n):=(v.tp c n rfl).1;show(QJ&&(QJ&&(LD.kd (mD (.Vo c n))&&QJ)))=QJ;rw[JQ lb];rfl
   .show max (QK.depthAll (a8 a)+1) (max 0 (max (QK.depth (ro w)) 0))+1<=2
    rw[kH];cases w with
    |none=>exact QL rfl
    |some i=>exact QL rfl
 have e:LD.kd (n9 s.oc)=QJ/\QK.depth (n9 s.oc)=0:=by cases s.oc<;>exact⟨by show LD.kd _=QJ;unfold n9;simp only[LD.kd],rfl⟩
 constructor
 .show LD.kd (.tuple [.tuple ((fR s.ac).map pD),iu s.wt,n9 s.oc])=QJ;simp only[LD.kd,LD.kds];rw[j,f.1,e.1];rfl
 .show max (QK.depthAll ((fR s.ac).map pD)+1) (max (QK.depth (iu s.wt)) (max (QK.depth (n9 s.oc)) 0))+1<=4;rw[e.2];have:=f.2;omega
theorem P4 (h:SW b s):LD.keyD (eR s)=QJ:=by obtain⟨a,e⟩:=Ag h;unfold eR at a e⊢;rw[LD.kd] at a;rw[LD.keyD];rw[a,decide_eq_true (show _<=8 by omega)];rfl
def xS (n:Nat):List Vf:=(Q0 n).map .down++(Q0 n).map .up++[.turn]
theorem F3 {b:Bd} {n:Nat} (hn:b.n=n):∀e∈xS n,EV b e:=by
 intro e a;rcases Rq.mp a with a|a
 .rcases Rq.mp a with a|a
  .obtain⟨k,f,rfl⟩:=Rn.mp a;have:=Sg.mp f;show(k:Int)<b.n;omega
  .obtain⟨k,f,rfl⟩:=Rn.mp a;have:=Sg.mp f;show(k:Int)<b.n;omega
 .rw[Q2.mp a];trivial
theorem Jd (h:xs.length+ys.length<=1000000):cH (.list xs) (.list ys)=lD (.ow (xs++ys)):=if_pos h
theorem MN (b:Bd):bc (bD b) (.int 0)=-(.int b.n):=ip
theorem ND {b:Bd} {n:Nat} (hn:b.n=n) (l:n<=5):gy [bD b]= .ok (.ow ((xS n).map cy)):=by
 have i:gA [.int b.n]=lD (a8 (Q0 n)):=by rw[hn];exact my (by omega)
 have j:=MN b;have a:(Q0 n).length<=1000:=by rw[Ru];omega
 have f:jB (dA (gN 0) eX (bj {pC (.str "down"),aa 0}) (a8 (Q0 n)) [Ld] [])= .ok ((Q0 n).map fun k=>cy (.down k)):=kS nd (fun k=>cy (.down k)) (Q0 n) a rfl fun k _=>b8 (ai aD (ai (af rfl) aA)) rfl (QL rfl);have e:jB (dA (gN 0) eX (bj {pC (.str "up"),aa 0}) (a8 (Q0 n)) [Ld] [])= .ok ((Q0 n).map fun k=>cy (.up k)):=kS nd (fun k=>cy (.up k)) (Q0 n) a rfl fun k _=>b8 (ai aD (ai (af rfl) aA)) rfl (QL rfl);have h:cH (.list ((Q0 n).map fun k=>cy (.down k))) (.list ((Q0 n).map fun k=>cy (.up k)))=lD (.ow (((Q0 n).map fun k=>cy (.down k))++(Q0 n).map fun k=>cy (.up k))):=Jd (by rw[QI,QI];omega);have g:cH (.list (((Q0 n).map fun k=>cy (.down k))++(Q0 n).map fun k=>cy (.up k))) (.list [cy .turn])=lD (.ow ((xS n).map cy)):=(Jd (by rw[QO,QI,QI];show _+1<=_;omega)).trans (by unfold xS;rw[Rm,Rm,RL,RL];rfl);refine im rfl ?_;unfold kh;refine bJ (dc (by fail "ev") rfl f) rfl rfl ?_;refine bJ (dc (by fail "ev") rfl e) rfl rfl ?_;exact eS (aE (aE (ja rfl) (ja rfl) rfl rfl h) (lM (ai (b8 (ai aD (ai aD aA)) rfl (QL rfl)) aA) rfl (QL rfl)) rfl rfl g) rfl rfl
abbrev zf (d:D):Option PV:=-(d)
abbrev zo (l:List D):Option PV:=lD (.ow l)
abbrev QB (a:List Int) (b:Bd) (r:aU):aU:=-(.list (a.map .int))::-(bD b)::r
def cU (w:List Nat):Str:=⟨(w.map (97+·)).toArray⟩
theorem oQ (w:List Nat):(cU w).length=w.length:=by show((w.map (97+·)).toArray).size=_;rw[QZ,QI]
theorem HJ {v w:List Nat} (h:cU v=cU w):v=w:=by have a:v.map (97+·)=w.map (97+·):=congrArg (fun z:Str=>z.cps.toList) h;exact(WT fun x y e=>by omega).mp a
theorem vO {w:List Nat} (h:∀c∈w,c<26):QK.strOk (cU w)=QJ:=by show((w.map (97+·)).toArray.all fun c=>decide (c<0x110000))=QJ;rw[<-aaq];refine TU.mpr fun c b=> ?_;obtain⟨d,a,rfl⟩:=Rn.mp b;have:=h d a;exact decide_eq_true (by omega)
theorem Al (v w:List Nat):cU v++cU w=cU (v++w):=by show(⟨(v.map (97+·)).toArray++(w.map (97+·)).toArray⟩:Str)=⟨((v++w).map (97+·)).toArray⟩;rw[Rm];simp
theorem ym {w:List Nat} (h:w.length<=1000):yS [.str (cU w)]=-(nd w.length):=by show(if(cU w).length<=1000000 then lD (RV.fz (.int (cU w).length)) else Ld)=_;rw[oQ,if_pos (by omega)]
theorem KZ {v w:List Nat} (h:v.length+w.length<=1000):CM (.str (cU v)) (.str (cU w))=-(.str (cU (v++w))):=by show(if(cU v).length+(cU w).length<=1000000 then lD (RV.fz (.str (cU v++cU w))) else Ld)=_;rw[oQ,oQ,if_pos (by omega),Al]
theorem KL (a b n:Nat):Builtin.Str.strSliceIndices (lD (a:Int)) (lD (b:Int)) 1 n=Builtin.Str.strSliceIndices (lD (ZL (min a n):Int)) (lD (ZL (min b n):Int)) 1 n:=by
 unfold Builtin.Str.strSliceIndices;dsimp only;rw[if_neg (show¬(a:Int)<0 by omega),if_neg (show¬(b:Int)<0 by omega),if_neg (show¬(ZL (min a n):Int)<0 by omega),if_neg (show¬(ZL (min b n):Int)<0 by omega)];congr 1
 .rw[if_pos (by decide),if_pos (by decide)];omega
 .rw[if_pos (by decide),if_pos (by decide)];omega
theorem Ju {w:List Nat} (h:w.length<=1000) {a b:Nat} (j:a<=b):ub (.str (cU w)) (lD (a:Int)) (lD (b:Int))=-(.str (cU ((w.drop a).take (b - a)))):=by
 have f:=oQ w;have g:Txt.slice (cU w) (lD (a:Int)) (lD (b:Int))=cU ((w.drop a).take (b - a)):=by
  have e:=adu (cU w) (a:=min a w.length) (b:=min b w.length) (by omega) (by rw[f];omega);rw[f,<-KL] at e;have l:((cU w).cps.toList.drop (min a w.length)).take (min b w.length - min a w.length)=((w.drop a).take (b - a)).map (97+·):=by
   show((w.map (97+·)).drop (min a w.length)).take (min b w.length - min a w.length)=_;rw[ab1,ab2];by_cases q:a<=w.length
   .rw[abB q,List.take_eq_take_iff,TR,QI];omega
   .rw[SU (by rw[QI];omega),SU (by rw[QI];omega),ab3,ab3]
  rw[l] at e;unfold Txt.slice;rw[f];split
  .rename_i z
   rw[Q6] at z;have z:=eq_of_beq z.2;have n:=PySem.sliceIndices_le (lD (a:Int)) (lD (b:Int)) w.length;have m:(abC (fun i=>(cU w).cps[i]?) (Builtin.Str.strSliceIndices (lD (a:Int)) (lD (b:Int)) 1 w.length)).length=((w.drop a).take (b - a)).length:=by rw[e,QI]
   rw[KL,adv (by omega) (by omega),QI,Ru] at z;rw[VF (by rw[TR];omega)];by_cases q:a=0
   .rw[q];rfl
   .rw[List.length_eq_zero_iff.mp (show w.length=0 by omega),List.drop_nil]
  .show(⟨(abC (fun i=>(cU w).cps[i]?) _).toArray⟩:Str)=_;rw[e];rfl
 show(if(cU w).length<=1000000 then lD (RV.fz (.str (Txt.slice (cU w) (lD (a:Int)) (lD (b:Int))))) else Ld)=_;rw[f,if_pos (by omega),g]
theorem FW:∀w:List Nat,Xh (⟨#[]⟩:Str) (w.map dj)=cU w
 |[]=>rfl
 |[c]=>rfl
 |c::d::r=>by show dj c++(⟨#[]⟩:Str)++Xh (⟨#[]⟩:Str) ((d::r).map dj)=_;rw[FW (d::r),show dj c++(⟨#[]⟩:Str)=dj c by show(⟨#[97+c]++ #[]⟩:Str)=_;simp;rfl];exact Al [c] (d::r)
theorem Ah {w:List Nat} (h:w.length<=1000):wG "" [.list (w.map fun c=> .str (dj c))]=-(.str (cU w)):=by
 have a:("":Str)=⟨#[]⟩:=by left
 show(match uQ (w.map fun c=> .str (dj c)) with
   |some b=>if aak "" b=QJ then lD (RV.fz (.str (Txt.join "" b))) else Ld
   |none=>Ld)=_
 rw[show(w.map fun c=>QK.str (dj c))=(w.map dj).map .str by rw[RL];rfl,EC];dsimp only;have ok:aak "" (w.map dj)=QJ:=by unfold aak;have:=adw (sep:= "") (texts:=w.map dj) (B:=1) (fun z e=>by obtain⟨n,_,rfl⟩:=Rn.mp e;exact QU _) (by rw[QI,a];show _+_*0<=_;omega);rw[this];rfl
 rw[if_pos ok,show Txt.join "" (w.map dj)=Xh "" (w.map dj) from adx _ _,a,FW]
theorem A5 (v w:List Nat):QK.eqv (.str (cU v)) (.str (cU w))=decide (v=w):=by
 rw[QK.eqv];by_cases h:v=w
 .rw[decide_eq_true h,h];simp
 .rw[decide_eq_false h];exact beq_eq_false_iff_ne.mpr fun z=>h (HJ z)
theorem K2 {v w:List Nat} (b:∀c∈v,c<26) (a:∀c∈w,c<26):xE (.str (cU v)) (.str (cU w))=-(.bool (!decide (v=w))):=by unfold xE;rw[show lm (.str (cU v))=QJ from KC (vO b) (by show 0<=64;decide),show QK.canLay0 (.str (cU w))=QJ from vO a,Tf,if_pos rfl,A5]
theorem Ku {f:Str->List D->Option RV} {fo:FE} {fa:FA} {ρ ρ1 a:aU} {pv:PV} {z:Str} {ps:List PV} {ds:List D} {rv:RV} (b:fo ρ= .ok (pv,ρ1)) (hz:z0 pv=lD z) (ha:fa ρ1= .ok (ps,a)) (hd:rU a ps=lD ds) (e:f z ds=lD rv):Oo f fo fa ρ= .ok (rv.pv,a):=by unfold Oo;rw[b,Res.bind_ok];dsimp only;rw[hz,aJ,Res.bind_ok,ha,Res.bind_ok,hd,aJ,Res.bind_ok,e,aJ,Res.bind_ok]
def gC (sn:Sn):List Nat:=(sn.filter (·.2)).map (·.1)
theorem Fk {sn:Sn} (h:US sn):∀c∈gC sn,c<26:=fun c b=>by obtain⟨q,a,rfl⟩:=Rn.mp b;exact h q (SK.mp a).1
theorem Bg (sn:Sn):(gC sn).length<=sn.length:=by unfold gC;rw[QI];exact Uu _ _
theorem xM {sn:Sn} (g:sn.length<=1000):jB (dA (gT 2 (C6 (gN 0) (C6 (gN 1) M4))) (aF (aC cV (aa 1) (pC (.str "down")))) (aa 0) (sn.map kY) [Ld,Ld] [])= .ok ((gC sn).map fun c=> .str (dj c)):=by
 have e:∀d:Bool,cV (.str (if d=QJ then "down" else "up")) (.str "down")=-(.bool d):=fun d=>by
  cases d
  .exact(O0 (by left) (by left)).trans (by rw[show((if QQ=QJ then "down" else "up":Str)== "down")=QQ by left])
  .exact(O0 (by left) (by left)).trans (by rw[show((if QJ=QJ then "down" else "up":Str)== "down")=QJ by left])
 rw[uO kY (fun q=>if q.2=QJ then lD (QK.str (dj q.1)) else Ld) (fun ρ=>∃a d,ρ=[a,d]) sn ⟨Ld,Ld,rfl⟩ g ?_]
 .congr 1
  unfold gC;rw[RL];clear g
  induction sn with
  |nil=>rfl
  |cons x r f=>
   cases q:x.2 with
   |true=>rw[Vm (b:=QK.str (dj x.1)) (by rw[if_pos q]),Yz q,f];rfl
   |false=>rw[Vl (by rw[if_neg (by rw[q];simp)]),YA (by rw[q];simp),f]
 .rintro⟨c,d⟩ h ρ ⟨x,y,rfl⟩
  cases d with
  |true=>exact⟨[zf (.str (dj c)),zf (.str (if QJ=QJ then "down" else "up"))],B3 (x:= .str (dj c)) rfl (bK (aE (rv:= .fz (.bool QJ)) (af rfl) aD rfl rfl (e QJ)) rfl) (af rfl) rfl rfl,_,_,rfl⟩
  |false=>exact⟨[zf (.str (dj c)),zf (.str (if QQ=QJ then "down" else "up"))],Md rfl (bK (aE (rv:= .fz (.bool QQ)) (af rfl) aD rfl rfl (e QQ)) rfl) rfl,_,_,rfl⟩
def zg (w:List Nat) (d:Nat) (sn:Sn):Option Nat:=if(w.drop d).take (gC sn).length=gC sn then lD (d+(gC sn).length) else Ld
def OQ:Option Nat->D
 |some k=>nd k
 |none=> .none
theorem Ix {w:List Nat} (i:∀c∈w,c<26) (m:w.length<=3) {d:Nat} (hd:d<=3) {sn:Sn} (j:US sn) (n:sn.length<=900):gp [.str (cU w),nd d,.list (sn.map kY)]= .ok (.fz (OQ (zg w d sn))):=by
 have o:=Bg sn;have cm:=xM (sn:=sn) (by omega);have h:=Ah (w:=gC sn) (by omega);have g:=ym (w:=gC sn) (by omega);have e:=Fk j;have f:=Ju (w:=w) (by omega) (a:=d) (b:=d+(gC sn).length) (by omega);rw[Uc] at f;have ne:=K2 (v:=(w.drop d).take (gC sn).length) (w:=gC sn) (fun c l=>i c (List.mem_of_mem_drop (List.mem_of_mem_take l))) e;refine im (ρ:=[zf (.str (cU w)),zf (nd d),zf (.list (sn.map kY)),Ld,Ld]) rfl ?_;unfold iC;refine bJ (ρ3:=[zf (.str (cU w)),zf (nd d),zf (.list (sn.map kY)),zf (.str (cU (gC sn))),Ld]) (Ku (rv:= .fz (.str (cU (gC sn)))) aD rfl (ai (dc (cs:=[]) (ds:=sn.map kY) (jr (d:= .list (sn.map kY)) (af rfl) rfl rfl) rfl cm) aA) rfl h) rfl rfl ?_;refine bJ (ρ3:=[zf (.str (cU w)),zf (nd d),zf (.list (sn.map kY)),zf (.str (cU (gC sn))),zf (nd (d+(gC sn).length))]) (aE (rv:= .fz (nd (d+(gC sn).length))) (af rfl) (de (rv:= .fz (nd (gC sn).length)) (ai (af rfl) aA) rfl g) rfl rfl (gX _ _)) rfl rfl ?_;refine iM (bK (aE (BE (rv:= .fz (.str (cU ((w.drop d).take (gC sn).length)))) (af rfl) (iW (af rfl) rfl) (iW (af rfl) rfl) rfl f) (af rfl) rfl rfl ne) rfl) (fun q=> ?_) (fun q=>dF ?_)
 .have q:¬(w.drop d).take (gC sn).length=gC sn:=by simpa using q
  refine gb (rv:= .fz .none) aD rfl ?_;unfold zg;rw[if_neg q];rfl
 .have q:(w.drop d).take (gC sn).length=gC sn:=by simpa using q
  refine eS (rv:= .fz (nd (d+(gC sn).length))) (af rfl) rfl ?_;unfold zg;rw[if_pos q];rfl
def AO:Mn->Mn
 | .Vo _ n=> .S6 n
 | .once _=> .none
 |m=>m
def LP:Mn->Option (Nat×Int)
 | .Vo c n=>lD (c,n)
 |_=>Ld
def Ca (b:Bd) (x:Nat) (k:Nat) (a:Mn):Prop:=a=jv b 0 k\/a= .Rk x\/a= .none
def Na (b:Bd) (k:Nat) (a:Mn):Prop:=a=AO (jv b 0 k)\/a=AO (jv b 1 k)
structure IN (b:Bd) (s:Tc):Prop where
 ac:∀k a,s.ac k=lD a->Na b k a
 wt:∀ks g w,s.wt=lD (ks,g,w)->∃k c n,ks=[k]/\w=lD (c,n)/\(jv b 0 k= .Vo c n\/jv b 1 k= .Vo c n)
structure IC (b:Bd) (x:Nat) (s:Tc):Prop where
 ac:∀k a,s.ac k=lD a->Ca b x k a
 wt:∀ks g w,s.wt=lD (ks,g,w)->w=Ld/\∃k,ks=[k]
 oc:s.oc=Ld
section
variable {b:Bd} {p:Tc×Sn} {s:Tc} {k x:Nat}
theorem BI {Q:Nat->Mn->Prop} {ac:Ac} {o:Option Mn} (h:∀k a,ac k=lD a->Q k a) (f:∀a,o=lD a->Q k a):∀j a,jR ac k o j=lD a->Q j a:=fun j a e=>by
 by_cases z:j=k
 .subst z;rw[dR] at e;exact f a e
 .rw[fA z] at e;exact h j a e
theorem BJ {Q:Nat->Mn->Prop} (h:∀j a,j≠k->p.1.ac j=lD a->Q j a):∀j a,(go p k).1.ac j=lD a->Q j a:=fun j a e=>by
 unfold go at e;cases z:p.1.ac k with
 |none=>rw[z] at e;dsimp only at e;exact h j a (fun q=>by subst q;rw[z] at e;cases e) e
 |some y=>
  rw[z] at e;by_cases q:j=k
  .subst q;exact absurd ((dR (ac:=p.1.ac) (k:=j) (o:=Ld)).symm.trans e) (by simp)
  .exact h j a q ((fA q).symm.trans e)
theorem sB:(go p k).1.wt=p.1.wt/\(go p k).1.oc=p.1.oc:=by unfold go;split<;>exact⟨rfl,rfl⟩
theorem Fy (s:Tc) (m:Mn):(ei s m).ac=s.ac/\(ei s m).wt=s.wt:=by unfold ei;split<;>exact⟨rfl,rfl⟩
theorem Hg (a:VB b) (f:SA b s) (g:b.ls.length<=2):look b (ju s.ac s.oc) k=jv b 0 k\/look b (ju s.ac s.oc) k=jv b 1 k:=by
 obtain⟨i,h⟩:=vt a f;have:(ju s.ac s.oc).toNat=0\/(ju s.ac s.oc).toNat=1:=by omega
 unfold look;split
 .exact .inl rfl
 .rcases this with e|e<;>rw[e]
  .exact .inl rfl
  .exact .inr rfl
theorem IN.dec (h:IN b p.1):IN b (cc b p).1/\(cc b p).1.wt=Ld:=by
 unfold cc;split
 .rename_i q;exact⟨h,q⟩
 .rename_i f g w q
  obtain⟨k,c,n,rfl,rfl,i⟩:=h.wt f g w q;refine⟨⟨?_,fun _ _ _ e=>(by cases e)⟩,rfl⟩;refine BI (k:=k) (o:=lD (.S6 n)) h.ac fun a e=> ?_;cases e;rcases i with e|e
  .exact .inl (by rw[e];rfl)
  .exact .inr (by rw[e];rfl)
theorem IN.step (l:VB b) (C:b.ls.length<=2) (i:b.cs=[]) (r:SW b s) (h:IN b s) {e:Vf} (I:EV b e):IN b (bR b s e).1:=by
 have t:∀f,dZ b f=[]:=fun f=>by unfold dZ;rw[i];rfl
 cases e with
 |turn=>
  show IN b (gD b (s,[])).1;unfold gD;split
  .exact h
  .rename_i f g w q
   have v:IN b {s with wt:=lD (f,g+1,w)}:=⟨h.ac,fun _ _ _ e=>by cases e;exact h.wt f g w q⟩;split
   .exact(IN.dec (p:=({s with wt:=lD (f,g+1,w)},[])) v).1
   .exact v
 |up k=>
  show IN b (mj b (s,[]) k).1;unfold mj;split
  .rename_i q
   cases z:s.wt with
   |none=>rw[show xp s.wt k=QQ by rw[z];rfl] at q;cases q
   |some y=>
    obtain⟨f,g,w⟩:=y;obtain⟨G,c,n,rfl,rfl,H⟩:=h.wt f g w z;have e:STP.bO b (s,[]) k=eT ({s with wt:=Ld},[]) k (.Rk c):=by unfold STP.bO;dsimp only;rw[z]
    rw[e];refine⟨BJ fun j a B o=>h.ac j a ((fA B).symm.trans o),fun f g w e=> ?_⟩;rw[sB.1] at e;cases e
  .refine⟨BJ fun j a _ o=>h.ac j a o,fun f g w e=> ?_⟩;rw[sB.1] at e;exact h.wt f g w e
 |down k=>
  show IN b (hJ b (s,[]) k).1;unfold hJ;split
  .exact h
  .rw[if_neg (by
    show¬yJ b s k=QJ;unfold yJ;split
    .rw[t];simp
    .simp)]
   have d:=IN.dec (p:=(s,[])) h;have A:=eF l (p:=(s,[])) r.sa (SW.wd l r);generalize cc b (s,[])=p at d A;obtain⟨h,E⟩:=d;have lo:=Hg (k:=k) l A.1.sa C;unfold Br;have u:=Fy p.1 (look b (ju p.1.ac p.1.oc) k);generalize ei p.1 (look b (ju p.1.ac p.1.oc) k)=s' at u;generalize look b (ju p.1.ac p.1.oc) k=m at lo;generalize ju p.1.ac p.1.oc=L;have i:∀a,a=AO m->IN b (eT (s',p.2) k a).1:=fun a F=>by
    refine⟨BI (fun j y e=>h.ac j y (by rw[<-u.1];exact e)) fun y e=> ?_,fun f g w e=> ?_⟩
    .cases e
     rw[F];rcases lo with e|e
     .exact .inl (by rw[e])
     .exact .inr (by rw[e])
    .have e:s'.wt=_:=e;rw[u.2,E] at e;cases e
   cases m with
   |Vo c n=>refine⟨fun j y e=>h.ac j y (by rw[<-u.1];exact e),fun f g w e=> ?_⟩;cases e;exact⟨k,c,n,rfl,rfl,by rcases lo with e|e<;>simp[<-e]⟩
   |Rk c=>show IN b (if(decide (L=0)&& !(dZ b [k]).isEmpty)=QJ then _ else eT (s',p.2) k (.Rk c)).1;rw[t,if_neg (by simp)];exact i _ rfl
   |once n=>have:=i .none rfl;exact⟨this.ac,this.wt⟩
   |S6 n=>exact i _ rfl
   |none=>exact i _ rfl
   |below=>exact i _ rfl
theorem BM {α e:Type} {f:α->e} {q:α×e}:∀{l:List α},q∈l.zip (l.map f)->q.2=f q.1
 |[],h=>by cases h
 |a::r,h=>by
  rcases Rc.mp h with rfl|h
  .rfl
  .exact BM h
theorem Mi {Q:Nat->Mn->Prop} (f:List (Nat×Mn)):∀{p:Tc×Sn},(∀k a,p.1.ac k=lD a->Q k a)->(∀q∈f,Q q.1 q.2)->(∀k a,(gF p f).1.ac k=lD a->Q k a)/\(gF p f).1.wt=p.1.wt/\(gF p f).1.oc=p.1.oc:=by
 induction f with
 |nil=>exact fun h _=>⟨h,rfl,rfl⟩
 |cons q r i=>intro p h g;exact i (p:=eT p q.1 q.2) (BI h fun a e=>by cases e;exact g q QS) fun y j=>g y (QV _ j)
theorem OH (f:b.cs=[([0,1],x)]) (ks:List Nat):∀q∈ks.zip (J3 b ks),Ca b x q.1 q.2:=by
 intro q a;unfold J3 at a;split at a
 .rename_i c e
  have cm:=U7 e;rw[f] at cm;have cm:=Q2.mp cm;rcases Rc.mp (T4 a).2 with h|h
  .exact .inr (.inl (by rw[h,cm]))
  .exact .inr (.inr (WQ.mp h).2)
 .exact .inl (BM a)
structure IC0 (b:Bd) (x:Nat) (s:Tc):Prop where
 ac:∀k a,s.ac k=lD a->Ca b x k a
 wt:∀ks g w,s.wt=lD (ks,g,w)->w=Ld
 oc:s.oc=Ld
theorem IC.z (h:IC b x s):IC0 b x s:=⟨h.ac,fun a g w e=>(h.wt a g w e).1,h.oc⟩
theorem IC0.dec (j:b.cs=[([0,1],x)]) (h:IC0 b x p.1):IC b x (cc b p).1/\(cc b p).1.wt=Ld:=by
 unfold cc;split
 .rename_i q;exact⟨⟨h.ac,fun _ _ _ e=>(by rw[q] at e;cases e),h.oc⟩,q⟩
 .rename_i a g w q;have i:=h.wt a g w q;subst i;obtain⟨m,f,l⟩:=Mi (p:=({p.1 with wt:=Ld},p.2)) (a.zip (J3 b a)) h.ac (OH j a);exact⟨⟨m,fun _ _ _ e=>(by rw[show(gF ({p.1 with wt:=Ld},p.2) (a.zip (fZ b a Ld))).1.wt=Ld from f] at e;cases e),l.trans h.oc⟩,f⟩
theorem Oi (f:VB b) (i:SA b s) (l:b.cs=[([0,1],x)]) (o:b.n<=2) (h:IC b x s):ju s.ac s.oc=0:=by
 rw[h.oc];show(((fR s.ac).filterMap GS).foldl j5 Ld).getD 0=0;have:(fR s.ac).filterMap GS=[]:=List.filterMap_eq_nil_iff.mpr fun q j=>by
  have g:=(fy.mp j).2;have r:=(i.ac q.1 q.2 g).1;have ok:mZ (b.ls.headD []) q.1=QJ:=(f.vc ([0,1],x) (by rw[l];exact QS)).2.2.1 q.1 (by
   have:q.1=0\/q.1=1:=by omega
   rcases this with e|e<;>simp[e])
  obtain⟨c,m⟩:=yA f ok;obtain⟨k,a⟩:=q;rcases h.ac k a g with rfl|rfl|rfl
  .show GS (k,jv b 0 k)=Ld;rw[m];rfl
  .rfl
  .rfl
 rw[this];rfl
theorem IC.step (o:VB b) (H:b.n<=2) (m:b.cs=[([0,1],x)]) (C:SW b s) (h:IC b x s) {e:Vf} (J:EV b e):IC b x (bR b s e).1:=by
 cases e with
 |turn=>
  show IC b x (gD b (s,[])).1;unfold gD;split
  .exact h
  .rename_i i g w q
   have E:IC b x {s with wt:=lD (i,g+1,w)}:=⟨h.ac,fun _ _ _ e=>by cases e;exact h.wt i g w q,h.oc⟩;split
   .exact(IC0.dec m (p:=({s with wt:=lD (i,g+1,w)},[])) E.z).1
   .exact E
 |up k=>
  show IC b x (mj b (s,[]) k).1;unfold mj;split
  .rename_i q
   cases z:s.wt with
   |none=>rw[show xp s.wt k=QQ by rw[z];rfl] at q;cases q
   |some y=>
    obtain⟨i,g,w⟩:=y;obtain⟨rfl,t,rfl⟩:=h.wt i g w z;have e:STP.bO b (s,[]) k=cc b (s,[]):=by unfold STP.bO;dsimp only;rw[z]
    rw[e];obtain⟨d,v⟩:=IC0.dec m (p:=(s,[])) h.z;exact⟨BJ fun j a _ B=>d.ac j a B,fun i g w e=>(by rw[sB.1,v] at e;cases e),sB.2.trans d.oc⟩
  .exact⟨BJ fun j a _ B=>h.ac j a B,fun i g w e=>(by rw[sB.1] at e;exact h.wt i g w e),sB.2.trans h.oc⟩
 |down k=>
  show IC b x (hJ b (s,[]) k).1;unfold hJ;split
  .exact h
  .split
   .rename_i l
    have l:yJ b s k=QJ:=l;unfold yJ at l;split at l
    .rename_i i g z
     rw[Q6] at l;obtain⟨_,t,rfl⟩:=h.wt i g Ld z;have G:dZ b ([t]++[k])=[([0,1],x)]:=by
      have r:=l.2;unfold dZ at r⊢;rw[m] at r⊢;rw[Ux] at r⊢;split
      .rfl
      .rename_i f;rw[if_neg f] at r;simp at r
     unfold rA;dsimp only;rw[z];dsimp only;rw[G,if_pos (show List.map (fun x=>x.1.length) [(([0,1]:List Nat),x)]=[([t]++[k]).length] from rfl)];exact(IC0.dec m (p:=({s with wt:=lD ([t]++[k],g,Ld)},[])) ⟨h.ac,fun _ _ _ e=>(by cases e;rfl),h.oc⟩).1
    .cases l
   .obtain⟨d,v⟩:=IC0.dec m (p:=(s,[])) h.z
    have ds:=eF o (p:=(s,[])) C.sa (SW.wd o C);generalize cc b (s,[])=p at d v ds;have K:(k:Int)<b.n:=J;have ok:mZ (b.ls.headD []) k=QJ:=(o.vc ([0,1],x) (by rw[m];exact QS)).2.2.1 k (by
     have:k=0\/k=1:=by omega
     rcases this with e|e<;>simp[e])
    obtain⟨c,F⟩:=yA o ok;unfold Br;have I:look b 0 k= .Rk c:=by unfold look;rw[show(0:Int).toNat=0 from rfl,F];rfl
    rw[Oi o ds.1.sa m H d,I];have u:=Fy p.1 (.Rk c);have A:(ei p.1 (.Rk c)).oc=Ld:=rfl;generalize ei p.1 (.Rk c)=s' at u A;show IC b x (if(decide ((0:Int)=0)&& !(dZ b [k]).isEmpty)=QJ then({s' with wt:=lD ([k],0,Ld)},p.2) else eT (s',p.2) k (.Rk c)).1;split
    .exact⟨fun j y e=>d.ac j y (by rw[<-u.1];exact e),fun i g w e=>(by cases e;exact⟨rfl,k,rfl⟩),A⟩
    .exact⟨BI (fun j y e=>d.ac j y (by rw[<-u.1];exact e)) fun y e=>(by cases e;exact .inl F.symm),fun i g w e=>(by have e:s'.wt=_:=e;rw[u.2,v] at e;cases e),A⟩
def KF (e a:Option Mn):Ac:=fun k=>if k=0 then e else if k=1 then a else Ld
theorem OU (f:SA b s) (g:b.n<=2):s.ac=KF (s.ac 0) (s.ac 1):=funext fun k=>by
 unfold KF;split
 .rename_i e;rw[e]
 .split
  .rename_i e;rw[e]
  .cases q:s.ac k with
   |none=>rfl
   |some a=>have:=(f.ac k a q).1;omega
def A3 (b:Bd) (k:Nat):List (Option Mn):=[Ld,lD (AO (jv b 0 k)),lD (AO (jv b 1 k))]
def A4 (b:Bd) (x k:Nat):List (Option Mn):=[Ld,lD (jv b 0 k),lD (.Rk x),lD .none]
def W4 (b:Bd) (k:Nat):List (Int×Option (Nat×Int)):=[(0,LP (jv b 0 k)),(0,LP (jv b 1 k)),(1,LP (jv b 0 k)),(1,LP (jv b 1 k))]
def Pd (F:Nat->List (Option Mn)) (W:Nat->List (Int×Option (Nat×Int))) (o:Option Int):List Tc:=
 ((F 0).flatMap fun e=>(F 1).map fun a=>⟨KF e a,Ld,o⟩)++((W 0).flatMap fun w=>(F 1).map fun a=>⟨KF Ld a,lD ([0],w.1,w.2),o⟩)++(W 1).flatMap fun w=>(F 0).map fun e=>⟨KF e Ld,lD ([1],w.1,w.2),o⟩
theorem Bf {F:Nat->List (Option Mn)} {W:Nat->List (Int×Option (Nat×Int))} (f:SW b s) (i:b.n<=2) (e:∀k,s.ac k∈F k) (j:∀ks g w,s.wt=lD (ks,g,w)->∃k,ks=[k]/\(g,w)∈W k):s∈Pd F W s.oc:=by
 have a:=OU f.sa i;unfold Pd;cases q:s.wt with
 |none=>refine R8 _ (R8 _ (Vv.mpr ⟨s.ac 0,e 0,Rn.mpr ⟨s.ac 1,e 1,?_⟩⟩));show(⟨KF (s.ac 0) (s.ac 1),Ld,s.oc⟩:Tc)=s;rw[<-a,<-q]
 |some y=>
  obtain⟨ks,g,w⟩:=y;obtain⟨k,rfl,hm⟩:=j ks g w q;have v:=(f.wt _ _ _ q).1;have l:=v.kn k QS;have h:=v.kf k QS;have:k=0\/k=1:=by omega
  rcases this with rfl|rfl
  .rw[h] at a;refine R8 _ (Rr _ (Vv.mpr ⟨(g,w),hm,Rn.mpr ⟨s.ac 1,e 1,?_⟩⟩));show(⟨KF Ld (s.ac 1),lD ([0],g,w),s.oc⟩:Tc)=s;rw[<-a,<-q]
  .rw[h] at a;refine Rr _ (Vv.mpr ⟨(g,w),hm,Rn.mpr ⟨s.ac 0,e 0,?_⟩⟩);show(⟨KF (s.ac 0) Ld,lD ([1],g,w),s.oc⟩:Tc)=s;rw[<-a,<-q]
theorem few (i:VB b) (A:b.n<=2) (J:b.ls.length<=2) (Q:b.wt<=2):∃(l:List Tc) (I:Tc->Prop),l.length<=66/\I fV/\(∀s,I s->SW b s/\s∈l)/\∀s e,I s->EV b e->I (bR b s e).1:=by
 by_cases F:b.cs=[]
 .refine⟨([Ld,lD 1]:List (Option Int)).flatMap (Pd (A3 b) (W4 b)),fun s=>SW b s/\IN b s,QU 66,⟨ig b,fun k a e=>(by cases e),fun m g w e=>(by cases e)⟩,fun s h=>⟨h.1,?_⟩,fun s e h u=>⟨pA i h.1 u,h.2.step i J F h.1 u⟩⟩
  refine Vv.mpr ⟨s.oc,?_,Bf h.1 A (fun k=> ?_) fun m g w e=> ?_⟩
  .cases q:s.oc with
   |none=>exact QS
   |some o=>
    have:=h.1.sa.oc o q;have e:o=1:=by omega
    rw[e];exact QV _ QS
  .cases q:s.ac k with
   |none=>exact QS
   |some a=>
    rcases h.2.ac k a q with rfl|rfl
    .exact QV _ QS
    .exact QV _ (QV _ QS)
  .obtain⟨k,c,n,rfl,rfl,B⟩:=h.2.wt m g w e
   have v:=h.1.wt _ _ _ e;have M:=v.1.g0;have L:=v.2;have t:lD (c,n)=LP (jv b 0 k)\/lD (c,n)=LP (jv b 1 k):=by rcases B with e|e<;>simp[e,LP]
   have:g=0\/g=1:=by omega
   refine⟨k,rfl,?_⟩;unfold W4;rcases this with rfl|rfl<;>rcases t with e|e<;>rw[e]<;>simp
 .obtain⟨x,K⟩:∃x,b.cs=[([0,1],x)]:=by
   have one:∀c∈b.cs,c.1=[0,1]:=fun c hm=>by
    obtain⟨P,O,N,_⟩:=i.vc c hm;have j:∀k∈c.1,k<2:=fun k B=>by
     have E:=i.l1;obtain⟨l,r,H⟩:∃l r,b.ls=l::r:=by
      cases q:b.ls with
      |nil=>rw[q] at E;cases E
      |cons l r=>exact⟨l,r,rfl⟩
     have R:=i.vl 0 l (by rw[H];rfl);have:=N k B;unfold mZ at this;rw[H,aa9] at this;cases q:l[k]? with
     |none=>rw[q] at this;cases this
     |some y=>have:=(QM.mp q).1;omega
    match hq:c.1,P,O,j with
    |[a,d],_,h,j=>
     have:=j a QS;have:=j d (QV _ QS);have h:=(Sj.mp h).1 d QS;obtain rfl:a=0:=by omega
     obtain rfl:d=1:=by omega
     rfl
    |a::d::f::r,_,h,j=>have C:=(Sj.mp h).1 d QS;have G:=(Sj.mp (Sj.mp h).2).1 f QS;have:=j f (QV _ (QV _ QS));omega
   cases e:b.cs with
   |nil=>exact absurd e F
   |cons c r=>
    have C:=one c (by rw[e];exact QS);cases r with
    |nil=>exact⟨c.2,by rw[<-C]⟩
    |cons d r=>have G:=one d (by rw[e];exact QV _ QS);have:=i.cu;rw[e] at this;exact absurd (C.trans G.symm) ((Sj.mp this).1 d QS)
  refine⟨Pd (A4 b x) (fun _=>[(0,Ld),(1,Ld)]) Ld,fun s=>SW b s/\IC b x s,by show 32<=66;decide,⟨ig b,fun k a e=>(by cases e),fun m g w e=>(by cases e),rfl⟩,fun s h=>⟨h.1,?_⟩,fun s e h u=>⟨pA i h.1 u,h.2.step i A K h.1 u⟩⟩;rw[<-h.2.oc];refine Bf h.1 A (fun k=> ?_) fun m g w e=> ?_
  .cases q:s.ac k with
   |none=>exact QS
   |some a=>rcases h.2.ac k a q with rfl|rfl|rfl<;>simp[A4]
  .obtain⟨rfl,k,rfl⟩:=h.2.wt m g w e
   have v:=h.1.wt _ _ _ e;have M:=v.1.g0;have L:=v.2;have:g=0\/g=1:=by omega
   exact⟨k,rfl,by rcases this with rfl|rfl<;>simp⟩
end
theorem HG {ks a:List Nat} (h:a8 ks=a8 a):ks=a:=(WT fun x y e=>by injection e with e;exact Xt e).mp h
theorem F6 {m n:Mn} (h:mD m=mD n):m=n:=by
 have e:=(nZ m).symm.trans ((congrArg (fun z=>bc z (.int 0)) h).trans (nZ n));injection e with e;injection e with e;injection e with e
 have w:=xG _ (oh m) _ (oh n);rw[show ws (wn m)=ws (wn n) from e,beq_self_eq_true] at w;have w:=of_decide_eq_true w.symm;cases m<;>cases n<;>first|rfl|(exfalso;revert w;simp[wn];done)|(injection h with h;injection h with _ h;injection h with h g;injection h with h)
 .rw[vR h]
 .rw[h]
 .injection g with g;injection g with g;rw[vR h,g]
 .rw[h]
theorem D4 {b c:Bd} (o:VB b) (l:VB c) {s t:Tc} (E:SW b s) (C:SW c t) (h:eR s=eR t):s=t:=by
 injection h with h
 injection h with h1 h
 injection h with h2 h
 injection h with h3 _
 injection h1 with h1
 have j:fR s.ac=fR t.ac:=(WT fun x y e=>by
  injection e with e;injection e with f e;injection e with e2 _;injection f with f
  exact Prod.ext (Xt f) (F6 e2)).mp h1
 have H:s.ac=t.ac:=funext fun k=>Option.ext fun a=>⟨fun e=>by
   have:=(fy (p:=(k,a))).mpr ⟨(SA.ak o E.sa k a e).1,e⟩;rw[j] at this;exact(fy.mp this).2,fun e=>by
   have:=(fy (p:=(k,a))).mpr ⟨(SA.ak l C.sa k a e).1,e⟩;rw[<-j] at this;exact(fy.mp this).2⟩
 have F:s.wt=t.wt:=by
  revert h2;cases s.wt with
  |none=>cases t.wt with
   |none=>exact fun _=>rfl
   |some y=>exact fun e=>by cases e
  |some x=>cases t.wt with
   |none=>exact fun e=>by cases e
   |some y=>
    obtain⟨I,g,w⟩:=x;obtain⟨J,i,v⟩:=y;intro e;injection e with e;injection e with f e;injection e with e2 e;injection e with e3 _;injection f with f;injection e2 with e2;have f:=HG f;have:w=v:=by
     revert e3;cases w with
     |none=>cases v with
      |none=>exact fun _=>rfl
      |some q=>exact fun e=>by injection e with e;injection e with _ e;cases e
     |some p=>cases v with
      |none=>exact fun e=>by injection e with e;injection e with _ e;cases e
      |some q=>obtain⟨B,A⟩:=p;obtain⟨u,r⟩:=q;exact fun e=>by have:=F6 (m:= .Vo B A) (n:= .Vo u r) e;injection this with a b;rw[a,b]
    rw[f,e2,this]
 have G:s.oc=t.oc:=by
  revert h3;cases s.oc<;>cases t.oc<;>intro e
  .rfl
  .cases e
  .cases e
  .injection e with e;rw[e]
 cases s;cases t;cases H;cases F;cases G;rfl
abbrev TP:=Tc×Nat
def kT (p:TP):D:= .tuple [eR p.1,nd p.2]
def Ho (b:Bd) (w:List Nat) (p:TP) (e:Vf):Option TP:=(zg w p.2 (bR b p.1 e).2).map fun d=>((bR b p.1 e).1,d)
def NJ:TP:=(fV,0)
def RT (b:Bd) (w:List Nat) (es:List Vf):Nat->TP->Prop
 |0,p=>p=NJ
 |k+1,p=>∃q e,RT b w es k q/\e∈es/\Ho b w q e=lD p
structure TC (b:Bd) (w:List Nat) (es:List Vf):Prop where
 vb:VB b
 eb:∀e∈es,EV b e
 w26:∀c∈w,c<26
 wl:w.length<=3
def TW (b:Bd) (w:List Nat) (p:TP):Prop:=SW b p.1/\p.2<=w.length
theorem yM:∀{fs:List Pl} {d:D} {t:Nat},g6 fs d=lD t->∃q,fs[t]? =lD q/\QK.eqv q.p d=QJ
 |[],_,_,h=>by cases h
 |a::r,d,t,h=>by
  unfold g6 at h;split at h
  .rename_i e;cases h;exact⟨a,rfl,e⟩
  .cases q:g6 r d with
   |none=>rw[q] at h;cases h
   |some j=>rw[q] at h;cases h;obtain⟨x,f,b⟩:=yM q;exact⟨x,by simpa using f,b⟩
theorem qS:∀{fs:List Pl} {d:D},g6 fs d=Ld->∀q∈fs,QK.eqv q.p d=QQ
 |[],_,_,_,hq=>by cases hq
 |a::r,d,h,q,hq=>by
  unfold g6 at h;by_cases e:QK.eqv a.p d=QJ
  .rw[if_pos e] at h;cases h
  .rw[if_neg e] at h
   rcases Rc.mp hq with rfl|hq
   .exact Bool.eq_false_iff.mpr e
   .exact qS (by cases z:g6 r d with|none=>rfl|some _=>rw[z] at h;cases h) q hq
theorem LF {w:List Nat} {d k:Nat} {sn:Sn} (hd:d<=w.length) (h:zg w d sn=lD k):k<=w.length:=by
 unfold zg at h;split at h
 .rename_i q;cases h;have:=congrArg U9 q;rw[Sl,TR] at this;omega
 .cases h
section
variable {b:Bd} {w:List Nat} {es:List Vf}
theorem TC.nx (h:TC b w es) (a:TW b w p) (f:e∈es) (hn:Ho b w p e=lD q):TW b w q:=by
 unfold Ho at hn;cases z:zg w p.2 (bR b p.1 e).2 with
 |none=>rw[z] at hn;cases hn
 |some d=>rw[z] at hn;cases hn;exact⟨pA h.vb a.1 (h.eb e f),LF a.2 z⟩
theorem TC.rw (h:TC b w es):∀{k p},RT b w es k p->TW b w p
 |0,p,e=>by rw[show p=NJ from e];exact⟨ig b,Rp _⟩
 |k+1,p,⟨q,e,hq,he,hp⟩=>h.nx (h.rw hq) he hp
theorem RT.inv (h:TC b w es) {I:Tc->Prop} (f:I fV) (a:∀s e,I s->EV b e->I (bR b s e).1):∀{k p},RT b w es k p->I p.1
 |0,p,e=>by rw[show p=NJ from e];exact f
 |k+1,p,⟨q,e,hq,he,hp⟩=>by
  unfold Ho at hp;cases z:zg w q.2 (bR b q.1 e).2 with
  |none=>rw[z] at hp;cases hp
  |some d=>rw[z] at hp;cases hp;exact a _ _ (RT.inv h f a hq) (h.eb e he)
theorem D1 (h:TC b w es) (f:TW b w p) (a:TW b w q) (e:kT p=kT q):p=q:=by
 injection e with e;injection e with e1 e;injection e with e2 _;injection e2 with e2
 exact Prod.ext (D4 h.vb h.vb f.1 a.1 e1) (Xt e2)
theorem jm (a:TW b w p):LD.keyD (kT p)=QJ:=by obtain⟨e,f⟩:=Ag a.1;unfold kT;rw[LD.keyD];simp only[LD.kds];rw[e,show LD.kd (nd p.2)=QJ by show LD.kd (.int _)=QJ;rw[LD.kd],decide_eq_true (show QK.depth (.tuple [eR p.1,nd p.2])<=8 by show max (QK.depth (eR p.1)) (max 0 0)+1<=8;omega)];rfl
end
structure Te where
 p:TP
 b:D
 e:D
 d:Nat
def iE (q:Te):Pl:=⟨kT q.p,q.b,q.e⟩
def N4:Te:=⟨NJ,.none,.none,0⟩
def Dt (b:Bd) (w:List Nat) (fs:List Te) (q:Te) (e:Vf):Prop:=∀p,Ho b w q.p e=lD p->∃r∈fs,r.p=p/\r.d<=q.d+1
structure BT (b:Bd) (w:List Nat) (es:List Vf) (fs:List Te) (n:Nat):Prop where
 z:fs[0]? =lD N4
 bk:∀i q,fs[i]? =lD q->0<i->∃j r,j<i/\fs[j]? =lD r/\q.b=nd j/\q.d=r.d+1
 rw:∀q∈fs,RT b w es q.d q.p
 mo:fs.Pairwise fun q r=>q.d<=r.d
 up:∀q,fs[n]? =lD q->∀r∈fs,r.d<=q.d+1
 un:(fs.map (·.p)).Nodup
 dn:∀j q,j<n->fs[j]? =lD q->∀e∈es,Dt b w fs q e
section
variable {b:Bd} {w:List Nat} {es:List Vf} {fs:List Te} {n:Nat}
theorem Qw:BT b w es [N4] 0:=by
 refine⟨rfl,fun i q h hi=> ?_,fun q a=> ?_,Tj _ _,fun q a r e=> ?_,Tj _ _,fun j q f=>absurd f (Nat.not_lt_zero _)⟩
 .match i,hi,h with
  |i+1,_,h=>cases h
 .rw[Q2.mp a];rfl
 .rw[Q2.mp e];exact Rp _
theorem Dt.mono (h:Dt b w fs q e) (l:List Te):Dt b w (fs++l) q e:=fun p f=>by obtain⟨r,a,x⟩:=h p f;exact⟨r,R8 _ a,x⟩
theorem BT.old (B:TC b w es) (h:BT b w es fs n) (l:fs[n]? =lD q) (o:e∈es) (m:Ho b w q.p e=lD p) (hi:g6 (fs.map iE) (kT p)=lD t):Dt b w fs q e:=fun y a=>by
 rw[m] at a;cases a;obtain⟨r,f,v⟩:=yM hi;rw[QW] at f;cases z:fs[t]? with
 |none=>rw[z] at f;cases f
 |some u=>rw[z] at f;cases f;have g:=Ry z;have i:=B.rw (h.rw u g);have j:=B.nx (B.rw (h.rw q (Ry l))) o m;exact⟨u,g,D1 B i j (LD.kd_eqv _ _ (LD.keyD_kd (jm i)).1 (LD.keyD_kd (jm j)).1 v),h.up q l u g⟩
theorem BT.new (B:TC b w es) (h:BT b w es fs n) (l:fs[n]? =lD q) (A:e∈es) (v:Ho b w q.p e=lD p) (hi:g6 (fs.map iE) (kT p)=Ld):BT b w es (fs++[⟨p,nd n,cy e,q.d+1⟩]) n:=by
 have C:=(QM.mp l).1;have t:=Ry l;have old:∀{i:Nat} {r:Te},fs[i]? =lD r->(fs++[⟨p,L3.nd n,cy e,q.d+1⟩])[i]? =lD r:=fun x=>(Q1 (QM.mp x).1).trans x;refine⟨old h.z,fun i r a o=> ?_,fun r a=> ?_,?_,fun r a u g=> ?_,?_,fun j r G a f H=> ?_⟩
 .by_cases E:i<fs.length
  .rw[Q1 E] at a;obtain⟨j,u,L,K,J⟩:=h.bk i r a o;exact⟨j,u,L,old K,J⟩
  .rw[Ro (by omega)] at a
   have z:i - fs.length=0:=by have:=(QM.mp a).1;rw[Ut] at this;omega
   rw[z] at a;cases a;exact⟨n,q,by omega,old l,rfl,rfl⟩
 .rcases Rq.mp a with a|a
  .exact h.rw r a
  .rw[Q2.mp a];exact⟨q.p,e,h.rw q t,A,v⟩
 .rw[Zv];refine⟨h.mo,Tj _ _,fun r a u g=> ?_⟩;rw[Q2.mp g];exact h.up q l r a
 .rw[Q1 C,l] at a
  cases a;rcases Rq.mp g with g|g
  .exact h.up q l u g
  .rw[Q2.mp g];exact QU _
 .rw[Rm,Uh];refine⟨h.un,Tj _ _,fun x F y m I=> ?_⟩;obtain⟨r,a,rfl⟩:=Rn.mp F;have m:y=p:=Q2.mp m;have:=qS hi (iE r) (Rn.mpr ⟨r,a,rfl⟩);rw[show(iE r).p=kT p by show kT r.p=_;rw[I,m],tZ (jm (B.nx (B.rw (h.rw q t)) A v))] at this;cases this
 .rw[Q1 (by omega)] at a;exact(h.dn j r G a f H).mono _
theorem BT.next (h:BT b w es fs n) (f:fs[n]? =lD q) (hd:∀e∈es,Dt b w fs q e):BT b w es fs (n+1):=by
 refine⟨h.z,h.bk,h.rw,h.mo,fun r a u o=> ?_,h.un,fun j r p a e l=> ?_⟩
 .have i:=(QM.mp f);have g:=(QM.mp a);have:=List.pairwise_iff_getElem.mp h.mo n (n+1) i.1 g.1 (by omega);rw[i.2,g.2] at this;have:=h.up q f u o;omega
 .by_cases m:j<n
  .exact h.dn j r m a e l
  .have:j=n:=by omega
   subst this;rw[f] at a;cases a;exact hd e l
theorem BT.all (h:BT b w es fs n) (hn:fs.length<=n):∀k p,RT b w es k p->∃r∈fs,r.p=p/\r.d<=k
 |0,p,hp=>⟨N4,Ry h.z,(show p=NJ from hp).symm,QU _⟩
 |k+1,p,⟨u,e,hu,he,hp⟩=>by obtain⟨r,l,i,o⟩:=h.all hn k u hu;obtain⟨j,a⟩:=Sz.mp l;obtain⟨v,g,f,m⟩:=h.dn j r (Rb (QM.mp a).1 hn) a e he p (by rw[i];exact hp);exact⟨v,g,f,by omega⟩
end
theorem wJ {α:Type}:∀{m l:List α},m.Nodup->(∀x∈m,x∈l)->m.length<=l.length
 |[],_,_,_=>Rp _
 |a::r,l,h,hs=>by
  obtain⟨f,e,rfl⟩:=List.append_of_mem (hs a QS);rw[Sw] at h;have:=wJ (m:=r) (l:=f++e) h.2 fun x b=>by
   rcases Rq.mp (hs x (QV _ b)) with q|q
   .exact R8 _ q
   .rcases Rc.mp q with rfl|q
    .exact absurd b h.1
    .exact Rr _ q
  rw[QO] at this⊢;rw[Q5,Q5];omega
def KW:List Tc->List TP
 |[]=>[]
 |s::r=>(s,0)::(s,1)::(s,2)::(s,3)::KW r
theorem Ad:∀l:List Tc,(KW l).length=4*l.length
 |[]=>rfl
 |s::r=>by show(KW r).length+4=4*(r.length+1);rw[Ad r];omega
theorem Bp {s:Tc} {d:Nat} (hd:d<=3):∀{l:List Tc},s∈l->(s,d)∈KW l
 |[],h=>by cases h
 |a::r,h=>by
  rcases Rc.mp h with rfl|h
  .have:d=0\/d=1\/d=2\/d=3:=by omega
   rcases this with rfl|rfl|rfl|rfl<;>simp[KW]
  .have:=Bp hd h;simp only[KW,Rc];exact .inr (.inr (.inr (.inr this)))
theorem OO {b:Bd} {w:List Nat} {es:List Vf} (B:TC b w es) (f:b.n<=2) (g:b.ls.length<=2) (e:b.wt<=2) {l:List TP} (h:l.Nodup) (j:∀p∈l,∃k,RT b w es k p):l.length<=264:=by
 obtain⟨m,I,u,t,r,q⟩:=few B.vb f g e;have:=wJ (l:=KW m) h fun p o=>by obtain⟨k,a⟩:=j p o;have i:=(r _ (a.inv B t q)).2;have:=(B.rw a).2;have:=B.wl;exact Bp (d:=p.2) (by omega) i
 rw[Ad] at this;omega
section
variable {b:Bd} (Z:VB b) {s:Tc} {p:Tc×Sn} {k:Nat}
theorem Gi:(go p k).2.length<=p.2.length+1:=by
 unfold go;split
 .rename_i a q
  rw[QO];have:(Kk (jR p.1.ac k Ld) a).length<=1:=by
   cases a with
   |Rk c=>show(if lR (jR p.1.ac k Ld) (.Rk c)=QJ then[] else[(c,QQ)]:Sn).length<=1;split<;>exact QL rfl
   |_=>exact Rp _
  omega
 .omega
theorem Jv:(Br b p k).2.length<=p.2.length+1:=by
 have e:Br b p k=tK b (ju p.1.ac p.1.oc) (ei p.1 (look b (ju p.1.ac p.1.oc) k),p.2) k (look b (ju p.1.ac p.1.oc) k):=rfl;rw[e];generalize look b (ju p.1.ac p.1.oc) k=m;generalize ju p.1.ac p.1.oc=L;have cm:∀a,(eT (ei p.1 m,p.2) k a).2.length<=p.2.length+1:=fun a=>mr (p:=(ei p.1 m,p.2));cases m with
 |Vo c n=>exact Vh _
 |Rk c=>
  show(if(decide (L=0)&& !(dZ b [k]).isEmpty)=QJ then({ei p.1 (.Rk c) with wt:=lD ([k],0,Ld)},p.2) else eT (ei p.1 (.Rk c),p.2) k (.Rk c)).2.length<=_;split
  .exact Vh _
  .exact cm _
 |once n=>exact cm .none
 |S6 n=>exact cm _
 |none=>exact cm _
 |below=>exact cm _
include Z
theorem v9 {e:Vf} (a:SW b s) (j:EV b e):(bR b s e).2.length<=100:=by
 have d:=eF Z (p:=(s,[])) a.sa (SW.wd Z a);have o:(cc b (s,[])).2.length<=5:=d.2.2.1;cases e with
 |turn=>
  show(gD b (s,[])).2.length<=100;unfold gD;split
  .exact Rp _
  .rename_i f g w q
   have v:=(a.wt f g w q).1;split
   .have:=(eF Z (p:=({s with wt:=lD (f,g+1,w)},[])) ⟨a.sa.ac,a.sa.oc⟩ fun _ _ _ e=>by cases e;exact⟨v.ne,v.nd,v.kn,v.kf,by have:=v.g0;omega,v.tp,v.ch⟩).2.2.1;exact RA this (show 0+5<=100 by decide)
   .exact Rp _
 |up k=>
  show(mj b (s,[]) k).2.length<=100;unfold mj;split
  .rename_i q;have z:=(kF Z (p:=(s,[])) a q).2;have z:(STP.bO b (s,[]) k).2.length<=5:=z;have:=Gi (p:=STP.bO b (s,[]) k) (k:=k);omega
  .exact RA Gi (show 0+1<=100 by decide)
 |down k=>
  show(hJ b (s,[]) k).2.length<=100;unfold hJ;split
  .exact Rp _
  .rename_i q
   rw[VP,not_or] at q;have ha:s.ac k=Ld:=by
    cases z:s.ac k with
    |none=>rfl
    |some x=>exact absurd (show(s.ac k).isSome=QJ by rw[z];rfl) q.1
   have hn:xp s.wt k=QQ:=by
    cases z:xp s.wt k with
    |false=>rfl
    |true=>exact absurd z q.2
   split
   .rename_i i
    obtain⟨f,g,h,n,l,m⟩:=vM Z (p:=(s,[])) a j ha hn i;have h:s.wt=lD (f,g,Ld):=h;unfold rA;dsimp only;rw[h];dsimp only;split
    .have:=(eF Z (p:=({s with wt:=lD (f++[k],g,Ld)},[])) ⟨a.sa.ac,a.sa.oc⟩ fun _ _ _ e=>by cases e;exact l).2.2.1;exact RA this (show 0+5<=100 by decide)
    .exact Rp _
   .have:=Jv (b:=b) (p:=cc b (s,[])) (k:=k);omega
end
section
variable {ρ:bp} {Z Z1 Z2:aV} {x:SV}
theorem Fc {F:iK} {n:Nat} {fa:xT} {xs:List SV} (ha:fa ρ Z= .ok xs Z1) (a:sR F n xs Z1= .ok x Z2):sA F n fa ρ Z= .ok x Z2:=by unfold sA;rw[ha,RS.bind_ok,a];rfl
theorem Dj (sn:List D) (st:D):frz 4 (Z++[.lst (sn.map .fz)]) (.tp [.rf Z.length,.fz st])=lD (.tuple [.list sn,st],Z++[.dead]):=by
 have b:frz 3 (Z++[.lst (sn.map .fz)]) (.rf Z.length)=lD (.list sn,Z++[.dead]):=by unfold frz;rw[aX];dsimp only;rw[vQ];dsimp only;rw[fF]
 have a:oK (frz 3) (Z++[.lst (sn.map .fz)]) [.rf Z.length,.fz st]=lD ([.list sn,st],Z++[.dead]):=by unfold oK;rw[b];rfl
 unfold frz;rw[show([AV.rf Z.length,AV.fz st].map AV.sv)=[.rf Z.length,.fz st] from rfl,a]
theorem z6 {b:Bd} (a:VB b) {s:Tc} (f:SW b s) {e:Vf} (g:EV b e) {fa fb fc:dU} (j:fa ρ Z= .ok (.fz (bD b)) Z) (i:fb ρ Z= .ok (.fz (eR s)) Z) (h:fc ρ Z= .ok (.fz (cy e)) Z):mH (sA STP.jT 3 (ao fa (ao fb (ao fc aW)))) ρ Z= .ok (.fz (.tuple [.list ((bR b s e).2.map kY),eR (bR b s e).1])) (Z++[.dead]):=
 j4 (Fc (au j (au i (au h aQ))) (NT a f g)) (Dj _ _)
end
theorem E8 (h:Out r T X) (k:∀a Z,T a Z->T' a Z) (b:∀x,X x->X' x):Out r T' X':=by
 refine⟨?_⟩;have h:=h.out;cases r with
 |bad=>exact h
 |er x o=>exact b x h
 |ok a o=>exact k a o h
theorem IT:jz Z m fs (J++K)=jz Z m fs J++K:=by unfold jz;rw[RD];rfl
theorem Hk:(jz Z m fs J).length=Z.length+3+J.length:=by unfold jz;rw[QO];show Z.length+(J.length+1+1+1)=_;omega
theorem Qd {xs:List SV} {n:Nat} {v:SV} (h:xs[n]? =lD v):lL xs (n:Int)=lD v:=u9 (by omega) (by rw[RY];exact h)
theorem Nc {b:Bd} {w:List Nat} {es:List Vf} {fs:List Te} {n t i j k:Nat} {q:Te} {m:Int} {Z:aV} (B:BT b w es fs t) (h:PSt i j k m (fs.map iE) Z) (E:fs[n]? =lD q):∃(J:aV) (row:List D),cJ [.rf i,.fz (nd n)] Z= .ok (.rf (Z.length+1)) (Z++J)/\J[1]? =lD (.lst (row.map .fz))/\row.length=q.d:=by
 have lt:=h.lt;rw[QI] at lt;have C:Out (cJ [.rf i,.fz (nd n)] Z) (fun v g=>∃row:List D,v= .rf (Z.length+1)/\g=Z++[.lst (row.reverse.map .fz),.lst (row.map .fz)]/\row.length=q.d) (fun _=>False):=by
  refine uf rfl ?_;unfold gz;refine cG (ρ1:=[lD (.rf i),-(nd n),lD (.rf Z.length),Ld]) (eD (by fail "ev")) rfl ?_;have H:∀{X:aV},PSt i j k m (fs.map iE) (Z++X):=fun{X}=>by have N:=(QM.mp h.o).1;have M:=(QM.mp h.f).1;have L:=(QM.mp h.n).1;exact⟨(Q1 N).trans h.o,(Q1 M).trans h.f,(Q1 L).trans h.n,h.jk,h.ij,h.ik,h.lt⟩
  have G:∀{X:aV} {ρ:bp} {f:dU} {a:Nat} {r:Te},ρ[0]? =lD (lD (.rf i))->f ρ (Z++X)= .ok (.fz (nd a)) (Z++X)->fs[a]? =lD r->ka (a9 "Places" "found" (aw 0)) f ρ (Z++X)= .ok (.fz (xN (iE r))) (Z++X):=fun{X ρ f a r} h0 y u=>GL (gW (b9 h0) H.o nc) y rfl H.f (Qd (by rw[QW,QW,QW,u];rfl));refine cG (x:= .fz (xN (iE q))) (ρ1:=[lD (.rf i),-(nd n),lD (.rf Z.length),-(xN (iE q))]) (G rfl (ah (af rfl)) E) rfl ?_;refine jN (v8 (fun s ρ g=>∃(row:List D) (a:Nat) (r:Te),ρ=[lD (.rf i),-(nd n),lD (.rf Z.length),-(xN (iE r))]/\g=Z++[.lst (row.map .fz)]/\fs[a]? =lD r/\row.length=s/\a+s<=n/\row.length+r.d=q.d) 100000 (by decide) ⟨[],n,q,rfl,rfl,E,rfl,QU _,Uk _⟩ ?_);rintro s ρ g ⟨row,a,r,rfl,rfl,ha,hs,han,hd⟩;have P:=(QM.mp E).1;by_cases O:a=0
  .subst O;rw[B.z] at ha;cases ha;have F:bQ (aF (aC kr (aC bc (aa 3) (~~~1)) (pC .none))) [lD (.rf i),-(nd n),lD (.rf Z.length),-(xN (iE N4))] (Z++[.lst (row.map .fz)])= .ok QQ (Z++[.lst (row.map .fz)]):=bH (bK (aE (rv:= .fz (.bool QQ)) (aE (rv:= .fz .none) (af rfl) aD rfl rfl i7) aD rfl rfl rfl) rfl);refine .inl ⟨_,F,?_⟩;refine uy ((IB (xs:=row.map .fz) (b9 rfl) aX).trans (by rw[QO,RD,<-List.map_reverse];rfl)) ⟨row.reverse,rfl,by rw[List.reverse_reverse];rfl,by rw[Wx];exact hd⟩
  .obtain⟨K,A,y,u,p,Q⟩:=B.bk a r ha (by omega);have F:bQ (aF (aC kr (aC bc (aa 3) (~~~1)) (pC .none))) [lD (.rf i),-(nd n),lD (.rf Z.length),-(xN (iE r))] (Z++[.lst (row.map .fz)])= .ok QJ (Z++[.lst (row.map .fz)]):=bH (bK (aE (rv:= .fz (.bool QJ)) (aE (rv:= .fz r.b) (af rfl) aD rfl rfl i7) aD rfl rfl (by rw[p];rfl)) rfl);refine .inr ⟨by omega,_,F,?_⟩;have I:=uH (ρ:=[lD (.rf i),-(nd n),lD (.rf Z.length),-(xN (iE r))]) (fo:=aw 2) (fe:=ag (aC bc (aa 3) (~~~2))) (x:= .fz r.e) (b9 rfl) (aX (l:=Z) (x:=Cell.lst (row.map .fz))) (ah (aE (rv:= .fz r.e) (af rfl) aD rfl rfl rB)) aX (by rw[QI];omega);rw[fF,show row.map SV.fz++[.fz r.e]=(row++[r.e]).map SV.fz by rw[Rm];rfl] at I;refine Eu (hV I) ?_;refine zn (ρ1:=[lD (.rf i),-(nd n),lD (.rf Z.length),-(xN (iE A))]) (nI (G rfl (ah (aE (rv:= .fz (nd K)) (af rfl) aD rfl rfl (by rw[<-p];exact i7))) u) rfl) ⟨row++[r.e],K,A,rfl,rfl,u,by rw[QO,hs];rfl,by omega,by rw[QO];show row.length+1+A.d=_;omega⟩
 obtain⟨v,g,y,row,rfl,rfl,p⟩:=C.all;exact⟨_,row,y,rfl,p⟩
abbrev E0 (b:Bd) (w:List Nat) (m:Int) (es:List Vf) (l n:Nat) (g f e a:Option SV):bp:=[-(bD b),-(.str (cU w)),-(.int m),-(.list (es.map cy)),lD (.rf l),-(nd n),g,f,e,a]
def Qs (b:Bd) (w:List Nat) (es:List Vf) (m:Int) (x:Xc):Prop:=x=TM m/\∃l:List TP,l.Nodup/\(∀p∈l,∃k,RT b w es k p)/\m<(l.length:Int)
theorem zc {b:Bd} (S:VB b) {n:Nat} (hn:b.n=n) (h5:n<=5) {w:List Nat} (hw:∀c∈w,c<26) (wl:w.length<=3) {m:Int} (m0:0<m) (Y:m<=1000) (H:aV):Out (gx [.fz (bD b),.fz (.str (cU w)),.fz (.int m)] H) (fun v Z'=>∃(fs:List Te) (J:aV),v= .rf (H.length+1)/\Z'=jz (H++[.dead]) m (fs.map iE) J/\BT b w (xS n) fs fs.length/\(fs.length:Int)<=m) (Qs b w (xS n) m):=by
 have ell:(xS n).length<=1000:=by unfold xS;rw[QO,QO,QI,QI,Ru];show n+n+1<=_;omega
 have ev:=ND hn h5;have B:TC b w (xS n):=⟨S,F3 hn,hw,wl⟩;generalize xS n=es at ell ev B;refine uf rfl ?_;unfold kq;have e1:mH (ag (fq gy 1 {aa 0})) [-(bD b),-(.str (cU w)),-(.int m),Ld,Ld,Ld,Ld,Ld,Ld,Ld] H= .ok (.fz (.list (es.map cy))) (H++[.dead]):=by refine j4 (eD (eU (ai (af rfl) aA) rfl rfl ev)) ?_;rw[kR aX,fF]
 refine cG e1 rfl ?_;have N:H.length+1=(H++[Cell.dead]).length:=by rw[QO];rfl
 rw[N];generalize H++[Cell.dead]=base;have mk:=Nl (C:= "Places") (F:=cO) (fa:=ao (ag (bj {pC (.tuple [(.tuple []),.none,.none]),~~~0})) (ao (ag (aa 2)) aW)) (ρ:=[-(bD b),-(.str (cU w)),-(.int m),-(.list (es.map cy)),Ld,Ld,Ld,Ld,Ld,Ld]) (Z:=base) (au (ah (d:=kT NJ) (b8 (ai aD (ai aD aA)) rfl (QL rfl))) (au (ah (af rfl)) aQ)) rfl;rw[Fs (jm (b:=b) (w:=w) ⟨ig b,Rp _⟩) (by omega) Y,if_neg (by omega)] at mk;refine cG (ρ1:=[-(bD b),-(.str (cU w)),-(.int m),-(.list (es.map cy)),lD (.rf base.length),Ld,Ld,Ld,Ld,Ld]) mk rfl ?_;refine cG (ρ1:=E0 b w m es base.length 0 Ld Ld Ld Ld) (ah aD) rfl ?_;refine jN (v8 (fun n ρ Z=>∃(fs:List Te) (J:aV) (K E l j:Option SV),ρ=E0 b w m es base.length n K E l j/\Z=jz base m (fs.map iE) J/\BT b w es fs n/\n<=fs.length/\(fs.length:Int)<=m) 1000 (by decide) ⟨[N4],[],Ld,Ld,Ld,Ld,rfl,rfl,Qw,Rp _,by show(1:Int)<=m;omega⟩ ?_);rintro n ρ Z ⟨fs,J,K,E,l,j,rfl,rfl,bi,hle,Zc⟩;have P:∀{fs:List Te} {J:aV},(fs.length:Int)<=m->PSt base.length (base.length+1) (base.length+2) m (fs.map iE) (jz base m (fs.map iE) J):=fun{fs J} h=>zJ (by rw[QI];omega);have ff:∀{fs:List Te} {J:aV} {K E l j:Option SV},(fs.length:Int)<=m->a9 "Places" "found" (aw 4) (E0 b w m es base.length n K E l j) (jz base m (fs.map iE) J)= .ok (.rf (base.length+1)) (jz base m (fs.map iE) J):=fun h=>gW (b9 rfl) (P h).o nc;have Q:G5 gh (ao (a9 "Places" "found" (aw 4)) aW) (E0 b w m es base.length n K E l j) (jz base m (fs.map iE) J)= .ok (.fz (nd fs.length)) (jz base m (fs.map iE) J):=GH (au (ff Zc) aQ) (by unfold aM;rw[iB (P Zc).f];rfl) ((i6 _).trans (by rw[QI,QI]));have R:=aZ (dS (ah (f:=aa 5) (af rfl)) Q (cD (ra (n:Int) (fs.length:Int))));by_cases U8:n<fs.length
 case neg=>
  rw[decide_eq_false (by omega)] at R;have e:n=fs.length:=by omega
  subst e;exact .inl ⟨_,R,uy (b9 rfl) ⟨fs,J,rfl,rfl,bi,Zc⟩⟩
 case pos=>
  rw[decide_eq_true (by omega)] at R;refine .inr ⟨by omega,_,R,?_⟩;obtain⟨q,A⟩:∃q,fs[n]? =lD q:=⟨_,QY U8⟩;have st:ka (ka (a9 "Places" "found" (aw 4)) (ag (aa 5))) (ag (~~~0)) (E0 b w m es base.length n K E l j) (jz base m (fs.map iE) J)= .ok (.fz (kT q.p)) (jz base m (fs.map iE) J):=cX (dx:=xN (iE q)) (GL (ff Zc) (ah (d:=nd n) (af rfl)) rfl (P Zc).f (Qd (by rw[QW,QW,QW,A];rfl))) (ah aD) ip;refine cG (x:= .fz (kT q.p)) (ρ1:=E0 b w m es base.length n (-(kT q.p)) E l j) st rfl ?_;refine jN (Ee (fun i ρ Z=>∃(fs:List Te) (J:aV) (E l j:Option SV),ρ=E0 b w m es base.length n (-(kT q.p)) E l j/\Z=jz base m (fs.map iE) J/\BT b w es fs n/\fs[n]? =lD q/\(fs.length:Int)<=m/\∀e∈es.take i,Dt b w fs q e) (p8 (jr (d:= .list (es.map cy)) (af rfl) rfl rfl)) ⟨fs,J,E,l,j,rfl,rfl,bi,A,Zc,fun e he=>by cases he⟩ ?_ ?_)
  .clear R Q st U8 A hle bi Zc
   rintro i d ρ Z O ⟨fs,J,E,l,j,rfl,rfl,bi,A,Zc,dn⟩;rw[QW] at O;cases qe:es[i]? with
   |none=>rw[qe] at O;cases O
   |some e=>
    rw[qe] at O;cases Ra O;have L:=Ry qe;have M:=B.rw (bi.rw q (Ry A));refine⟨E0 b w m es base.length n (-(kT q.p)) (-(cy e)) l j,_,rfl,?_⟩;have U:=z6 (ρ:=E0 b w m es base.length n (-(kT q.p)) (-(cy e)) l j) (Z:=jz base m (fs.map iE) J) S M.1 (B.eb e L) (fa:=ag (aa 0)) (fb:=ag (aC bc (aa 6) (~~~0))) (fc:=ag (aa 7)) (ah (af rfl)) (ah (aE (rv:= .fz (eR q.p.1)) (af rfl) aD rfl rfl ip)) (ah (af rfl));rw[<-IT] at U;have k1:=Bi S M.1 (B.eb e L);have k2:=v9 S M.1 (B.eb e L);have dk:=Ix hw wl (d:=q.p.2) (by have:=M.2;omega) k1 (by omega);have a:Ho b w q.p e=(zg w q.p.2 (bR b q.p.1 e).2).map fun d=>((bR b q.p.1 e).1,d):=rfl;refine cG (ρ1:=E0 b w m es base.length n (-(kT q.p)) (-(cy e)) (-(.tuple [.list ((bR b q.p.1 e).2.map kY),eR (bR b q.p.1 e).1])) j) U rfl ?_;clear U;generalize bR b q.p.1 e=u at k1 dk a;generalize J++[Cell.dead]=J;refine cG (ρ1:=E0 b w m es base.length n (-(kT q.p)) (-(cy e)) (-(.tuple [.list (u.2.map kY),eR u.1])) (-(OQ (zg w q.p.2 u.2)))) (ah (eU (rv:= .fz (OQ (zg w q.p.2 u.2))) (ds:=[.str (cU w),nd q.p.2,.list (u.2.map kY)]) (ai (af rfl) (ai (aE (rv:= .fz (nd q.p.2)) (af rfl) aD rfl rfl i7) (ai (aE (rv:= .fz (.list (u.2.map kY))) (af rfl) aD rfl rfl ip) aA))) rfl rfl dk)) rfl ?_;have T:es.take (i+1)=es.take i++[e]:=by rw[aao,qe];rfl
    cases qd:zg w q.p.2 u.2 with
    |none=>
     rw[qd] at a;refine .eq (dL (bH (bK (aE (rv:= .fz (.bool QQ)) (af rfl) aD rfl rfl rfl) rfl)) d8) ⟨fs,J,_,_,_,rfl,rfl,bi,A,Zc,fun f g=> ?_⟩;rw[T] at g;rcases Rq.mp g with g|g
     .exact dn f g
     .rw[Q2.mp g];intro p I;rw[a] at I;cases I
    |some d=>
     rw[qd] at a;have a:Ho b w q.p e=lD (u.1,d):=a;have t2:bQ (aF (aC kr (aa 9) (pC .none))) (E0 b w m es base.length n (-(kT q.p)) (-(cy e)) (-(.tuple [.list (u.2.map kY),eR u.1])) (-(OQ (lD d)))) (jz base m (fs.map iE) J)= .ok QJ (jz base m (fs.map iE) J):=bH (bK (aE (rv:= .fz (.bool QJ)) (af rfl) aD rfl rfl rfl) rfl);have pn:=B.nx M L a;have G:=BU (F:=b6) (fo:=aw 4) (fa:=ao (ag (bj {aC bc (aa 8) (~~~1),aa 9})) (ao (ag (aa 5)) (ao (ag (aa 7)) aW))) (ρ:=E0 b w m es base.length n (-(kT q.p)) (-(cy e)) (-(.tuple [.list (u.2.map kY),eR u.1])) (-(OQ (lD d)))) (Z:=jz base m (fs.map iE) J) (m:= "enter") (n:=4) (b9 rfl) (P Zc).o sY (au (ah (d:=kT (u.1,d)) (b8 (ai (aE (rv:= .fz (eR u.1)) (af rfl) aD rfl rfl i7) (ai (af rfl) aA)) rfl (QL rfl))) (au (ah (af rfl)) (au (ah (af rfl)) aQ))) rfl;rw[tD (P Zc) (xg (by omega) Y) Y (jm pn)] at G;refine .eq (dJ t2 rfl) (Fh ?_);cases qi:g6 (fs.map iE) (kT (u.1,d)) with
     |some t=>
      rw[qi] at G;refine .eq G ⟨fs,J,_,_,_,rfl,rfl,bi,A,Zc,fun f g=> ?_⟩;rw[T] at g;rcases Rq.mp g with g|g
      .exact dn f g
      .rw[Q2.mp g];exact bi.old B A L a qi
     |none=>
      rw[qi] at G;dsimp only at G;rw[QI] at G;have bn:=bi.new B A L a qi;by_cases hm:m<=(fs.length:Int)
      .rw[if_pos hm] at G
       refine .eq G ⟨rfl,_,bn.un,fun p I=> ?_,?_⟩
       .obtain⟨r,hr,rfl⟩:=Rn.mp I;exact⟨r.d,bn.rw r hr⟩
       .rw[QI,QO];show m<((fs.length+1:Nat):Int);omega
      .rw[if_neg hm,AC] at G
       have X:=(QM.mp A).1;refine .eq G ⟨fs++[⟨(u.1,d),nd n,cy e,q.d+1⟩],J,_,_,_,rfl,by rw[Rm];rfl,bn,(Q1 X).trans A,?_,fun f g=> ?_⟩
       .rw[QO];show((fs.length+1:Nat):Int)<=m;omega
       .rw[T] at g
        rcases Rq.mp g with g|g
        .exact(dn f g).mono _
        .rw[Q2.mp g];intro p I;rw[a] at I;cases I;exact⟨_,Rr _ QS,rfl,QU _⟩
  .rintro ρ Z ⟨fs,J,E,l,j,rfl,rfl,bi,A,Zc,dn⟩;rw[QI,aaT] at dn;have X:=(QM.mp A).1;refine zn (MW (Z3:=[]) (i:=5) (x:= .fz (nd n)) (y:= .fz (.int 1)) (z:= .fz (nd (n+1))) rfl (ah aD) (cD rfl)) ⟨fs,J,_,_,_,_,rfl,rfl,bi.next A dn,X,Zc⟩
theorem Ez {b:Bd} (M:VB b) {n:Nat} (hn:b.n=n) (n2:n<=2) (l2:b.ls.length<=2) (G:b.wt<=2) {w:List Nat} (S:∀c∈w,c<26) (L:w.length<=3) {k:Nat} (U:RT b w (xS n) k (fV,w.length)) (Z:aV):∃(i:Nat) (f:aV) (row:List D),kQ [.fz (bD b),.fz (.str (cU w)),.fz (.int 400)] Z= .ok (.rf i) f/\f[i]? =lD (.lst (row.map .fz))/\row.length<=k/\Z.length<=i/\∃K,f=Z++K:=by
 have B:TC b w (xS n):=⟨M,F3 hn,S,L⟩;have H:Out (kQ [.fz (bD b),.fz (.str (cU w)),.fz (.int 400)] Z) (fun v f=>∃(i:Nat) (row:List D),v= .rf i/\f[i]? =lD (.lst (row.map .fz))/\row.length<=k/\Z.length<=i/\∃K,f=Z++K) (fun _=>False):=by
  refine uf rfl ?_;unfold uX;have po:=E8 (zc M hn (by omega) S L (m:=400) (by decide) (by decide) Z) (X':=fun _=>False) (fun a o h=>h) (fun x ⟨_,l,e,A,X⟩=>by have:=OO B (by omega) l2 G e A;omega);have ca:=ES (F:=gx) (es:=[]) (fa:=ao (ag (aa 0)) (ao (ag (aa 1)) (ao (ag (aa 2)) aW))) (ρ:=[-(bD b),-(.str (cU w)),-(.int 400),Ld,Ld]) (Z:=Z) (n:=3) (au (ah (af rfl)) (au (ah (af rfl)) (au (ah (af rfl)) aQ))) rfl;refine Ii (.eq ca (po.imp fun v f hv=> ?_));obtain⟨fs,J,rfl,rfl,E,Zc⟩:=hv;have g:Z.length+1=(Z++[Cell.dead]).length:=by rw[QO];rfl
  rw[g];generalize hb:Z++[Cell.dead]=base;have P:PSt base.length (base.length+1) (base.length+2) 400 (fs.map iE) (jz base 400 (fs.map iE) J):=zJ (by rw[QI];omega);have ln:=ym (w:=w) (by omega);show lZ (aK _ _ [-(bD b),-(.str (cU w)),-(.int 400),lD (.rf base.length),Ld] _) _ _ _;refine cG (ρ1:=[-(bD b),-(.str (cU w)),-(.int 400),lD (.rf base.length),-(kT (fV,w.length))]) (ah (d:=kT (fV,w.length)) (b8 (ds:=[eR fV,nd w.length]) (ai aD (ai (de (rv:= .fz (nd w.length)) (ai (af rfl) aA) rfl ln) aA)) rfl (QL rfl))) rfl ?_;have C:=B.rw U;have y:=xz (jm C);obtain⟨r,Q,O,rd⟩:=E.all (QU _) k _ U;obtain⟨t,T⟩:∃t,g6 (fs.map iE) (kT (fV,w.length))=lD t:=by
   cases q:g6 (fs.map iE) (kT (fV,w.length)) with
   |some t=>exact⟨t,rfl⟩
   |none=>have:=qS q (iE r) (Rn.mpr ⟨r,Q,rfl⟩);rw[show(iE r).p=kT (fV,w.length) by show kT r.p=_;rw[O],tZ (jm C)] at this;cases this
  obtain⟨u,hu,hd⟩:∃u,fs[t]? =lD u/\u.d<=k:=by
   obtain⟨x,e,A⟩:=yM T;rw[QW] at e;cases z:fs[t]? with
   |none=>rw[z] at e;cases e
   |some u=>rw[z] at e;cases e;have um:=Ry z;have R:=B.rw (E.rw u um);have ue:=D1 B R C (LD.kd_eqv _ _ (LD.keyD_kd (jm R)).1 (LD.keyD_kd (jm C)).1 A);obtain⟨j,I⟩:=Sz.mp Q;have tl:=(QM.mp z).1;have:t=j:=(aap (show t<(fs.map (·.p)).length by rw[QI];exact tl) E.un).mp (by rw[QW,QW,z,I];show lD u.p=lD r.p;rw[ue,O]);subst this;rw[z] at I;cases I;exact⟨_,rfl,rd⟩
  have fn:a9 "Places" "numbers" (aw 3) [-(bD b),-(.str (cU w)),-(.int 400),lD (.rf base.length),-(kT (fV,w.length))] (jz base 400 (fs.map iE) J)= .ok (.rf (base.length+2)) (jz base 400 (fs.map iE) J):=gW (b9 rfl) P.o ot;have N:∀{o:aV},ag (aa 4) [-(bD b),-(.str (cU w)),-(.int 400),lD (.rf base.length),-(kT (fV,w.length))] o= .ok (.fz (kT (fV,w.length))) o:=ah (af rfl);have Y:=aZ (zP (neg:=QJ) N fn y P.n);have gg:ie (iA 0 (fs.map iE)) (kT (fV,w.length))=lD (nd t):=by rw[jI,T];show lD (nd (0+t))=_;rw[Uk]
  rw[gg] at Y;refine MJ Y (Iq ?_);obtain⟨K,row,w1,G,w3⟩:=Nc E P hu;have me:aO "Places" "way_to" cJ 2 (aw 3) (ao (lQ (a9 "Places" "numbers" (aw 3)) (ag (aa 4))) aW) [-(bD b),-(.str (cU w)),-(.int 400),lD (.rf base.length),-(kT (fV,w.length))] (jz base 400 (fs.map iE) J)= .ok (.rf ((jz base 400 (fs.map iE) J).length+1)) (jz base 400 (fs.map iE) J++K):=BN (b9 rfl) P.o (by rfl) (au (ww fn N y P.n gg) aQ) rfl w1;exact uy me ⟨_,row,rfl,B7.trans G,by omega,by rw[Hk,<-hb,QO];omega,by unfold jz;rw[<-hb,RD,RD];exact⟨_,rfl⟩⟩
 obtain⟨v,f,e,i,row,rfl,A,X⟩:=H.all;exact⟨i,f,row,e,A,X⟩
theorem C0 {b:Bd} (h:VB b) {n:Nat} (hn:b.n=n) (l:n<=2) (m:b.ls.length<=2) (g:b.wt<=2) {w:List Nat} (p:∀c∈w,c<26) (f:w.length<=3) {k:Nat} (q:RT b w (xS n) k (fV,w.length)) (Z:aV):∃Z',gP [.fz (bD b),.fz (.str (cU w)),.fz (nd k)] Z= .ok (.fz (.bool QJ)) Z'/\∀(j:Nat) (c:Cell),Z[j]? =lD c->Z'[j]? =lD c:=by obtain⟨i,Z',row,u,t,A,y,K,r⟩:=Ez h hn l m g p f q Z;have v:frz 4 Z' (.rf i)=lD (.list row,Z'.set i .dead):=kR t;have le:=Bo (row.length:Int) (k:Int);rw[decide_eq_true (by omega)] at le;refine⟨_,iG (ρ:=[-(bD b),-(.str (cU w)),-(nd k),Ld]) rfl (cI (nI (i:=3) (j4 (Cg (xs:=[.fz (bD b),.fz (.str (cU w))]) (au (ah (af rfl)) (au (ah (af rfl)) aQ)) rfl u) v) rfl) (g9 (ah (vj (a:=QJ) (b:=QJ) (bK (aE (rv:= .fz (.bool QJ)) (af rfl) aD rfl rfl rfl) rfl) fun _=>aE (rv:= .fz (.bool QJ)) (de (rv:= .fz (nd row.length)) (ds:=[.list row]) (ai (af rfl) aA) rfl (i6 _)) (af rfl) rfl rfl le)))),fun j c e=> ?_⟩;have o:=(QM.mp e).1;rw[R9 (by omega),r,Q1 o];exact e
theorem oY (a:List Int) (k:Int) (e:0<=k):∃c:Int,cr [.list (a.map .int),.int k]= .ok (.fz (.int c)):=by
 obtain⟨n,rfl⟩:∃n:Nat,k=(n:Int):=⟨k.toNat,by omega⟩;have b:gh [.list (a.map .int)]=-(nd a.length):=(i6 _).trans (by rw[QI]);by_cases h:n<a.length
 .refine⟨a[n],im (ρ:=[-(.list (a.map .int)),-(nd n)]) rfl (eS (pv:= .fz (.int a[n])) (rv:= .fz (.int a[n])) (M7 (bK (aE (rv:= .fz (.bool QJ)) (af rfl) (de (rv:= .fz (nd a.length)) (ai (af rfl) aA) rfl b) rfl rfl ?_) rfl) (aE (rv:= .fz (.int a[n])) (af rfl) (af rfl) rfl rfl (Qq ?_))) rfl rfl)⟩
  .rw[ra,decide_eq_true (by omega)]
  .rw[QW,QY h];rfl
 .refine⟨0,im (ρ:=[-(.list (a.map .int)),-(nd n)]) rfl (eS (pv:= .fz (.int 0)) (rv:= .fz (.int 0)) (La (bK (aE (rv:= .fz (.bool QQ)) (af rfl) (de (rv:= .fz (nd a.length)) (ai (af rfl) aA) rfl b) rfl rfl ?_) rfl) aD) rfl rfl)⟩;rw[ra,decide_eq_false (by omega)]
theorem Pg {i j:Int} (h: -2^64<i/\i<2^64):gl (.int i) (.int j)=-(.int (i*j)):=G7 h
theorem Qi {i j:Int} (h: -2^64<j/\j<2^64):gl (.int i) (.int j)=-(.int (i*j)):=HX h
def B4 (x s m:Int):Int:=((x % 1000033+s)*(s+521) % 1000033*((x % 1000033+s)*(s+521) % 1000033)+x/1000033+7*s) % 999983/3 % m
theorem lX {x s m:Int} (hm:0<m):0<=B4 x s m/\B4 x s m<m:=⟨T6 _ (by omega),Ts _ hm⟩
theorem gL (x:Int) {s m:Int} (p:0<=s) (o:s<1000) (hm:0<m):bA [.int x,.int s,.int m]= .ok (.fz (.int (B4 x s m))):=by unfold B4;have n:df (.int x) (.int 1000033)=-(.int (x % 1000033)):=eV (by decide);have f:gl (.int (x % 1000033+s)) (.int (s+521))=-(.int ((x % 1000033+s)*(s+521))):=Qi ⟨by omega,by omega⟩;generalize (x % 1000033+s)*(s+521)=y at f;have e:df (.int y) (.int 1000033)=-(.int (y % 1000033)):=eV (by decide);have g:0<=y % 1000033/\y % 1000033<1000033:=⟨T6 _ (by decide),Ts _ (by decide)⟩;generalize y % 1000033=z at e g;have b:gl (.int z) (.int z)=-(.int (z*z)):=Qi ⟨by omega,by omega⟩;have l:eW (.int x) (.int 1000033)=-(.int (x/1000033)):=fL ⟨by decide,by decide⟩;have j:gl (.int 7) (.int s)=-(.int (7*s)):=Pg ⟨by decide,by decide⟩;generalize z*z=u at b;have a:df (.int (u+x/1000033+7*s)) (.int 999983)=-(.int ((u+x/1000033+7*s) % 999983)):=eV (by decide);generalize (u+x/1000033+7*s) % 999983=v at a;have i:eW (.int v) (.int 3)=-(.int (v/3)):=fL ⟨by decide,by decide⟩;have h:df (.int (v/3)) (.int m)=-(.int (v/3 % m)):=eV hm;exact im (ρ:=[-(.int x),-(.int s),-(.int m),Ld]) rfl (zk (Eo (by fail "ev") rfl (zk (Eo (by fail "ev") rfl (eS (by fail "ev") rfl rfl)))))
theorem Ny {z:Str} {cs:List Nat} (hz:z.cps.toList=cs.map (97+·)) (a:z.length<=1000000) {r:Int} {c:Nat} (b:0<=r) (h:cs[r.toNat]? =lD c):L3.ka (.str z) (.int r)=-(.str (dj c)):=by show(if z.length<=1000000 then(lL z.cps.toList r).map (fun c=>RV.fz (.str ⟨#[c]⟩)) else Ld)=_;rw[if_pos a,hz,u9 (v:=97+c) b (by rw[QW,h];rfl)];rfl
theorem zj {z:Str} (cs:List Nat) (hz:z.cps.toList=cs.map (97+·)) (b:z.length<=1000000) (e:∀c∈cs,c<26) {r:Int} (f:0<=r) (g:r<cs.length):∃c,c<26/\L3.ka (.str z) (.int r)=-(.str (dj c)):=by
 have a:r.toNat<cs.length:=by omega
 exact⟨cs[r.toNat],e _ (aaR a),Ny hz b f (QY a)⟩
theorem DZ (a:List Int) (lo hi:Option Int):∃ms:List Int,ms.length<=a.length/\Ph (.list (a.map .int)) lo hi=lD (.ow (ms.map .int)):=by
 refine⟨(a.drop (HT.sIx a.length 0 lo)).take (HT.sIx a.length a.length hi - HT.sIx a.length 0 lo),?_,?_⟩
 .rw[Sl,TR];omega
 .show lD (RV.ow (nM (a.map .int) lo hi))=_;unfold nM;rw[QI,ab1,ab2]
def JU (a:List (List Nat)):List D:=a.map fun K=> .tuple (a8 K)
theorem AW:∀Ks:List (List Nat),QK.canLayAll0 (JU Ks)=QJ
 |[]=>rfl
 |K::r=>by show(QK.canLayAll0 (a8 K)&&QK.canLayAll0 (JU r))=QJ;rw[ii,AW r];rfl
theorem A6 (s:List Nat):∀Ks:List (List Nat),((JU Ks).any fun e=>QK.eqv e (.tuple (a8 s)))=decide (s∈Ks)
 |[]=>rfl
 |K::r=>by
  show(QK.eqvAll (a8 K) (a8 s)||(JU r).any fun e=>QK.eqv e (.tuple (a8 s)))=_;rw[A6 s r,u0];by_cases h:K=s
  .rw[decide_eq_true h,decide_eq_true (show s∈K::r by rw[h];exact QS),UP]
  .rw[decide_eq_false h,Vk]
   by_cases g:s∈r
   .rw[decide_eq_true g,decide_eq_true (QV _ g)]
   .rw[decide_eq_false g,decide_eq_false (fun z=>(Rc.mp z).elim (fun e=>h e.symm) g)]
theorem GY (s:List Nat) (a:List (List Nat)):ox (.tuple (a8 s)) (.list (JU a))=-(.bool (!decide (s∈a))):=by show(if(lm (.tuple (a8 s))&&QK.canLayAll0 (JU a))=QJ then _ else _)=_;rw[LQ,AW,Tf,if_pos rfl,A6]
theorem CU (cs:List (List Nat×Nat)) (b:cs.length<=1000) (a:aU) (e:cT a=a):jB (dA (gN 0) eX (aC bc (aa 0) (~~~0)) (cs.map d4) (Ld::a) [])= .ok (JU (cs.map (·.1))):=by unfold JU;rw[RL];exact kS d4 (fun c=> .tuple (a8 c.1)) cs b e fun c _=>aE (rv:= .fz (.tuple (a8 c.1))) (af rfl) aD rfl rfl ip
theorem jO {n i k:Nat} (h:(Q0 n)[i]? =lD k):k=i/\i<n:=by obtain⟨b,a⟩:=QM.mp h;rw[List.getElem_range] at a;rw[Ru] at b;exact⟨a.symm,b⟩
theorem AA {n a:Int} {e:List (List Mn)} {b:List Mn} (h:VL n a e) (g:(b.length:Int)=n) (f:∀m∈b,VM e.length a m):VL n a (e++[b]):=by
 intro i l hi;rcases L10.ck hi with h'|⟨rfl,rfl⟩
 .exact h i l h'
 .exact⟨g,f⟩
theorem E1 {a:Int} (b:1<=a):∃M:Int,wo [.int 1,.int (a - 1)]=-(.int M)/\1<=M/\(1<a->M=a - 1):=by refine⟨_,rfl,?_⟩;split<;>omega
theorem Hc (c:Int) (L:Nat) (a:Int) (n:1<=a):∃m:Mn,VM L a m/\eB [.int c,nd L,.int a]= .ok (.fz (mD m)):=by
 have r:=gL c (s:=5) (m:=3) (by decide) (by decide) (by decide);have g:=lX (x:=c) (s:=5) (m:=3) (by decide);generalize B4 c 5 3=r5 at r g;obtain⟨l,i,w⟩:=zj (z:= "abc") [0,1,2] (by left) (by left) (by decide) g.1 (show r5<3 from g.2);obtain⟨M,v,M1,M2⟩:=E1 n;have p:=gL c (s:=7) (m:=M) (by decide) (by decide) (by omega);have u:=lX (x:=c) (s:=7) (m:=M) (by omega);generalize B4 c 7 M=r7 at p u;have t:=gL c (s:=3) (m:=8) (by decide) (by decide) (by decide);generalize B4 c 3 8=r3 at t;have o:x8 (nd L) (.int 0)=-(.bool (decide ((0:Int)<L))):=rfl;have f:∃rv,gv 6 eC [.int c,nd L,.int a]= .ok rv/\∃m:Mn,VM L a m/\rv= .fz (mD m):=by
  refine nF (T:=fun rv=>∃m:Mn,VM L a m/\rv= .fz (mD m)) (ρ:=[zf (.int c),zf (nd L),zf (.int a),Ld,Ld,Ld]) rfl ?_;unfold eC;refine bJ (ρ3:=[zf (.int c),zf (nd L),zf (.int a),zf (.str (dj l)),Ld,Ld]) (by fail "ev") rfl rfl ?_;refine bJ (ρ3:=[zf (.int c),zf (nd L),zf (.int a),zf (.str (dj l)),zf (.int (1+r7)),Ld]) (by fail "ev") rfl rfl ?_;refine bJ (ρ3:=[zf (.int c),zf (nd L),zf (.int a),zf (.str (dj l)),zf (.int (1+r7)),zf (.int r3)]) (by fail "ev") rfl rfl ?_;refine iM (b:=(decide ((0:Int)<L)&&decide (5<r3))) (ρ1:=[zf (.int c),zf (nd L),zf (.int a),zf (.str (dj l)),zf (.int (1+r7)),zf (.int r3)]) (by fail "ev") (fun q=> ?_) (fun _=>dF ?_)
  .rw[Q6] at q;have e:=of_decide_eq_true q.1;exact gb (pv:= .fz (mD .below)) (ρ1:=[zf (.int c),zf (nd L),zf (.int a),zf (.str (dj l)),zf (.int (1+r7)),zf (.int r3)]) (show _=Res.ok (PV.fz (.tuple [.str "below"]),_) by fail "ev") rfl ⟨.below,by show(L:Int)≠0;omega,rfl⟩
  refine iM (b:=(decide (1<a)&&decide (r3=3))) (ρ1:=[zf (.int c),zf (nd L),zf (.int a),zf (.str (dj l)),zf (.int (1+r7)),zf (.int r3)]) (by fail "ev") (fun q=> ?_) (fun _=>dF ?_)
  .rw[Q6] at q;have e:=M2 (of_decide_eq_true q.1);exact gb (pv:= .fz (mD (.S6 (1+r7)))) (ρ1:=[zf (.int c),zf (nd L),zf (.int a),zf (.str (dj l)),zf (.int (1+r7)),zf (.int r3)]) (show _=Res.ok (PV.fz (.tuple [.str "layer",.int (1+r7)]),_) by fail "ev") rfl ⟨.S6 (1+r7),⟨by omega,by omega⟩,rfl⟩
  refine iM (b:=(decide (1<a)&&decide (r3=4))) (ρ1:=[zf (.int c),zf (nd L),zf (.int a),zf (.str (dj l)),zf (.int (1+r7)),zf (.int r3)]) (by fail "ev") (fun q=> ?_) (fun _=>dF ?_)
  .rw[Q6] at q;have e:=M2 (of_decide_eq_true q.1);exact gb (pv:= .fz (mD (.Vo l (1+r7)))) (ρ1:=[zf (.int c),zf (nd L),zf (.int a),zf (.str (dj l)),zf (.int (1+r7)),zf (.int r3)]) (show _=Res.ok (PV.fz (.tuple [.str "tap",.str (dj l),.int (1+r7)]),_) by fail "ev") rfl ⟨.Vo l (1+r7),⟨i,by omega,by omega⟩,rfl⟩
  refine iM (b:=(decide (1<a)&&decide (r3=5))) (ρ1:=[zf (.int c),zf (nd L),zf (.int a),zf (.str (dj l)),zf (.int (1+r7)),zf (.int r3)]) (by fail "ev") (fun q=> ?_) (fun _=>dF ?_)
  .rw[Q6] at q;have e:=M2 (of_decide_eq_true q.1);exact gb (pv:= .fz (mD (.once (1+r7)))) (ρ1:=[zf (.int c),zf (nd L),zf (.int a),zf (.str (dj l)),zf (.int (1+r7)),zf (.int r3)]) (show _=Res.ok (PV.fz (.tuple [.str "once",.int (1+r7)]),_) by fail "ev") rfl ⟨.once (1+r7),⟨by omega,by omega⟩,rfl⟩
  exact eS (pv:= .fz (mD (.Rk l))) (ρ1:=[zf (.int c),zf (nd L),zf (.int a),zf (.str (dj l)),zf (.int (1+r7)),zf (.int r3)]) (show _=Res.ok (PV.fz (.tuple [.str "letter",.str (dj l)]),_) by fail "ev") rfl ⟨.Rk l,i,rfl⟩
 obtain⟨rv,h,m,j,rfl⟩:=f;exact⟨m,j,h⟩
theorem Fg {r:Int} (b:0<=r) (a:r<26):∃c,c<26/\L3.ka (.str "abcdefghijklmnopqrstuvwxyz") (.int r)=-(.str (dj c)):=
 zj (z:= "abcdefghijklmnopqrstuvwxyz") (Q0 26) (by left) (by left) (by decide) b (by rw[Ru];exact a)
theorem Ec (x:Int) (L:Nat) (a:Int) (j:1<=a) (u:a<=3):∃m:Mn,VM L a m/\c7 [.int x,nd L,.int a]= .ok (.fz (mD m)):=by
 have B:eW (.int x) (.int 7)=-(.int (x/7)):=fL ⟨by decide,by decide⟩;have A:df (.int (x/7)) (.int 26)=-(.int (x/7 % 26)):=eV (by decide);obtain⟨l,g,w⟩:=Fg (r:=x/7 % 26) (by omega) (by omega);obtain⟨M,v,M1,M2⟩:=E1 j;have y:eW (.int x) (.int 182)=-(.int (x/182)):=fL ⟨by decide,by decide⟩;have p:df (.int (x/182)) (.int M)=-(.int (x/182 % M)):=eV (by omega);have t:0<=x/182 % M/\x/182 % M<M:=⟨T6 _ (by omega),Ts _ (by omega)⟩;generalize x/182 % M=r7 at p t;have o:df (.int x) (.int 7)=-(.int (x % 7)):=eV (by decide);generalize x % 7=r3 at o;have n:x8 (nd L) (.int 0)=-(.bool (decide ((0:Int)<L))):=rfl;have f:∃rv,gv 5 cz [.int x,nd L,.int a]= .ok rv/\∃m:Mn,VM L a m/\rv= .fz (mD m):=by
  refine nF (T:=fun rv=>∃m:Mn,VM L a m/\rv= .fz (mD m)) (ρ:=[zf (.int x),zf (nd L),zf (.int a),Ld,Ld]) rfl ?_;unfold cz;refine bJ (ρ3:=[zf (.int x),zf (nd L),zf (.int a),zf (.str (dj l)),Ld]) (by fail "ev") rfl rfl ?_;refine bJ (ρ3:=[zf (.int x),zf (nd L),zf (.int a),zf (.str (dj l)),zf (.int (1+r7))]) (by fail "ev") rfl rfl ?_;refine iM (b:=(decide (r3=1)&&decide ((0:Int)<L))) (ρ1:=[zf (.int x),zf (nd L),zf (.int a),zf (.str (dj l)),zf (.int (1+r7))]) (by fail "ev") (fun q=> ?_) (fun _=>dF ?_)
  .rw[Q6] at q;have e:=of_decide_eq_true q.2;exact gb (pv:= .fz (mD .below)) (ρ1:=[zf (.int x),zf (nd L),zf (.int a),zf (.str (dj l)),zf (.int (1+r7))]) (show _=Res.ok (PV.fz (.tuple [.str "below"]),_) by fail "ev") rfl ⟨.below,by show(L:Int)≠0;omega,rfl⟩
  refine iM (b:=decide (r3=2)) (ρ1:=[zf (.int x),zf (nd L),zf (.int a),zf (.str (dj l)),zf (.int (1+r7))]) (by fail "ev") (fun q=> ?_) (fun _=>dF ?_)
  .exact gb (pv:= .fz (mD .none)) (ρ1:=[zf (.int x),zf (nd L),zf (.int a),zf (.str (dj l)),zf (.int (1+r7))]) (show _=Res.ok (PV.fz (.tuple [.str "none"]),_) by fail "ev") rfl ⟨.none,trivial,rfl⟩
  refine iM (b:=(decide (r3=3)&&decide (1<a))) (ρ1:=[zf (.int x),zf (nd L),zf (.int a),zf (.str (dj l)),zf (.int (1+r7))]) (by fail "ev") (fun q=> ?_) (fun _=>dF ?_)
  .rw[Q6] at q;have e:=M2 (of_decide_eq_true q.2);exact gb (pv:= .fz (mD (.S6 (1+r7)))) (ρ1:=[zf (.int x),zf (nd L),zf (.int a),zf (.str (dj l)),zf (.int (1+r7))]) (show _=Res.ok (PV.fz (.tuple [.str "layer",.int (1+r7)]),_) by fail "ev") rfl ⟨.S6 (1+r7),⟨by omega,by omega⟩,rfl⟩
  refine iM (b:=(decide (r3=4)&&decide (1<a))) (ρ1:=[zf (.int x),zf (nd L),zf (.int a),zf (.str (dj l)),zf (.int (1+r7))]) (by fail "ev") (fun q=> ?_) (fun _=>dF ?_)
  .rw[Q6] at q;have e:=M2 (of_decide_eq_true q.2);exact gb (pv:= .fz (mD (.Vo l (1+r7)))) (ρ1:=[zf (.int x),zf (nd L),zf (.int a),zf (.str (dj l)),zf (.int (1+r7))]) (show _=Res.ok (PV.fz (.tuple [.str "tap",.str (dj l),.int (1+r7)]),_) by fail "ev") rfl ⟨.Vo l (1+r7),⟨g,by omega,by omega⟩,rfl⟩
  refine iM (b:=(decide (r3=5)&&decide (1<a))) (ρ1:=[zf (.int x),zf (nd L),zf (.int a),zf (.str (dj l)),zf (.int (1+r7))]) (by fail "ev") (fun q=> ?_) (fun _=>dF ?_)
  .rw[Q6] at q;have e:=M2 (of_decide_eq_true q.2);exact gb (pv:= .fz (mD (.once (1+r7)))) (ρ1:=[zf (.int x),zf (nd L),zf (.int a),zf (.str (dj l)),zf (.int (1+r7))]) (show _=Res.ok (PV.fz (.tuple [.str "once",.int (1+r7)]),_) by fail "ev") rfl ⟨.once (1+r7),⟨by omega,by omega⟩,rfl⟩
  exact eS (pv:= .fz (mD (.Rk l))) (ρ1:=[zf (.int x),zf (nd L),zf (.int a),zf (.str (dj l)),zf (.int (1+r7))]) (show _=Res.ok (PV.fz (.tuple [.str "letter",.str (dj l)]),_) by fail "ev") rfl ⟨.Rk l,g,rfl⟩
 obtain⟨rv,h,m,i,rfl⟩:=f;exact⟨m,i,h⟩
structure ZA (l0:List Mn) (cs:List (List Nat×Nat)):Prop where
 vc:∀c∈cs,VC l0 c
 un:cs.Pairwise fun a c=>a.1≠c.1
theorem ZA.nil (l0:List Mn):ZA l0 []:=⟨fun c a=>(by cases a),VN⟩
theorem ZA.add {l0:List Mn} {cs:List (List Nat×Nat)} {s:List Nat} {l:Nat} (h:ZA l0 cs) (j:2<=s.length) (f:s.Pairwise (·<·)) (i:∀k∈s,mZ l0 k=QJ) (g:l<26) (e:s∉cs.map (·.1)):ZA l0 (cs++[(s,l)]):=by
 refine⟨fun c b=>(Rq.mp b).elim (h.vc c) fun z=> ?_,Zv.mpr ⟨h.un,Tj _ _,fun a ha c b=> ?_⟩⟩
 .rw[Q2.mp z];exact⟨j,f,i,g⟩
 .rw[Q2.mp b];exact fun z=>e (Rn.mpr ⟨a,ha,z⟩)
theorem GG {l0:List Mn} {k:Nat} (a:k<l0.length):∃d,bc (dW l0) (nd k)=-(d)/\∃w,bc d (.int 0)=-(.str w)/\cV (.str w) (.str "letter")=-(.bool (mZ l0 k)):=by
 have b:mZ l0 k=l0[k].isL:=by unfold mZ;rw[QY a];rfl
 rw[b];exact⟨mD l0[k],JJ (by rw[QW,QY a];rfl),_,nZ _,kB _⟩
theorem JV {n w:Int} {a:List (List Mn)} {l0:List Mn} {cs:List (List Nat×Nat)} (i:1<=n) (h:n<=5) (l:a.length<=3) (e:a[0]? =lD l0) (j:VL n a.length a) (b:ZA l0 cs) (m:cs.length<=4) (g:1<=w) (f:w<=4):VB ⟨n,a,cs,w⟩:=by
 cases a with
 |nil=>cases e
 |cons x r=>cases Ra e;exact⟨i,h,by show 1<=r.length+1;omega,l,j,m,b.vc,b.un,g,f⟩
theorem Nj (p:List Int):∃b:Bd,(VB b/\b.n<=2/\b.ls.length<=2/\b.wt<=2)/\jd [.list (p.map .int),.int 2]= .ok (.fz (bD b)):=by
 obtain⟨g,e0⟩:=oY p 0 (by decide);have d1:=gL g (s:=1) (m:=2) (by decide) (by decide) (by decide);have b1:=lX (x:=g) (s:=1) (m:=2) (by decide);generalize B4 g 1 2=r1 at d1 b1;have d2:=gL g (s:=2) (m:=2) (by decide) (by decide) (by decide);have b2:=lX (x:=g) (s:=2) (m:=2) (by decide);generalize B4 g 2 2=r2 at d2 b2;have G:=gL g (s:=23) (m:=2) (by decide) (by decide) (by decide);have b23:=lX (x:=g) (s:=23) (m:=2) (by decide);generalize B4 g 23 2=r23 at G b23;have I:=gL g (s:=17) (m:=3) (by decide) (by decide) (by decide);generalize B4 g 17 3=r17 at I;have H:=gL g (s:=19) (m:=3) (by decide) (by decide) (by decide);have C:=lX (x:=g) (s:=19) (m:=3) (by decide);generalize B4 g 19 3=r19 at H C;obtain⟨E,Y,elc⟩:=zj (z:= "abd") [0,1,3] (by left) (by left) (by decide) C.1 (show r19<3 from C.2);obtain⟨n,hn⟩:∃n:Nat,1+r1=(n:Int):=⟨(1+r1).toNat,by omega⟩;obtain⟨nl,S⟩:∃n:Nat,1+r2=(n:Int):=⟨(1+r2).toNat,by omega⟩;have rgn:gA [.int (1+r1)]=lD (a8 (Q0 n)):=by rw[hn];exact my (by omega)
 have rgl:gA [.int (1+r2)]=lD (a8 (Q0 nl)):=by rw[S];exact my (by omega)
 have R:∃rv,gv 10 i8 [.list (p.map .int),.int 2]= .ok rv/\∃b:Bd,(VB b/\b.n<=2/\b.ls.length<=2/\b.wt<=2)/\rv= .fz (bD b):=by
  refine nF (T:=fun rv=>∃b:Bd,(VB b/\b.n<=2/\b.ls.length<=2/\b.wt<=2)/\rv= .fz (bD b)) (ρ:=[zf (.list (p.map .int)),zf (.int 2),Ld,Ld,Ld,Ld,Ld,Ld,Ld,Ld]) rfl ?_;unfold i8;refine bJ (ρ3:=[zf (.list (p.map .int)),zf (.int 2),zf (.int g),Ld,Ld,Ld,Ld,Ld,Ld,Ld]) (by fail "ev") rfl rfl ?_;refine bJ (ρ3:=[zf (.list (p.map .int)),zf (.int 2),zf (.int g),zf (.int (1+r1)),Ld,Ld,Ld,Ld,Ld,Ld]) (by fail "ev") rfl rfl ?_;refine bJ (ρ3:=[zf (.list (p.map .int)),zf (.int 2),zf (.int g),zf (.int (1+r1)),zf (.int (1+r2)),Ld,Ld,Ld,Ld,Ld]) (by fail "ev") rfl rfl ?_;refine bJ (ρ3:=[zf (.list (p.map .int)),zf (.int 2),zf (.int g),zf (.int (1+r1)),zf (.int (1+r2)),zo [],Ld,Ld,Ld,Ld]) (by fail "ev") rfl rfl ?_;refine pZ (fun i ρ=>∃(e:List (List Mn)) (A v:Option PV),e.length=i/\VL (1+r1) (1+r2) e/\ρ=[zf (.list (p.map .int)),zf (.int 2),zf (.int g),zf (.int (1+r1)),zf (.int (1+r2)),zo (e.map dW),A,v,Ld,Ld]) (ds:=a8 (Q0 nl)) (ρ1:=[zf (.list (p.map .int)),zf (.int 2),zf (.int g),zf (.int (1+r1)),zf (.int (1+r2)),zo [],Ld,Ld,Ld,Ld]) (by fail "ev") ⟨[],Ld,Ld,rfl,(fun j r h=>by cases h),rfl⟩ ?_ ?_
  .rintro i d ρ hi ⟨e,A,v,M,K,rfl⟩
   obtain⟨L,hL,rfl⟩:=kW hi;obtain⟨rfl,hin⟩:=jO hL;refine⟨[zf (.list (p.map .int)),zf (.int 2),zf (.int g),zf (.int (1+r1)),zf (.int (1+r2)),zo (e.map dW),zf (nd L),v,Ld,Ld],rfl,?_⟩;have mu:gl (.int (1+r1)) (nd L)=-(.int ((1+r1)*L)):=Pg ⟨by omega,by omega⟩;obtain⟨xs,c1,c2,c3⟩:=rL (gt:=gN 0) (ft:=eX) (fe:=fq cr 2 {aa 1,aC cH (aC cH (~~~1) (aC gl (aa 2) (aa 3))) (aa 0)}) (ds:=a8 (Q0 n)) (ρ:=[Ld,-(.list (p.map .int)),-(.int (1+r1)),-(nd L)]) (fun ρ=>∃o,ρ=[o,-(.list (p.map .int)),-(.int (1+r1)),-(nd L)]) (fun _ x=>∃a:Int,x= .int a/\True) ⟨Ld,rfl⟩ (by rw[cZ,Ru];omega) (by rintro j d u ρ ⟨o,rfl⟩;obtain⟨k,hk,rfl⟩:=kW u;obtain⟨c,ec⟩:=oY p (1+(1+r1)*L+k) (by have:=Int.mul_nonneg (show 0<=1+r1 by omega) (show(0:Int)<=L by omega);omega);refine⟨.int c,_,B3 (ρ1:=[-(nd k),-(.list (p.map .int)),-(.int (1+r1)),-(nd L)]) rfl rfl (eU (rv:= .fz (.int c)) (ds:=[.list (p.map .int),.int (1+(1+r1)*L+k)]) (ai (af rfl) (ai (aE (rv:= .fz (.int (1+(1+r1)*L+k))) (aE (rv:= .fz (.int (1+(1+r1)*L))) aD (aE (rv:= .fz (.int ((1+r1)*L))) (af rfl) (af rfl) rfl rfl mu) rfl rfl (gX _ _)) (af rfl) rfl rfl (gX _ _)) aA)) rfl rfl ec) rfl rfl,⟨_,rfl⟩,c,rfl,trivial⟩);obtain⟨cs,rfl,_⟩:=oX (f:=QK.int) (Q:=fun _ (_:Int)=>True) xs 0 c3;rw[cZ,Ru,QI] at c2;refine bJ (pv:= .ow (cs.map .int)) (ρ3:=[zf (.list (p.map .int)),zf (.int 2),zf (.int g),zf (.int (1+r1)),zf (.int (1+r2)),zo (e.map dW),zf (nd L),zo (cs.map .int),Ld,Ld]) (dc (cs:=[.list (p.map .int),.int (1+r1),nd L]) (ds:=a8 (Q0 n)) (by fail "ev") rfl c1) rfl rfl ?_;obtain⟨ys,c4,c5,c6⟩:=rL (gt:=gN 0) (ft:=eX) (fe:=fq eB 3 {aa 0,aa 1,aa 2}) (ds:=cs.map .int) (ρ:=[Ld,-(nd L),-(.int (1+r2))]) (fun ρ=>∃o,ρ=[o,-(nd L),-(.int (1+r2))]) (fun _ x=>∃a:Mn,x=mD a/\VM L (1+r2) a) ⟨Ld,rfl⟩ (by rw[QI];omega) (by
    rintro j d u ρ ⟨o,rfl⟩;obtain⟨c,rfl⟩:∃c:Int,d= .int c:=by
     rw[QW] at u;cases q:cs[j]? with
     |none=>rw[q] at u;cases u
     |some x=>rw[q] at u;exact⟨x,(Ra u).symm⟩
    obtain⟨m,N,em⟩:=Hc c L (1+r2) (by omega);exact⟨mD m,_,B3 (ρ1:=[-(.int c),-(nd L),-(.int (1+r2))]) rfl rfl (eU (rv:= .fz (mD m)) (ds:=[.int c,nd L,.int (1+r2)]) (ai (af rfl) (ai (af rfl) (ai (af rfl) aA))) rfl rfl em) rfl rfl,⟨_,rfl⟩,m,rfl,N⟩)
   obtain⟨y,rfl,q6⟩:=oX (f:=mD) (Q:=fun _ a=>VM L (1+r2) a) ys 0 c6;rw[QI,QI] at c5;have P:iX [.list (y.map mD)]=-(dW y):=rfl;have X:(e.map dW).length<1000000:=by rw[QI];omega
   refine oV (pv:= .fz .none) (ρ1:=[zf (.list (p.map .int)),zf (.int 2),zf (.int g),zf (.int (1+r1)),zf (.int (1+r2)),zo (e.map dW++[dW y]),zf (nd L),zf (.list (cs.map .int)),Ld,Ld]) (nr (pa:= .fz (dW y)) (d:=dW y) rfl (de (rv:= .fz (dW y)) (ds:=[.list (y.map mD)]) (ai (dc (cs:=[nd L,.int (1+r2)]) (ds:=cs.map .int) (jr (ja rfl) rfl rfl) rfl c4) aA) rfl P) rfl rfl X rfl) ⟨e++[y],_,_,by rw[QO,M];rfl,AA K (by omega) (fun m hm=> ?_),by rw[Rm];rfl⟩;obtain⟨t,ht⟩:=Sz.mp hm;rw[M];exact q6 t m ht
  .rintro ρ ⟨e,A,v,M,K,rfl⟩
   rw[cZ,Ru] at M;obtain⟨l0,Z⟩:∃l0,e[0]? =lD l0:=⟨_,QY (show 0<e.length by omega)⟩;have hl0:=(K 0 l0 Z).1;have i0:bc (.list (e.map dW)) (.int 0)=-(dW l0):=Ol (by decide) (by show(e.map dW)[0]? =_;rw[QW,Z];rfl);have J:jB (dA (gN 0) (aF (aC cV (aC bc (aC bc (aC bc (aa 1) (~~~0)) (aa 0)) (~~~0)) (pC (.str "letter")))) (aa 0) (a8 (Q0 n)) [Ld,-(.list (e.map dW))] [])= .ok (((Q0 n).filter (mZ l0)).map nd):=oU nd nd (mZ l0) (Q0 n) (by rw[Ru];omega) rfl (fun j u=>by obtain⟨d,e1,w,e2,e3⟩:=GG (l0:=l0) (k:=j) (by have:=Sg.mp u;omega);exact bK (aE (aE (aE (aE (rv:= .fz (dW l0)) (af rfl) aD rfl rfl i0) (af rfl) rfl rfl e1) aD rfl rfl e2) aD rfl rfl e3) rfl) fun j _ _=>af rfl;have sp:((Q0 n).filter (mZ l0)).Pairwise (·<·):=Xu _ VG;have sm:∀j∈(Q0 n).filter (mZ l0),mZ l0 j=QJ:=fun j u=>(SK.mp u).2;have sl:((Q0 n).filter (mZ l0)).length<=2:=by have:=Uu (mZ l0) (Q0 n);rw[Ru] at this;omega
   generalize (Q0 n).filter (mZ l0)=s at J sp sm sl;have O:iX [.list (s.map nd)]=-(.tuple (a8 s)):=rfl;refine bJ (ρ3:=[zf (.list (p.map .int)),zf (.int 2),zf (.int g),zf (.int (1+r1)),zf (.int (1+r2)),zf (.list (e.map dW)),A,v,zf (.tuple (a8 s)),Ld]) (de (rv:= .fz (.tuple (a8 s))) (ds:=[.list (s.map nd)]) (ai (dc (cs:=[.list (e.map dW)]) (ds:=a8 (Q0 n)) (by fail "ev") rfl J) aA) rfl O) rfl rfl ?_;refine bJ (ρ3:=[zf (.list (p.map .int)),zf (.int 2),zf (.int g),zf (.int (1+r1)),zf (.int (1+r2)),zf (.list (e.map dW)),A,v,zf (.tuple (a8 s)),zf (.tuple [])]) (b8 (ds:=[]) aA rfl (QL rfl)) rfl rfl ?_;have F:∀cs:List (List Nat×Nat),ZA l0 cs->cs.length<=4->Go (dQ (bj {aa 3,gq iX {aa 5},aa 9,aC cH (~~~1) (fq bA 3 {aa 2,~~~23,~~~2})}) [zf (.list (p.map .int)),zf (.int 2),zf (.int g),zf (.int (1+r1)),zf (.int (1+r2)),zf (.list (e.map dW)),A,v,zf (.tuple (a8 s)),zf (.tuple (cs.map d4))]) (fun _=>∃b:Bd,(VB b/\b.n<=2/\b.ls.length<=2/\b.wt<=2)/\RV.fz .none= .fz (bD b)) (fun _=>False) (fun rv=>∃b:Bd,(VB b/\b.n<=2/\b.ls.length<=2/\b.wt<=2)/\rv= .fz (bD b)):=fun cs N v2=>by have P:iX [.list (e.map dW)]=-(.tuple (e.map dW)):=rfl;exact eS (pv:= .fz (bD ⟨1+r1,e,cs,1+r23⟩)) (rv:= .fz (bD ⟨1+r1,e,cs,1+r23⟩)) (b8 (ds:=[.int (1+r1),.tuple (e.map dW),.tuple (cs.map d4),.int (1+r23)]) (ai (af rfl) (ai (de (rv:= .fz (.tuple (e.map dW))) (ds:=[.list (e.map dW)]) (ai (af rfl) aA) rfl P) (ai (af rfl) (ai (aE (rv:= .fz (.int (1+r23))) aD (eU (rv:= .fz (.int r23)) (ds:=[.int g,.int 23,.int 2]) (ai (af rfl) (ai aD (ai aD aA))) rfl rfl G) rfl rfl (gX _ _)) aA)))) rfl (QL rfl)) rfl ⟨⟨1+r1,e,cs,1+r23⟩,⟨JV (by omega) (by omega) (by omega) Z (by rw[show((e.length:Nat):Int)=1+r2 by omega];exact K) N v2 (by omega) (by omega),by show 1+r1<=2;omega,by show e.length<=2;omega,by show 1+r23<=2;omega⟩,rfl⟩
   have U:gh [.tuple (a8 s)]=-(nd s.length):=(iS _).trans (by rw[cZ]);refine iM (b:=decide ((1:Int)<s.length)&&decide (0<r17)) (o0 (bK (aE (rv:= .fz (.bool (decide ((1:Int)<s.length)))) (de (rv:= .fz (nd s.length)) (ai (af rfl) aA) rfl U) aD rfl rfl (xw _ _)) rfl) fun _=>bK (aE (rv:= .fz (.bool (decide (0<r17)))) (eU (rv:= .fz (.int r17)) (ds:=[.int g,.int 17,.int 3]) (ai (af rfl) (ai aD (ai aD aA))) rfl rfl I) aD rfl rfl (xw _ _)) rfl) (fun q=> ?_) (fun _=>dF (F [] (ZA.nil _) (Rp _)));rw[Q6] at q;have q1:=of_decide_eq_true q.1;have s2:s.length=2:=by omega
   have cut:PR (.tuple (a8 s)) Ld (lD 2)=-(.tuple (a8 s)):=by show lD (RV.fz (.tuple (nM (a8 s) Ld (lD ((2:Nat):Int)))))=_;unfold nM;rw[HT.sIx_nat,HT.sIx_none,cZ,s2,Nat.min_self,aby,adp,VF (by rw[cZ,s2];exact QU _)]
   refine bJ (ρ3:=[zf (.list (p.map .int)),zf (.int 2),zf (.int g),zf (.int (1+r1)),zf (.int (1+r2)),zf (.list (e.map dW)),A,v,zf (.tuple (a8 s)),zf (.tuple ([(s,E)].map d4))]) (b8 (ds:=[d4 (s,E)]) (ai (b8 (ds:=[.tuple (a8 s),.str (dj E)]) (ai (BE (rv:= .fz (.tuple (a8 s))) (af rfl) wE (iW aD rfl) rfl cut) (ai (aE (rv:= .fz (.str (dj E))) aD (eU (rv:= .fz (.int r19)) (ds:=[.int g,.int 19,.int 3]) (ai (af rfl) (ai aD (ai aD aA))) rfl rfl H) rfl rfl elc) aA)) rfl (QL rfl)) aA) rfl (QL rfl)) rfl rfl ?_;exact F [(s,E)] (by have:=(ZA.nil l0).add (s:=s) (l:=E) (by omega) sp sm Y (fun z=>by cases z);exact this) (by show 1<=4;decide)
 obtain⟨rv,h,b,B,rfl⟩:=R;exact⟨b,B,h⟩
theorem OY (i:Int) (k:Nat):B9 (.int i) (nd k)=-(.int (i/2^k)):=by show(if Oj i (k:Int)=QJ then lD (RV.fz (.int (i/2^((k:Nat):Int).toNat))) else Ld)=_;rw[if_pos (by unfold Oj;exact decide_eq_true (by omega)),RY]
def CK (x:Int) (k:Nat):Bool:=decide (Builtin.bitAnd (x/2^k) 1=1)
abbrev RE (x n h w:Int) (e g f j a b i:Option PV):aU:=[zf (.int x),zf (.int 2),zf (.int 2),zf (.int 2),zf (.int n),zf (.int h),zf (.int w),e,g,f,j,a,b,i]
theorem Hd (x:Int):∃b:Bd,(VB b/\b.n<=2/\b.ls.length<=2/\b.wt<=2)/\fw [.int x,.int 2,.int 2,.int 2]= .ok (.fz (bD b)):=by
 have m1:df (.int x) (.int 2)=-(.int (x % 2)):=eV (by decide);have m2:eW (.int x) (.int 2)=-(.int (x/2)):=fL ⟨by decide,by decide⟩;have m3:df (.int (x/2)) (.int 2)=-(.int (x/2 % 2)):=eV (by decide);have m4:eW (.int (x/2)) (.int 2)=-(.int (x/2/2)):=fL ⟨by decide,by decide⟩;have bn:1<=1+x % 2/\1+x % 2<=2:=by omega
 have bl:1<=1+x/2 % 2/\1+x/2 % 2<=2:=by omega
 have R:∃rv,gv 14 fu [.int x,.int 2,.int 2,.int 2]= .ok rv/\∃b:Bd,(VB b/\b.n<=2/\b.ls.length<=2/\b.wt<=2)/\rv= .fz (bD b):=by
  refine nF (T:=fun rv=>∃b:Bd,(VB b/\b.n<=2/\b.ls.length<=2/\b.wt<=2)/\rv= .fz (bD b)) (ρ:=[zf (.int x),zf (.int 2),zf (.int 2),zf (.int 2),Ld,Ld,Ld,Ld,Ld,Ld,Ld,Ld,Ld,Ld]) rfl ?_;unfold fu;refine bJ (ρ3:=[zf (.int x),zf (.int 2),zf (.int 2),zf (.int 2),zf (.int (1+x % 2)),Ld,Ld,Ld,Ld,Ld,Ld,Ld,Ld,Ld]) (by fail "ev") rfl rfl ?_;refine bJ (ρ3:=[zf (.int x),zf (.int 2),zf (.int 2),zf (.int 2),zf (.int (1+x % 2)),zf (.int (1+x/2 % 2)),Ld,Ld,Ld,Ld,Ld,Ld,Ld,Ld]) (by fail "ev") rfl rfl ?_;generalize 1+x % 2=n at bn;generalize 1+x/2 % 2=nl at bl;refine bJ (ρ3:=[zf (.int (x/2/2)),zf (.int 2),zf (.int 2),zf (.int 2),zf (.int n),zf (.int nl),Ld,Ld,Ld,Ld,Ld,Ld,Ld,Ld]) (by fail "ev") rfl rfl ?_;generalize x/2/2=y;have m5:df (.int y) (.int 2)=-(.int (y % 2)):=eV (by decide);have m6:eW (.int y) (.int 2)=-(.int (y/2)):=fL ⟨by decide,by decide⟩;have bw:1<=1+y % 2/\1+y % 2<=2:=by omega
  refine bJ (ρ3:=RE y n nl (1+y % 2) Ld Ld Ld Ld Ld Ld Ld) (by fail "ev") rfl rfl ?_;generalize 1+y % 2=w at bw;refine bJ (ρ3:=RE (y/2) n nl w Ld Ld Ld Ld Ld Ld Ld) (by fail "ev") rfl rfl ?_;generalize y/2=z;refine bJ (ρ3:=RE z n nl w (zo []) Ld Ld Ld Ld Ld Ld) (by fail "ev") rfl rfl ?_;have G:gA [.int n]=lD (a8 (Q0 n.toNat)):=zL (by omega) (by omega);have rgl:gA [.int nl]=lD (a8 (Q0 nl.toNat)):=zL (by omega) (by omega);have rg4:gA [.int 4]=lD (a8 (Q0 4)):=my (n:=4) (by decide);refine pZ (fun i ρ=>∃(z:Int) (a:List (List Mn)) (p o e:Option PV),a.length=i/\VL n nl a/\ρ=RE z n nl w (zo (a.map dW)) p o e Ld Ld Ld) (ds:=a8 (Q0 nl.toNat)) (ρ1:=RE z n nl w (zo []) Ld Ld Ld Ld Ld Ld) (by fail "ev") ⟨z,[],Ld,Ld,Ld,rfl,(fun j r h=>by cases h),rfl⟩ ?_ ?_
  .rintro i d ρ hi ⟨z,a,p,o,e,M,K,rfl⟩
   obtain⟨L,hL,rfl⟩:=kW hi;obtain⟨rfl,hin⟩:=jO hL;refine⟨RE z n nl w (zo (a.map dW)) (zf (nd L)) o e Ld Ld Ld,rfl,?_⟩;refine bJ (ρ3:=RE z n nl w (zo (a.map dW)) (zf (nd L)) (zo []) e Ld Ld Ld) (by fail "ev") rfl rfl ?_;refine pZ (fun i ρ=>∃(z:Int) (t:List Mn) (e:Option PV),t.length=i/\(∀m∈t,VM L nl m)/\ρ=RE z n nl w (zo (a.map dW)) (zf (nd L)) (zo (t.map mD)) e Ld Ld Ld) (ds:=a8 (Q0 n.toNat)) (ρ1:=RE z n nl w (zo (a.map dW)) (zf (nd L)) (zo []) e Ld Ld Ld) (by fail "ev") ⟨z,[],e,rfl,(fun m h=>by cases h),rfl⟩ ?_ ?_
   .rintro j d ρ X ⟨z,t,e,hm,S,rfl⟩
    obtain⟨k,H,rfl⟩:=kW X;obtain⟨rfl,hjn⟩:=jO H;refine⟨RE z n nl w (zo (a.map dW)) (zf (nd L)) (zo (t.map mD)) (zf (nd k)) Ld Ld Ld,rfl,?_⟩;have Z:df (.int z) (.int 364)=-(.int (z % 364)):=eV (by decide);have e2:eW (.int z) (.int 364)=-(.int (z/364)):=fL ⟨by decide,by decide⟩;obtain⟨m,vm,em⟩:=Ec (z % 364) L nl bl.1 (by omega);have A:(t.map mD).length<1000000:=by rw[QI];omega
    refine vq (pv:= .fz .none) (ρ1:=RE z n nl w (zo (a.map dW)) (zf (nd L)) (zo (t.map mD++[mD m])) (zf (nd k)) Ld Ld Ld) (nr (pa:= .fz (mD m)) (d:=mD m) rfl (eU (rv:= .fz (mD m)) (ds:=[.int (z % 364),nd L,.int nl]) (ai (aE (rv:= .fz (.int (z % 364))) (af rfl) aD rfl rfl Z) (ai (af rfl) (ai (af rfl) aA))) rfl rfl em) rfl rfl A rfl) ?_;refine .eq (pO (ρ3:=RE (z/364) n nl w (zo (a.map dW)) (zf (nd L)) (zo (t.map mD++[mD m])) (zf (nd k)) Ld Ld Ld) (by fail "ev") rfl rfl) ⟨⟨z/364,t++[m],_,by rw[QO,hm];rfl,fun x hx=>(Rq.mp hx).elim (S x) fun q=>by rw[Q2.mp q];exact vm,by rw[Rm];rfl⟩⟩
   .rintro ρ ⟨z,t,e,hm,S,rfl⟩
    rw[cZ,Ru] at hm;have A:(a.map dW).length<1000000:=by rw[QI];omega
    have tu:iX [.list (t.map mD)]=-(dW t):=rfl;exact oV (pv:= .fz .none) (ρ1:=RE z n nl w (zo (a.map dW++[dW t])) (zf (nd L)) (zo (t.map mD)) e Ld Ld Ld) (nr (pa:= .fz (dW t)) (d:=dW t) rfl (de (rv:= .fz (dW t)) (ds:=[.list (t.map mD)]) (ai (ja rfl) aA) rfl tu) rfl rfl A rfl) ⟨z,a++[t],_,_,_,by rw[QO,M];rfl,AA K (by omega) (by rw[M];exact S),by rw[Rm];rfl⟩
  .rintro ρ ⟨z,a,p,o,e,M,K,rfl⟩
   rw[cZ,Ru] at M;obtain⟨l0,Y⟩:∃l0,a[0]? =lD l0:=⟨_,QY (show 0<a.length by omega)⟩;have hl0:=(K 0 l0 Y).1;have i0:bc (.list (a.map dW)) (.int 0)=-(dW l0):=Ol (by decide) (by show(a.map dW)[0]? =_;rw[QW,Y];rfl);refine bJ (ρ3:=RE z n nl w (zo (a.map dW)) p o e (zo []) Ld Ld) (by fail "ev") rfl rfl ?_;refine pZ (fun i ρ=>∃(z:Int) (cs:List (List Nat×Nat)) (f g v:Option PV),ZA l0 cs/\cs.length<=i/\(f=zo (a.map dW)\/f=zf (.list (a.map dW)))/\ρ=RE z n nl w f p o e (zo (cs.map d4)) g v) (ds:=a8 (Q0 4)) (ρ1:=RE z n nl w (zo (a.map dW)) p o e (zo []) Ld Ld) (by fail "ev") ⟨z,[],_,Ld,Ld,ZA.nil _,QU _,.inl rfl,rfl⟩ ?_ ?_
   .rintro i d ρ hi ⟨z,cs,f,g,v,J,O,N,rfl⟩
    obtain⟨j,X,rfl⟩:=kW hi;obtain⟨rfl,hil⟩:=jO X;refine⟨RE z n nl w f p o e (zo (cs.map d4)) (zf (nd j)) v,rfl,?_⟩;have C:jB (dA (gN 0) (ko (aF (aC cV (aC xI (aC B9 (aa 1) (aa 0)) (~~~1)) (~~~1))) (aF (aC cV (aC bc (aC bc (aC bc (aa 2) (~~~0)) (aa 0)) (~~~0)) (pC (.str "letter"))))) (aa 0) (a8 (Q0 n.toNat)) [Ld,-(.int z),-(.list (a.map dW))] [])= .ok (((Q0 n.toNat).filter fun k=>CK z k&&mZ l0 k).map nd):=oU nd nd (fun k=>CK z k&&mZ l0 k) (Q0 n.toNat) (by rw[Ru];omega) rfl (fun k H=>by have hk':=Sg.mp H;obtain⟨d,Z,wd,e2,e3⟩:=GG (l0:=l0) (k:=k) (by omega);have s1:=OY z k;have s2:xI (.int (z/2^k)) (.int 1)=-(.int (Builtin.bitAnd (z/2^k) 1)):=rfl;exact o0 (bK (aE (rv:= .fz (.bool (CK z k))) (aE (rv:= .fz (.int (Builtin.bitAnd (z/2^k) 1))) (aE (rv:= .fz (.int (z/2^k))) (af rfl) (af rfl) rfl rfl s1) aD rfl rfl s2) aD rfl rfl (mQ _ _)) rfl) fun _=>bK (aE (rv:= .fz (.bool (mZ l0 k))) (aE (rv:= .fz (.str wd)) (aE (rv:= .fz d) (aE (rv:= .fz (dW l0)) (af rfl) aD rfl rfl i0) (af rfl) rfl rfl Z) aD rfl rfl e2) aD rfl rfl e3) rfl) fun k _ _=>af rfl;have E:((Q0 n.toNat).filter fun k=>CK z k&&mZ l0 k).Pairwise (·<·):=Xu _ VG;have F:∀k∈(Q0 n.toNat).filter (fun k=>CK z k&&mZ l0 k),mZ l0 k=QJ:=fun k H=>(Q6 _ _▸(SK.mp H).2:_/\_).2;generalize (Q0 n.toNat).filter (fun k=>CK z k&&mZ l0 k)=s at C E F;have a2:gq iX {eP 1 [0,7] (kZ gA {aa 4}) (gN 0) (ko (aF (aC cV (aC xI (aC B9 (aa 1) (aa 0)) (~~~1)) (~~~1))) (aF (aC cV (aC bc (aC bc (aC bc (aa 2) (~~~0)) (aa 0)) (~~~0)) (pC (.str "letter"))))) (aa 0)} (RE z n nl w f p o e (zo (cs.map d4)) (zf (nd j)) v)= .ok (.fz (.tuple (a8 s)),RE z n nl w (zf (.list (a.map dW))) p o e (zo (cs.map d4)) (zf (nd j)) v):=by
     rcases N with rfl|rfl
     .exact de (rv:= .fz (.tuple (a8 s))) (ds:=[.list (a8 s)]) (ai (dc (cs:=[.int z,.list (a.map dW)]) (ds:=a8 (Q0 n.toNat)) (pp (ds:=[.int n]) (ai (af rfl) aA) rfl G) rfl C) aA) rfl rfl
     .exact de (rv:= .fz (.tuple (a8 s))) (ds:=[.list (a8 s)]) (ai (dc (cs:=[.int z,.list (a.map dW)]) (ds:=a8 (Q0 n.toNat)) (pp (ds:=[.int n]) (ai (af rfl) aA) rfl G) rfl C) aA) rfl rfl
    refine bJ (ρ3:=RE z n nl w (zf (.list (a.map dW))) p o e (zo (cs.map d4)) (zf (nd j)) (zf (.tuple (a8 s)))) a2 rfl rfl ?_;have U:gh [.tuple (a8 s)]=-(nd s.length):=(iS _).trans (by rw[cZ]);have Q:=GY s (cs.map (·.1));have f1:eW (.int z) (.int 32)=-(.int (z/32)):=fL ⟨by decide,by decide⟩;have f2:df (.int (z/32)) (.int 26)=-(.int (z/32 % 26)):=eV (by decide);have f3:eW (.int z) (.int 832)=-(.int (z/832)):=fL ⟨by decide,by decide⟩;obtain⟨l,agJ,el⟩:=Fg (r:=z/32 % 26) (by omega) (by omega);have I:∀(u:List (List Nat×Nat)),ZA l0 u->u.length<=j+1->Go (cL (aC eW (aa 0) (~~~832)) (gN 0) (RE z n nl w (zf (.list (a.map dW))) p o e (zo (u.map d4)) (zf (nd j)) (zf (.tuple (a8 s))))) (fun ρ=>∃(z:Int) (cs:List (List Nat×Nat)) (f g v:Option PV),ZA l0 cs/\cs.length<=j+1/\(f=zo (a.map dW)\/f=zf (.list (a.map dW)))/\ρ=RE z n nl w f p o e (zo (cs.map d4)) g v) (fun ρ=>∃(z:Int) (cs:List (List Nat×Nat)) (f g v:Option PV),ZA l0 cs/\cs.length<=j+1/\(f=zo (a.map dW)\/f=zf (.list (a.map dW)))/\ρ=RE z n nl w f p o e (zo (cs.map d4)) g v) (fun rv=>∃b:Bd,(VB b/\b.n<=2/\b.ls.length<=2/\b.wt<=2)/\rv= .fz (bD b)):=fun u h1 h2=>
     .eq (pO (ρ3:=RE (z/832) n nl w (zf (.list (a.map dW))) p o e (zo (u.map d4)) (zf (nd j)) (zf (.tuple (a8 s)))) (by fail "ev") rfl rfl) ⟨⟨z/832,u,_,_,_,h1,h2,.inr rfl,rfl⟩⟩
    refine iM (b:=decide ((1:Int)<(s.length:Int))&& !decide (s∈cs.map (·.1))) (ρ1:=RE z n nl w (zf (.list (a.map dW))) p o e (zo (cs.map d4)) (zf (nd j)) (zf (.tuple (a8 s))))
     (o0 (bK (aE (rv:= .fz (.bool (decide ((1:Int)<(s.length:Int))))) (de (rv:= .fz (nd s.length)) (ai (af rfl) aA) rfl U) aD rfl rfl (xw _ _)) rfl) fun _=>bK (aE (rv:= .fz (.bool (!decide (s∈cs.map (·.1))))) (af rfl) (dc (cs:=[]) (ds:=cs.map d4) (by unfold BQ;rfl) rfl (CU cs (by omega) [] rfl)) rfl rfl Q) rfl) (fun q=> ?_) fun _=>dF (I cs J (by omega))
    have P:=(Q6 _ _▸q:_/\_);have g1:=of_decide_eq_true P.1;have g2:s∉cs.map (·.1):=fun z=>by rw[decide_eq_true z] at P;cases P.2
    exact vq (pv:= .fz .none) (ρ1:=RE z n nl w (zf (.list (a.map dW))) p o e (zo ((cs++[(s,l)]).map d4)) (zf (nd j)) (zf (.tuple (a8 s)))) (nr (ds:=cs.map d4) (d:=d4 (s,l)) rfl (b8 (ds:=[.tuple (a8 s),.str (dj l)]) (ai (af rfl) (ai (aE (rv:= .fz (.str (dj l))) aD (aE (rv:= .fz (.int (z/32 % 26))) (aE (rv:= .fz (.int (z/32))) (af rfl) aD rfl rfl f1) aD rfl rfl f2) rfl rfl el) aA)) rfl (QL rfl)) rfl rfl (by rw[QI];omega) (by rw[Rm];rfl)) (I _ (J.add (by omega) E F agJ g2) (by rw[QO];show cs.length+1<=_;omega))
   .rintro ρ ⟨z,cs,f,g,v,J,O,N,rfl⟩
    rw[cZ,Ru] at O;have vb:VB ⟨n,a,cs,w⟩:=JV (by omega) (by omega) (by omega) Y (by rw[show((a.length:Nat):Int)=nl by omega];exact K) J O (by omega) (by omega);have tr:∀f,(f=zo (a.map dW)\/f=zf (.list (a.map dW)))->bj {aa 4,gq iX {aa 7},gq iX {aa 11},aa 6} (RE z n nl w f p o e (zo (cs.map d4)) g v)= .ok (.fz (.tuple [.int n,.tuple (a.map dW),.tuple (cs.map d4),.int w]),RE z n nl w f p o e (zo (cs.map d4)) g v):=by
     rintro f (rfl|rfl)
     .exact b8 (ai (af rfl) (ai (de (rv:= .fz (.tuple (a.map dW))) (ds:=[.list (a.map dW)]) (ai (ja rfl) aA) rfl rfl) (ai (de (rv:= .fz (.tuple (cs.map d4))) (ds:=[.list (cs.map d4)]) (ai (ja rfl) aA) rfl rfl) (ai (af rfl) aA)))) rfl (QL rfl)
     .exact b8 (ai (af rfl) (ai (de (rv:= .fz (.tuple (a.map dW))) (ds:=[.list (a.map dW)]) (ai (af rfl) aA) rfl rfl) (ai (de (rv:= .fz (.tuple (cs.map d4))) (ds:=[.list (cs.map d4)]) (ai (ja rfl) aA) rfl rfl) (ai (af rfl) aA)))) rfl (QL rfl)
    exact eS (pv:= .fz (bD ⟨n,a,cs,w⟩)) (ρ1:=RE z n nl w f p o e (zo (cs.map d4)) g v) (tr f N) rfl ⟨⟨n,a,cs,w⟩,⟨vb,bn.2,by show a.length<=2;omega,bw.2⟩,rfl⟩
 obtain⟨rv,h,b,B,rfl⟩:=R;exact⟨b,B,h⟩
theorem J0 {n r:Int} (hn:1<=n/\n<=5) (a:0<=r/\r<2*n+1):r/n=0\/r/n=1\/r/n=2:=by
 have:n=1\/n=2\/n=3\/n=4\/n=5:=by omega
 rcases this with rfl|rfl|rfl|rfl|rfl<;>omega
abbrev WE (y n:Int) (es:List Vf) (m:Int) (b a:Option PV):aU:=[zf (.int y),zf (.int n),zo (es.map cy),zf (.int m),b,a]
theorem yg {b:Bd} (B:VB b) (x:Int):∃es:List Vf,es.length<=63/\(∀e∈es,EV b e)/\dD [.int x,.int b.n]= .ok (.ow (es.map cy)):=by
 have G:=B.n1;have F:=B.n5;have g:df (.int x) (.int 41)=-(.int (x % 41)):=eV (by decide);have R:eW (.int x) (.int 41)=-(.int (x/41)):=fL ⟨by decide,by decide⟩;have P:0<=x % 41/\x % 41<41:=by omega
 have l:∃rv,gv 6 dG [.int x,.int b.n]= .ok rv/\∃es:List Vf,es.length<=63/\(∀e∈es,EV b e)/\rv= .ow (es.map cy):=by
  refine nF (T:=fun rv=>∃es:List Vf,es.length<=63/\(∀e∈es,EV b e)/\rv= .ow (es.map cy)) (ρ:=[zf (.int x),zf (.int b.n),Ld,Ld,Ld,Ld]) rfl ?_;unfold dG;refine bJ (ρ3:=[zf (.int x),zf (.int b.n),zo [],Ld,Ld,Ld]) (by fail "ev") rfl rfl ?_;refine bJ (ρ3:=WE x b.n [] (x % 41) Ld Ld) (by fail "ev") rfl rfl ?_;generalize x % 41=m at P;refine bJ (ρ3:=WE (x/41) b.n [] m Ld Ld) (by fail "ev") rfl rfl ?_;generalize x/41=y;have Q:gA [.int m]=lD (a8 (Q0 m.toNat)):=zL (by omega) (by omega);refine pZ (fun i ρ=>∃(y:Int) (es:List Vf) (f a:Option PV),es.length=i/\(∀e∈es,EV b e)/\ρ=WE y b.n es m f a) (ds:=a8 (Q0 m.toNat)) (ρ1:=WE y b.n [] m Ld Ld) (by fail "ev") ⟨y,[],Ld,Ld,rfl,(fun e h=>by cases h),rfl⟩ ?_ ?_
  .rintro i d ρ hi ⟨y,es,f,a,p,u,rfl⟩
   obtain⟨j,K,rfl⟩:=kW hi;obtain⟨rfl,L⟩:=jO K;refine⟨WE y b.n es m (zf (nd j)) a,rfl,?_⟩;have v:gl (.int 2) (.int b.n)=-(.int (2*b.n)):=Pg ⟨by decide,by decide⟩;have A:df (.int y) (.int (2*b.n+1))=-(.int (y % (2*b.n+1))):=eV (by omega);have w:eW (.int y) (.int (2*b.n+1))=-(.int (y/(2*b.n+1))):=fL ⟨by omega,by omega⟩;have C:0<=y % (2*b.n+1)/\y % (2*b.n+1)<2*b.n+1:=⟨T6 _ (by omega),Ts _ (by omega)⟩;generalize y % (2*b.n+1)=r at A C;generalize y/(2*b.n+1)=y2 at w;have o:(es.map cy).length<1000000:=by rw[QI];omega
   refine bJ (ρ3:=WE y b.n es m (zf (nd j)) (zf (.int r))) (aE (rv:= .fz (.int r)) (af rfl) (aE (rv:= .fz (.int (2*b.n+1))) (aE (rv:= .fz (.int (2*b.n))) aD (af rfl) rfl rfl v) aD rfl rfl (gX _ _)) rfl rfl A) rfl rfl ?_;refine bJ (ρ3:=WE y2 b.n es m (zf (nd j)) (zf (.int r))) (aE (rv:= .fz (.int y2)) (af rfl) (aE (rv:= .fz (.int (2*b.n+1))) (aE (rv:= .fz (.int (2*b.n))) aD (af rfl) rfl rfl v) aD rfl rfl (gX _ _)) rfl rfl w) rfl rfl ?_;have H:df (.int r) (.int b.n)=-(.int (r % b.n)):=eV (by omega);have S:eW (.int r) (.int b.n)=-(.int (r/b.n)):=fL ⟨by omega,by omega⟩;have I:=T6 r (show b.n≠0 by omega);have g:=Ts r (show 0<b.n by omega);generalize r % b.n=k at H I g;obtain⟨k,rfl⟩:∃j:Nat,k=(j:Int):=⟨k.toNat,by omega⟩;have E:=J0 (n:=b.n) (r:=r) ⟨G,F⟩ C;obtain⟨e,t,O⟩:∃e:Vf,EV b e/\bc (.list [.tuple [.str "down",.int (k:Int)],.tuple [.str "up",.int (k:Int)],.tuple [.str "turn",.int 0]]) (.int (r/b.n))=-(cy e):=by
    rcases E with q|q|q
    .exact⟨.down k,g,by rw[q];rfl⟩
    .exact⟨.up k,g,by rw[q];rfl⟩
    .exact⟨.turn,trivial,by rw[q];rfl⟩
   exact oV (pv:= .fz .none) (ρ1:=[zf (.int y2),zf (.int b.n),zo (es.map cy++[cy e]),zf (.int m),zf (nd j),zf (.int r)]) (nr (pa:= .fz (cy e)) (d:=cy e) rfl (aE (rv:= .fz (cy e)) (show _=Res.ok (PV.ow [.tuple [.str "down",.int (k:Int)],.tuple [.str "up",.int (k:Int)],.tuple [.str "turn",.int 0]],_) by fail "ev") (by fail "ev") rfl rfl O) rfl rfl o rfl) ⟨y2,es++[e],_,_,by rw[QO,p];rfl,fun x J=>(Rq.mp J).elim (u x) fun z=>by rw[Q2.mp z];exact t,by unfold WE;rw[Rm];rfl⟩
  .rintro ρ ⟨y,es,f,a,p,u,rfl⟩;rw[cZ,Ru] at p;exact eS (pv:= .pl 2) (ρ1:=WE y b.n es m f a) (ja rfl) rfl ⟨es,by omega,u,rfl⟩
 obtain⟨rv,h,es,N,M,rfl⟩:=l;exact⟨es,N,M,h⟩
theorem EX {b:Bd} (B:VB b) (c:Int):∃e:Vf,EV b e/\fQ [bD b,.int c]= .ok (.fz (cy e)):=by
 have u:=B.n1;have t:=B.n5;have f:bc (bD b) (.int 0)=-(.int b.n):=ip;have v:gl (.int 2) (.int b.n)=-(.int (2*b.n)):=Pg ⟨by decide,by decide⟩;have l:=gL c (s:=139) (m:=2*b.n+1) (by decide) (by decide) (by omega);have o:=lX (x:=c) (s:=139) (m:=2*b.n+1) (by omega);generalize B4 c 139 (2*b.n+1)=r at l o;have h:df (.int r) (.int b.n)=-(.int (r % b.n)):=eV (by omega);have A:eW (.int r) (.int b.n)=-(.int (r/b.n)):=fL ⟨by omega,by omega⟩;have w:=T6 r (show b.n≠0 by omega);have a:=Ts r (show 0<b.n by omega);generalize r % b.n=k at h w a;obtain⟨k,rfl⟩:∃j:Nat,k=(j:Int):=⟨k.toNat,by omega⟩;have p:=J0 (n:=b.n) (r:=r) ⟨u,t⟩ o;obtain⟨e,g,y⟩:∃e:Vf,EV b e/\bc (.list [.tuple [.str "down",.int (k:Int)],.tuple [.str "up",.int (k:Int)],.tuple [.str "turn",.int 0]]) (.int (r/b.n))=-(cy e):=by
  rcases p with q|q|q
  .exact⟨.down k,a,by rw[q];rfl⟩
  .exact⟨.up k,a,by rw[q];rfl⟩
  .exact⟨.turn,trivial,by rw[q];rfl⟩
 refine⟨e,g,im (ρ:=[zf (bD b),zf (.int c),Ld]) rfl ?_⟩;unfold gH;refine bJ (ρ3:=[zf (bD b),zf (.int c),zf (.int r)]) (eU (rv:= .fz (.int r)) (ds:=[.int c,.int 139,.int (2*b.n+1)]) (ai (af rfl) (ai aD (ai (aE (rv:= .fz (.int (2*b.n+1))) (aE (rv:= .fz (.int (2*b.n))) aD (aE (rv:= .fz (.int b.n)) (af rfl) aD rfl rfl f) rfl rfl v) aD rfl rfl (gX _ _)) aA))) rfl rfl l) rfl rfl ?_;have i:aC df (aa 2) (aC bc (aa 0) (~~~0)) [zf (bD b),zf (.int c),zf (.int r)]= .ok (.fz (.int (k:Int)),[zf (bD b),zf (.int c),zf (.int r)]):=aE (rv:= .fz (.int (k:Int))) (af rfl) (aE (rv:= .fz (.int b.n)) (af rfl) aD rfl rfl f) rfl rfl h;exact eS (rv:= .fz (cy e)) (aE (rv:= .fz (cy e)) (lM (ds:=[.tuple [.str "down",.int (k:Int)],.tuple [.str "up",.int (k:Int)],.tuple [.str "turn",.int 0]]) (ai (b8 (ai aD (ai i aA)) rfl (QL rfl)) (ai (b8 (ai aD (ai i aA)) rfl (QL rfl)) (ai (b8 (ai aD (ai aD aA)) rfl (QL rfl)) aA))) rfl (QL rfl)) (aE (rv:= .fz (.int (r/b.n))) (af rfl) (aE (rv:= .fz (.int b.n)) (af rfl) aD rfl rfl f) rfl rfl A) rfl rfl y) rfl rfl
def LR (b:Bd) (es:List Vf):Nat->Tc->List Nat->Prop
 |0,s,t=>s=fV/\t=[]
 |k+1,s,t=>∃s' t' e,LR b es k s' t'/\e∈es/\s=(bR b s' e).1/\t=t'++gC (bR b s' e).2
theorem JT {b:Bd} {es:List Vf}:∀{k s t},LR b es k s t->∀T,t<+:T->RT b T es k (s,t.length)
 |0,s,t,⟨h1,h2⟩,T,_=>by rw[h1,h2];rfl
 |k+1,s,t,⟨s',t',e,h,he,h1,h2⟩,T,hT=>by
  obtain⟨r,a⟩:=hT;rw[h2] at a;refine⟨(s',t'.length),e,JT h T ⟨gC (bR b s' e).2++r,by rw[<-RD];exact a⟩,he,?_⟩;show(zg T t'.length (bR b s' e).2).map (fun d=>((bR b s' e).1,d))=lD (s,t.length);have:zg T t'.length (bR b s' e).2=lD t.length:=by unfold zg;rw[<-a,RD,List.drop_left,List.take_left,if_pos rfl,h2,QO]
  rw[this,h1];rfl
theorem Iu {b:Bd} {n:Nat} (hn:b.n=n) {e:Vf} (h:EV b e):e∈xS n:=by
 unfold xS;cases e with
 |down k=>exact R8 _ (R8 _ (Rn.mpr ⟨k,Sg.mpr (by have h:(k:Int)<b.n:=h;omega),rfl⟩))
 |up k=>exact R8 _ (Rr _ (Rn.mpr ⟨k,Sg.mpr (by have h:(k:Int)<b.n:=h;omega),rfl⟩))
 |turn=>exact Rr _ QS
def wD (l:List Nat):D:= .str (cU l)
theorem GB:∀{L:List (List Nat)},(∀l∈L,∀c∈l,c<26)->QK.canLayAll0 (L.map wD)=QJ
 |[],_=>rfl
 |l::r,h=>by show(QK.strOk (cU l)&&QK.canLayAll0 (r.map wD))=QJ;rw[vO (h l QS),GB fun m hm=>h m (QV _ hm)];rfl
theorem FJ (w:List Nat):∀L:List (List Nat),((L.map wD).any fun e=>QK.eqv e (.str (cU w)))=decide (w∈L)
 |[]=>rfl
 |l::r=>by
  rw[Q3,T1,FJ w r,wD,A5];by_cases h:l=w
  .subst h;simp
  .have:¬w=l:=fun z=>h z.symm;simp[h,this]
theorem NA {w:List Nat} {L:List (List Nat)} (a:∀c∈w,c<26) (b:∀l∈L,∀c∈l,c<26):ox (.str (cU w)) (.list (L.map wD))=-(.bool (!decide (w∈L))):=by show(if((QK.strOk (cU w)&&decide (0<=64))&&QK.canLayAll0 (L.map wD))=QJ then lD (RV.fz (.bool (!(L.map wD).any fun e=>QK.eqv e (.str (cU w))))) else Ld)=_;rw[vO a,GB b,FJ];rfl
theorem Ik {b:Bd} (e:VB b) {s:Tc} (a:SW b s):∃r:Bool,cV (eR s) (.tuple [.tuple [],.none,.none])=-(.bool r)/\(r=QJ->s=fV):=by refine⟨QK.eqv (eR s) (eR fV),?_,fun h=>D4 e e a (ig b) (LD.kd_eqv _ _ (Ag a).1 (Ag (ig b)).1 h)⟩;show cV (eR s) (eR fV)=_;unfold cV;rw[Ff a,No (Ff (ig b)),Tf,if_pos rfl]
theorem MB {c:vB} {e g:fx} {ρ:bp} {Z:aV} {r:Bool} {N:bp->aV->Prop} {T:SV->aV->Prop} {X:Xc->Prop} (b:c ρ Z= .ok r Z) (J:bp->aV->Prop) (f:r=QJ->∀N':bp->aV->Prop,(∀ρ Z,J ρ Z->N' ρ Z)->lZ (e ρ Z) N' T X) (h:r=QQ->J ρ Z) (a:∀ρ Z,J ρ Z->lZ (g ρ Z) N T X):lZ (aK (cB c e cC) g ρ Z) N T X:=by
 refine jN ?_;cases r with
 |true=>exact .eq (dJ b rfl) (f rfl _ a)
 |false=>exact .eq (dL b d8) ⟨a _ _ (h rfl)⟩
abbrev EB (h:List Int) (b:Bd) (es:List Vf) (s:Tc) (t:List Nat) (k a:Nat) (g f e i:Option SV):bp:=[-(.list (h.map .int)),-(bD b),-(.list (es.map cy)),-(eR s),-(.str (cU t)),-(nd k),lD (.rf a),g,f,e,i]
theorem main (a:List Int) (hns:a.length<=63):L10.OV F_law [.list (a.map .int)]= .ok (.fz (.bool QJ)):=by
 obtain⟨E,B0,e0⟩:=Nj a;obtain⟨p,e1⟩:=oY a 1 (by decide);obtain⟨y,e2⟩:=oY a 2 (by decide);obtain⟨J,B1,eb⟩:=Hd (if p<0 then -p else p);have a1:Cj [.int p]=-(.int (if p<0 then -p else p)):=rfl;have a2:Cj [.int y]=-(.int (if y<0 then -y else y)):=rfl;have key:Out (F_law [.fz (.list (a.map .int))] []) (fun x _=>x= .fz (.bool QJ)) (fun _=>False):=by
  refine uf rfl ?_;unfold FM;refine cG (ρ1:=[-(.list (a.map .int)),-(bD E),Ld,Ld,Ld,Ld,Ld,Ld,Ld,Ld,Ld]) (ah (eU (ai (af rfl) (ai aD aA)) rfl rfl e0)) rfl ?_;obtain⟨R,ml,cut⟩:=DZ a (lD 9) (lD 63);obtain⟨xs,x1,x2,x3⟩:=rL (gt:=gN 0) (ft:=eX) (fe:=fq fQ 2 {aa 1,aa 0}) (ds:=R.map .int) (ρ:=[Ld,zf (bD E)]) (fun ρ=>∃o,ρ=[o,zf (bD E)]) (fun _ x=>∃e:Vf,x=cy e/\EV E e) ⟨Ld,rfl⟩ (by rw[QI];omega) (by
   rintro j d H ρ ⟨o,rfl⟩;obtain⟨c,rfl⟩:∃c:Int,d= .int c:=by
    rw[QW] at H;cases q:R[j]? with
    |none=>rw[q] at H;cases H
    |some x=>rw[q] at H;exact⟨x,(Ra H).symm⟩
   obtain⟨e,T,ee⟩:=EX B0.1 c;exact⟨cy e,_,B3 (ρ1:=[zf (.int c),zf (bD E)]) rfl rfl (eU (rv:= .fz (cy e)) (ds:=[bD E,.int c]) (ai (af rfl) (ai (af rfl) aA)) rfl rfl ee) rfl rfl,⟨_,rfl⟩,e,rfl,T⟩)
  obtain⟨C,rfl,q6⟩:=oX (f:=cy) (Q:=fun _ e=>EV E e) xs 0 x3;rw[QI,QI] at x2;have fz:∀{Z:aV} {ds:List D},frz 4 (Z++[.lst (ds.map .fz)]) (.rf Z.length)=lD (.list ds,Z++[.dead]):=fun{Z ds}=>by rw[kR aX,fF]
  refine cG (ρ1:=[-(.list (a.map .int)),-(bD E),-(.list (C.map cy)),Ld,Ld,Ld,Ld,Ld,Ld,Ld,Ld]) (j4 (eD (dc (cs:=[bD E]) (ds:=R.map .int) (jr (d:= .list (R.map .int)) (BE (rv:= .ow (R.map .int)) (af rfl) (iW aD rfl) (iW aD rfl) rfl cut) rfl rfl) rfl x1)) fz) rfl ?_;generalize ([]++[Cell.dead]:aV)=Z0;have p18:=Kw;have N:Cu (aF (qK L6 NM (~~~0) (fq cr 2 {aa 0,~~~1}) (aC DL (~~~10) (~~~18)))) [zf (.list (a.map .int)),zf (bD E),zf (.list (C.map cy)),Ld,Ld,Ld,Ld,Ld,Ld,Ld,Ld]= .ok (!(decide (0<=p)&&decide (p<10^18)),[zf (.list (a.map .int)),zf (bD E),zf (.list (C.map cy)),Ld,Ld,Ld,Ld,Ld,Ld,Ld,Ld]):=by fail "ev"
  have adH:=bH (ρ:=[-(.list (a.map .int)),-(bD E),-(.list (C.map cy)),Ld,Ld,Ld,Ld,Ld,Ld,Ld,Ld]) (Z:=Z0) N;refine MB adH (fun ρ _=>∃(b:Bd) (L:List Vf),(VB b/\b.n<=2/\b.ls.length<=2/\b.wt<=2)/\L.length<=63/\(∀e∈L,EV b e)/\ρ=[-(.list (a.map .int)),-(bD b),-(.list (L.map cy)),Ld,Ld,Ld,Ld,Ld,Ld,Ld,Ld]) (fun _ N' hN=> ?_) (fun _=>⟨E,C,B0,by omega,fun e T=>by obtain⟨j,H⟩:=Sz.mp T;exact q6 j e H,rfl⟩) ?_
  .obtain⟨I,y1,y2,y3⟩:=yg B1.1 (if y<0 then -y else y);refine cG (ρ1:=[-(.list (a.map .int)),-(bD J),-(.list (C.map cy)),Ld,Ld,Ld,Ld,Ld,Ld,Ld,Ld]) (ah (eU (rv:= .fz (bD J)) (ds:=[.int (if p<0 then -p else p),.int 2,.int 2,.int 2]) (ai (de (rv:= .fz (.int (if p<0 then -p else p))) (ai (eU (rv:= .fz (.int p)) (ai (af rfl) (ai aD aA)) rfl rfl e1) aA) rfl a1) (ai aD (ai aD (ai aD aA)))) rfl rfl eb)) rfl ?_;exact zn (ρ1:=[-(.list (a.map .int)),-(bD J),-(.list (I.map cy)),Ld,Ld,Ld,Ld,Ld,Ld,Ld,Ld]) (nI (j4 (eD (eU (rv:= .ow (I.map cy)) (ds:=[.int (if y<0 then -y else y),.int J.n]) (ai (de (rv:= .fz (.int (if y<0 then -y else y))) (ai (eU (rv:= .fz (.int y)) (ai (af rfl) (ai aD aA)) rfl rfl e2) aA) rfl a2) (ai (aE (rv:= .fz (.int J.n)) (af rfl) aD rfl rfl (MN J)) aA)) rfl rfl y3)) fz) rfl) (hN _ _ ⟨J,I,B1,y1,y2,rfl⟩)
  .clear N adH q6 x1 x2 x3 B0 B1 e0 eb
   rintro ρ Z0 ⟨b,L,⟨G,n2,l2,w2⟩,el,T,rfl⟩;obtain⟨n,hn⟩:∃n:Nat,b.n=n:=⟨b.n.toNat,by have:=G.n1;omega⟩;have rg:gA [.int b.n]=lD (a8 (Q0 n)):=by rw[hn];exact my (by omega)
   have cu:jB (dA (gN 0) eX (bj {pC (.str "up"),aa 0}) (a8 (Q0 n)) [Ld] [])= .ok ((Q0 n).map fun k=>cy (.up k)):=kS nd (fun k=>cy (.up k)) (Q0 n) (by rw[Ru];omega) rfl fun k _=>b8 (ai aD (ai (af rfl) aA)) rfl (QL rfl);have i3:bc (bD b) (.int 3)=-(.int b.wt):=JJ rfl;have w1:=G.w1;have mu:gl (.list [cy .turn]) (.int b.wt)=lD (.ow (QT b.wt.toNat [cy .turn]).flatten):=by show(if[cy .turn].length*b.wt.toNat<=1000000/\ -2^63<=b.wt/\b.wt<2^63 then lD (RV.ow (QT b.wt.toNat [cy .turn]).flatten) else Ld)=_;rw[if_pos ⟨by show 1*_<=_;omega,by omega,by omega⟩]
   obtain⟨fs,fl,fe,f1,f2⟩:∃fs:List Vf,fs.length<=70/\(∀e∈fs,EV b e)/\(∃us,cH (.list (L.map cy)) (.list ((Q0 n).map fun k=>cy (.up k)))=lD (.ow us)/\cH (.list us) (.list (QT b.wt.toNat [cy .turn]).flatten)=lD (.ow (fs.map cy)))/\True:=by
    refine⟨L++(Q0 n).map .up++QT b.wt.toNat .turn,?_,fun e h=> ?_,⟨_,Jd (by rw[QI,QI,Ru];omega),(Jd ?_).trans ?_⟩,trivial⟩
    .rw[QO,QO,QI,Ru,Rt];omega
    .rcases Rq.mp h with h|h
     .rcases Rq.mp h with h|h
      .exact T e h
      .obtain⟨k,hk,rfl⟩:=Rn.mp h;have:=Sg.mp hk;show(k:Int)<b.n;omega
     .rw[(WQ.mp h).2];trivial
    .rw[QO,QI,QI,Ru,List.length_flatten,WO,List.sum_replicate_nat];show _+_*1<=_;omega
    .rw[Rm,Rm,RL,WO]
     congr 2;generalize b.wt.toNat=m;have:(QT m [cy .turn]).flatten=QT m (cy .turn):=by
      induction m with
      |zero=>rfl
      |succ m ih=>rw[RP,SI,ih];rfl
     rw[this];rfl
   obtain⟨us,u1,u2⟩:=f1;refine cG (ρ1:=[-(.list (a.map .int)),-(bD b),-(.list (fs.map cy)),Ld,Ld,Ld,Ld,Ld,Ld,Ld,Ld]) (j4 (eD (aE (rv:= .ow (fs.map cy)) (aE (rv:= .ow us) (af rfl) (dc (cs:=[]) (ds:=a8 (Q0 n)) (pp (ds:=[.int b.n]) (ai (aE (rv:= .fz (.int b.n)) (af rfl) aD rfl rfl (MN b)) aA) rfl rg) rfl cu) rfl rfl u1) (aE (rv:= .ow (QT b.wt.toNat [cy .turn]).flatten) (lM (ds:=[cy .turn]) (ai (b8 (ai aD (ai aD aA)) rfl (QL rfl)) aA) rfl (QL rfl)) (aE (rv:= .fz (.int b.wt)) (af rfl) aD rfl rfl i3) rfl rfl mu) rfl rfl u2)) fz) rfl ?_;generalize Z0++[Cell.dead]=Z1;refine cG (ρ1:=[-(.list (a.map .int)),-(bD b),-(.list (fs.map cy)),-(eR fV),Ld,Ld,Ld,Ld,Ld,Ld,Ld]) (ah (d:=eR fV) (b8 (ds:=[.tuple [],.none,.none]) (ai (b8 aA rfl (QL rfl)) (ai aD (ai aD aA))) rfl (QL rfl))) rfl ?_;have em:("":Str)=cU []:=by left
   refine cG (ρ1:=[-(.list (a.map .int)),-(bD b),-(.list (fs.map cy)),-(eR fV),-(.str (cU [])),Ld,Ld,Ld,Ld,Ld,Ld]) (ah (d:= .str (cU [])) (by rw[<-em];exact aD)) rfl ?_;refine cG (ρ1:=[-(.list (a.map .int)),-(bD b),-(.list (fs.map cy)),-(eR fV),-(.str (cU [])),-(nd 0),Ld,Ld,Ld,Ld,Ld]) (ah aD) rfl ?_;refine cG (ρ1:=EB a b fs fV [] 0 Z1.length Ld Ld Ld Ld) (eD (by fail "ev")) rfl ?_;refine jN (Ee (fun i ρ Z=>∃(s:Tc) (t:List Nat) (k:Nat) (A:List (List Nat)) (o7 P O M:Option SV),ρ=EB a b fs s t k Z1.length o7 P O M/\Z[Z1.length]? =lD (.lst ((A.map wD).map .fz))/\A.length<=i/\(∀l∈A,∀c∈l,c<26)/\SW b s/\t.length<=3/\(∀c∈t,c<26)/\LR b (xS n) k s t) (p8 (jr (d:= .list (fs.map cy)) (af rfl) rfl rfl)) ⟨fV,[],0,[],Ld,Ld,Ld,Ld,rfl,aX,Rp _,(fun l h=>by cases h),ig b,Rp _,(fun c h=>by cases h),rfl,rfl⟩ ?_ ?_)
   .rintro i d ρ Z U ⟨s,t,k,A,o7,P,O,M,rfl,hA,lA,A26,sw,t3,t26,lr⟩
    rw[QW] at U;cases qe:fs[i]? with
    |none=>rw[qe] at U;cases U
    |some e=>
     rw[qe] at U;cases Ra U;have il:=(QM.mp qe).1;have ev:=fe e (Ry qe);refine⟨EB a b fs s t k Z1.length (-(cy e)) P O M,_,rfl,?_⟩;have s1:=z6 (ρ:=EB a b fs s t k Z1.length (-(cy e)) P O M) (Z:=Z) G sw ev (fa:=ag (aa 1)) (fb:=ag (aa 3)) (fc:=ag (aa 7)) (ah (af rfl)) (ah (af rfl)) (ah (af rfl));have k1:=Bi G sw ev;have k2:=v9 G sw ev;have F:=pA G sw ev;have B:LR b (xS n) (k+1) (bR b s e).1 (t++gC (bR b s e).2):=⟨s,t,e,lr,Iu hn ev,rfl,rfl⟩;generalize bR b s e=u at s1 k1 k2 F B;have g:(Z++[Cell.dead])[Z1.length]? =lD (.lst ((A.map wD).map .fz)):=(Q1 (QM.mp hA).1).trans hA;refine cG (ρ1:=EB a b fs s t k Z1.length (-(cy e)) (-(.list (u.2.map kY))) (-(eR u.1)) M) s1 rfl ?_;generalize Z++[Cell.dead]=Z2 at g;have dl:=Bg u.2;have d26:=Fk k1;have cm:=xM (sn:=u.2) (by omega);have jn:=Ah (w:=gC u.2) (by omega);refine cG (ρ1:=EB a b fs s t k Z1.length (-(cy e)) (-(.list (u.2.map kY))) (-(eR u.1)) (-(.str (cU (gC u.2))))) (ah (Ku (rv:= .fz (.str (cU (gC u.2)))) aD rfl (ai (dc (cs:=[]) (ds:=u.2.map kY) (jr (d:= .list (u.2.map kY)) (af rfl) rfl rfl) rfl cm) aA) rfl jn)) rfl ?_;have ad:=KZ (v:=t) (w:=gC u.2) (by omega);have ln:=ym (w:=t++gC u.2) (by rw[QO];omega);have le:=Bo ((t++gC u.2).length:Int) 3;have t2:=bH (f:=aF (aC L6 (gq yS {aC CM (aa 4) (aa 10)}) (~~~3))) (Z:=Z2) (ρ:=EB a b fs s t k Z1.length (-(cy e)) (-(.list (u.2.map kY))) (-(eR u.1)) (-(.str (cU (gC u.2))))) (bK (aE (rv:= .fz (.bool (decide (((t++gC u.2).length:Int)<=3)))) (de (rv:= .fz (nd (t++gC u.2).length)) (ds:=[.str (cU (t++gC u.2))]) (ai (aE (rv:= .fz (.str (cU (t++gC u.2)))) (af rfl) (af rfl) rfl rfl ad) aA) rfl ln) aD rfl rfl le) rfl);by_cases Y:(t++gC u.2).length<=3
     case neg=>
      rw[decide_eq_false (by omega)] at t2;exact .eq (dL t2 d8) ⟨s,t,k,A,_,_,_,_,rfl,g,by omega,A26,sw,t3,t26,lr⟩
     rw[decide_eq_true (by omega)] at t2;have K:∀c∈t++gC u.2,c<26:=fun c hc=>(Rq.mp hc).elim (t26 c) (d26 c);refine .eq (dJ t2 rfl) ?_;refine cG (ρ1:=EB a b fs u.1 t k Z1.length (-(cy e)) (-(.list (u.2.map kY))) (-(eR u.1)) (-(.str (cU (gC u.2))))) (ah (af rfl)) rfl ?_;refine cG (ρ1:=EB a b fs u.1 (t++gC u.2) k Z1.length (-(cy e)) (-(.list (u.2.map kY))) (-(eR u.1)) (-(.str (cU (gC u.2))))) (ah (aE (rv:= .fz (.str (cU (t++gC u.2)))) (af rfl) (af rfl) rfl rfl ad)) rfl ?_;refine cG (ρ1:=EB a b fs u.1 (t++gC u.2) (k+1) Z1.length (-(cy e)) (-(.list (u.2.map kY))) (-(eR u.1)) (-(.str (cU (gC u.2))))) (ah (d:=nd (k+1)) (aE (rv:= .fz (nd (k+1))) (af rfl) aD rfl rfl (gX (k:Int) 1))) rfl ?_;generalize t++gC u.2=t' at Y K B;obtain⟨r,er,hr⟩:=Ik G F;have t4:=bH (f:=aF (aC cV (aa 3) (bj {bj aq,pC .none,pC .none}))) (Z:=Z2) (ρ:=EB a b fs u.1 t' (k+1) Z1.length (-(cy e)) (-(.list (u.2.map kY))) (-(eR u.1)) (-(.str (cU (gC u.2))))) (bK (aE (rv:= .fz (.bool r)) (af rfl) (b8 (ds:=[.tuple [],.none,.none]) (ai (b8 aA rfl (QL rfl)) (ai aD (ai aD aA))) rfl (QL rfl)) rfl rfl er) rfl);cases r with
     |false=>exact .eq (dL (gc t4) d8) ⟨u.1,t',k+1,A,_,_,_,_,rfl,g,by omega,A26,F,Y,K,B⟩
     |true=>
      have t5:=aZ (dS (f:=ox) (ah (f:=aa 4) (ρ:=EB a b fs u.1 t' (k+1) Z1.length (-(cy e)) (-(.list (u.2.map kY))) (-(eR u.1)) (-(.str (cU (gC u.2))))) (Z:=Z2) (af rfl)) (b9 (i:=6) rfl) (t8 rfl (iB g) (NA K A26)));by_cases S:t'∈A
      .rw[decide_eq_true S] at t5;exact .eq (dL (gj t4 t5) d8) ⟨u.1,t',k+1,A,_,_,_,_,rfl,g,by omega,A26,F,Y,K,B⟩
      .rw[decide_eq_false S] at t5
       refine .eq (dJ (gj t4 t5) rfl) ?_;have ap:=uH (fo:=aw 6) (fe:=ag (aa 4)) (ρ:=EB a b fs u.1 t' (k+1) Z1.length (-(cy e)) (-(.list (u.2.map kY))) (-(eR u.1)) (-(.str (cU (gC u.2))))) (x:= .fz (.str (cU t'))) (b9 rfl) g (ah (af rfl)) g (by rw[QI,QI];omega);refine Eu (hV ap) ?_;have X:(Z2.set Z1.length (.lst ((A.map wD).map SV.fz++[.fz (.str (cU t'))])))[Z1.length]? =lD (.lst (((A++[t']).map wD).map .fz)):=by rw[Sv (QM.mp g).1,Rm,Rm];rfl
       generalize Z2.set Z1.length (.lst ((A.map wD).map SV.fz++[.fz (.str (cU t'))]))=Z3 at X;have rt:=JT B t' (List.prefix_refl _);rw[hr rfl] at rt;obtain⟨Z4,hs,hk⟩:=C0 G hn (by omega) l2 w2 K Y rt Z3;refine .eq (dL (pB (aZ (IS (au (ah (af rfl)) (au (ah (af rfl)) (au (ah (af rfl)) aQ))) rfl hs))) d8) ⟨u.1,t',k+1,A++[t'],_,_,_,_,rfl,hk _ _ X,by rw[QO];show A.length+1<=_;omega,fun l hl=>(Rq.mp hl).elim (A26 l) fun z=>by rw[Q2.mp z];exact K,F,Y,K,B⟩
   .rintro ρ Z ⟨s,t,k,A,o7,P,O,M,rfl,_⟩;exact uy (ah aD) rfl
 obtain⟨x,Z',h1,rfl⟩:=key.all;unfold L10.OV;rw[show[QK.list (a.map .int)].map SV.fz=[.fz (.list (a.map .int))] from rfl,h1]
end K73
local macro_rules| `(tactic|fail "sc")=> `(tactic|exact⟨rfl,rfl,rfl,by left,rfl,by left,by left⟩)| `(tactic|fail "me")=> `(tactic|first
 |exact .head _
 |(apply List.Mem.tail;fail "me"))
local macro_rules| `(tactic|fail "cm")=> `(tactic|first
 |change L3.jJ
 |change L3.Li
 |change L3.yX
 |change L3.K6
 |change L3.Dp
 |change L3.GF
 |change L3.uN
 |change L3.BO
 |change L3.HN
 |change L3.uI)
local macro_rules| `(tactic|fail "sp")=> `(tactic|first
 |fail "cm"
 |change L3.cg
 |change L3.mE
 |change L3.Hu
 |change L3.Bl
 |change L3.rC
 |change L3.Hn
 |change L3.HK
 |change L3.AQ
 |change L3.zS
 |change L3.HC
 |change L3.DS
 |change L3.ky
 |change L3.jY
 |change L3.IA
 |change L3.sT
 |change L3.FQ
 |change L3.Ih
 |change L3.Mc
 |change L3.Az
 |change L3.oW
 |change L3.G1
 |change L3.Oy
 |change L3.vF
 |change L9.yN
 |change L10.Ap
 |change L3.Bl)
local macro_rules| `(tactic|fail "eo")=> `(tactic|first
 |change L3.ar
 |change L3.bu
 |(exists L3.bF);(·fail "sp");(·fail "eo");(·fail "eo")
 |change L3.fW
 |(exists L3.mY);(·fail "ao")
 |(exists L3.j0);(·fail "sp");(·fail "ao")
 |(exists L3.iH);(·fail "ao")
 |(exists L3.qW);(·fail "ao")
 |(exists L3.Ed);(·fail "eo")
 |change L3.lK
 |change L3.KO
 |(exists L3.KN);(·fail "tt");(·fail "eo");(·fail "eo")
 |(exists L3.J8);(·fail "sp");(·fail "eo");(·fail "oo");(·fail "oo")
 |(exists L3.w6);(·fail "sp");(·fail "sp");(·fail "eo");(·fail "eo");(·fail "eo")
 |(exists L3.Lp);(·fail "eo");(·fail "eo")
 |(exists L3.zE);(·assumption))
local macro_rules| `(tactic|fail "ao")=> `(tactic|first
 |(exists L3.aG);(·fail "eo");(·fail "ao")
 |change L3.bh)
local macro_rules| `(tactic|fail "tt")=> `(tactic|first
 |(exists L3.cQ);(exists L3.bF);(·fail "cm");(·fail "eo");(·fail "eo")
 |(exists L3.cQ);(exists L3.w6);(·fail "cm");(·fail "cm");(·fail "eo");(·fail "eo");(·fail "eo")
 |(exists L3.vI);(·fail "tt");(·fail "tt")
 |(exists L3.HD);(·fail "tt")
 |(exists L3.Kd);(·fail "eo")
 |change L3.eZ)
local macro_rules| `(tactic|fail "gg")=> `(tactic|first
 |change L3.bz
 |(exists L3.jt);(·fail "gg");(·fail "gg")
 |change L3.vh
 |(exists L3.tJ);(·fail "gg")
 |change L10.bX
 |(exists L10.DM);(·fail "gg");(·fail "gg")
 |change L10.IL
 |(exists L10.Ig);(·fail "gg"))
local macro_rules| `(tactic|fail "io")=> `(tactic|first
 |(exists L3.gO);(·fail "ao")
 |(exists L3.hG);(·fail "eo")
 |(exists L3.MR);(·fail "ao")
 |change L3.wU
 |(exists L10.pY);(·fail "io")
 |(exists L10.tM);(·fail "es"))
local macro_rules| `(tactic|fail "oo")=> `(tactic|first
 |(exists L3.rc);(·fail "eo")
 |change L3.E2)
local macro_rules| `(tactic|fail "es")=> `(tactic|first
 |(exists L10.aB);(·fail "eo")
 |change L10.bf
 |(exists L10.wf);(·fail "es");(·fail "es")
 |(exists L10.kj);(·fail "sp");(·fail "es");(·fail "es")
 |(exists L10.ci);(·assumption);(·fail "me");(·fail "es")
 |(exists L10.Cn);(·fail "as")
 |(exists L10.tt);(·fail "as")
 |(exists L10.A8);(·fail "as")
 |(exists L10.zZ);(·fail "es");(·fail "es")
 |(exists L10.uu);(·fail "as")
 |(exists L10.uv);(·fail "es");(·fail "es")
 |(exists L10.tR);(·assumption);(·fail "es");(·fail "as")
 |(exists L10.x4);(·fail "es")
 |(exists L10.xK);(·fail "es")
 |(exists L10.Er);(·fail "es");(·fail "es")
 |(exists L10.IY);(·fail "es");(·fail "es")
 |(exists L10.qv);(·fail "sp");(·fail "as")
 |(exists L10.kN);(·fail "es")
 |(exists L10.A9);(·fail "es");(·fail "es")
 |(exists L10.MK);(·fail "ts");(·fail "es");(·fail "es")
 |(exists L10.Jf);(·assumption);(·fail "as")
 |(exists L10.EA);(·fail "es"))
local macro_rules| `(tactic|fail "as")=> `(tactic|first
 |(exists L10.aY);(·fail "es");(·fail "as")
 |change L10.c8)
local macro_rules| `(tactic|fail "ts")=> `(tactic|first
 |(exists L10.iR);(exists L10.kj);(·fail "cm");(·fail "es");(·fail "es")
 |(exists L10.wY);(·fail "tt")
 |(exists L10.Hz);(·fail "ts");(·fail "ts")
 |(exists L10.NC);(·fail "ts");(·fail "ts")
 |(exists L10.Jq);(·fail "ts")
 |(exists L10.Eb);(·fail "es"))
local macro_rules| `(tactic|fail "so")=> `(tactic|first
 |(exists L3.bG);(·fail "so");(·fail "so")
 |(exists L3.ji);(·fail "eo");(·fail "gg")
 |(exists L3.J1);(·fail "tt");(·fail "so");(·fail "so")
 |(exists L3.j3);(·fail "eo")
 |(exists L3.An);(·fail "eo")
 |change L3.BF
 |(exists L3.zq);(·fail "io");(·fail "gg");(·fail "so")
 |(exists L10.aL);(·fail "so");(·fail "so")
 |(exists L10.dH);(·fail "es");(·fail "gg")
 |(exists L10.nJ);(·fail "ts");(·fail "so");(·fail "so")
 |(exists L10.jZ);(·fail "es")
 |(exists L10.gu);(·fail "es")
 |(exists L10.Dc);(·fail "es");(·fail "es");(·fail "es")
 |(exists L10.kU);(·assumption);(·fail "me");(·fail "es");(·fail "es")
 |change L10.iZ
 |(exists L10.vE);(·fail "io");(·fail "gg");(·fail "so")
 |(exists L10.sU);(·fail "ts");(·fail "so")
 |change L10.C8)
local macro_rules| `(tactic|fail "to")=> `(tactic|first
 |exact L2.b3
 |exact L2.jS (by assumption)
 |exact L2.MX (by assumption)
 |exact L3.uW (by assumption)
 |exact L3.zU (by assumption)
 |exact L9.tI
 |exact L3.mM
 |exact L3.IJ
 |exact L3.MC
 |exact L2.NG
 |exact L2.Kz
 |exact L2.Dm
 |exact L3.vC
 |exact L2.My
 |exact L2.Da
 |exact L2.K9
 |exact L2.uP
 |exact L2.OE
 |exact L2.Km
 |exact L2.Me
 |exact L2.Dz
 |exact L2.Gu
 |exact L2.zr
 |exact L2.fH
 |exact L2.eY
 |exact L2.vp
 |exact L3.B5
 |exact L2.kG
 |exact L10.sj
 |exact L3.zK
 |exact L2.Aw
 |exact ab4
 |exact L2.mG
 |exact L2.mf
 |exact L2.yj
 |exact L2.JR
 |exact L2.xy
 |exact L2.JX
 |exact L3.OP
 |exact L10.MF
 |change Vd
 |change U0
 |change U1
 |change PySem.F.slot_list_insert
 |change PySem.F.type_list_insert
 |change PySem.F.slot_list_extend
 |change PySem.F.type_list_extend
 |change Va
 |change UZ
 |change XT
 |exact L2.CP rfl
 |exact L3.xW rfl
 |exact L10.rK rfl
 |exact L10.qA rfl
 |exact L10.zF rfl
 |rfl)
local macro_rules| `(tactic|fail "pe")=> `(tactic|first
 |(exists L2.pv);(·rfl);(·(first|exact Or.inl rfl|exact Or.inr (Or.inl rfl)|exact Or.inr (Or.inr rfl)));(·decide);(·decide)
 |change L2.bv
 |(exists L2.cM);(·fail "to");(·fail "pe");(·fail "pe");(·exact fun _ _=>rfl)
 |change L2.fU
 |(exists L2.mF);(·fail "to");(·fail "pe");(·fail "pe")
 |(exists L2.A0);(·assumption);(·fail "pe");(·fail "pe");(·exact fun _ _=>rfl)
 |(exists L2.ke);(·assumption);(·assumption);(·fail "pa");(·decide);(·rfl);(·decide);(·rfl);(·rfl)
 |(exists L2.gB);(·fail "pa")
 |change L2.lC
 |(exists L2.rJ);(·fail "pa")
 |(exists L2.eG);(·fail "to");(·rfl);(·assumption);(·fail "to");(·fail "pa");(·decide);(·decide);(·rfl);(·rfl)
 |(exists L2.gR);(·fail "to");(·rfl);(·assumption);(·fail "to");(·fail "pa");(·decide);(·decide);(·rfl);(·rfl)
 |(exists L2.ve);(·rfl);(·assumption);(·(first|rfl|exact⟨_,rfl⟩));(·decide)
 |change L2.JO
 |(exists L2.mK);(·fail "to");(·fail "pe");(·fail "pe");(·(first|rfl|with_unfolding_all rfl))
 |(apply L2.cS);(·fail "pe");(·rfl)
 |(apply L2.xi);(·fail "to");(·fail "to");(·fail "to");(·fail "to");(·fail "pe");(·fail "pa");(·rfl);(·rfl);(·decide);(·rfl);(·rfl)
 |(exists L2.wL);(·fail "pt");(·fail "pe");(·fail "pe")
 |(apply L2.Ep);(·fail "to");(·fail "to");(·fail "to");(·fail "to");(·fail "pe");(·rfl);(·decide)
 |(exists L2.EZ);(·fail "pe")
 |(exists L2.DW);(·fail "pe");(·fail "pe")
 |(apply L2.wz);(·fail "to");(·fail "pe");(·fail "po");(·fail "po")
 |(apply L2.De);(·fail "pe");(·fail "pe");(·exact⟨rfl,rfl,rfl,rfl⟩)
 |(apply L10.Bk);(·assumption);(·fail "to");(·assumption);(·fail "pe");(·fail "pa");(·decide);(·rfl);(·rfl);(·rfl)
 |(apply L10.Ei);(·assumption);(·fail "to");(·assumption);(·fail "pe");(·decide);(·rfl)
 |(apply L10.KM);(·assumption);(·fail "to");(·assumption);(·fail "pa");(·decide);(·rfl);(·decide);(·rfl);(·rfl)
 |(apply L10.AB);(·rfl);(·rfl);(·assumption);(·fail "pa");(·rfl))
local macro_rules| `(tactic|fail "pa")=> `(tactic|first
 |(exists L2.am);(·fail "pe");(·fail "pa");(·rfl)
 |change L2.aI)
local macro_rules| `(tactic|fail "pt")=> `(tactic|first
 |(exists L2.d9);(·fail "to");(·fail "pe");(·fail "pe");(·(first|rfl|with_unfolding_all rfl))
 |(exists L2.L5);(·fail "pt")
 |(exists L2.yo);(·fail "pc");(·(first|rfl|with_unfolding_all rfl))
 |(exists L2.Gh);(·fail "to");(·fail "to");(·fail "pe");(·fail "pe");(·fail "pe");(·rfl)
 |(exists L2.PW.pt);(·fail "pw")
 |(exists L2.FC);(·fail "pe");(·(intro _;rfl)))
local macro_rules| `(tactic|fail "pw")=> `(tactic|first
 |(exists L2.vD);(·fail "pt")
 |(exists L2.zu);(·fail "pt");(·fail "pw")
 |(exists L2.ME);(·fail "pt")
 |(exists L2.OG);(·fail "pt");(·fail "pw"))
local macro_rules| `(tactic|fail "pc")=> `(tactic|first
 |(exists L2.Mo);(·assumption);(·fail "pe");(·fail "pe"))
local macro_rules| `(tactic|fail "pg")=> `(tactic|first
 |(exists L2.bM);(·(first|assumption|left));(·rfl);(·(first|exact Or.inl rfl|exact Or.inr rfl|assumption|rfl));(·(first|exact Or.inl rfl|exact Or.inr rfl|assumption|rfl))
 |(exists L2.g7);(·fail "pg");(·fail "pg");(·rfl)
 |change L2.pd
 |(apply L2.tU);(·rfl);(·fail "pg");(·rfl);(·rfl))
local macro_rules| `(tactic|fail "pi")=> `(tactic|first
 |(exists L2.eJ);(·rfl);(·assumption);(·fail "pa");(·rfl)
 |(apply L3.Np);(·rfl);(·assumption);(·fail "pa");(·rfl);(·rfl)
 |(apply L3.fK);(·fail "pe"))
local macro_rules| `(tactic|fail "po")=> `(tactic|first
 |change L2.IV
 |(exists L2.vA);(·fail "pe"))
local macro_rules| `(tactic|fail "te")=> `(tactic|first
 |(exists L2.aN);(·fail "te")
 |change L2.je
 |(exists L2.aj);(·fail "te");(·fail "te")
 |(exists L2.dB);(·(first|assumption|left));(·rfl);(·(first|exact Or.inl rfl|exact Or.inr rfl|assumption|rfl));(·fail "pe");(·rfl);(·(first|exact Or.inl rfl|exact Or.inr rfl|assumption|rfl))
 |(exists L2.jf);(·fail "pe");(·rfl)
 |(exists L2.et);(·fail "pe")
 |(exists L2.qV);(·fail "pt");(·fail "te");(·fail "te")
 |(exists L2.qX);(·fail "to");(·rfl);(·fail "pi");(·fail "pg");(·fail "te");(·(intro _;rfl))
 |(apply L2.na);(·fail "pe");(·fail "pe");(·rfl)
 |(exists L2.Jb);(·assumption);(·fail "pe");(·fail "pe");(·fail "pe");(·rfl)
 |(exists L2.KQ);(·fail "pe");(·fail "pg");(·rfl);(·rfl);(·rfl)
 |change L2.Jc
 |(exists L2.wT);(·fail "to");(·fail "pt");(·fail "te"))
local macro_rules| `(tactic|fail "ok")=> `(tactic|(intros;refine L3.Af (by fail "so") ?_;first|(apply L2.aj);(·fail "te");(·fail "te")|(apply L2.aN);(·fail "te")))| `(tactic|fail "os")=> `(tactic|(intros;refine L3.Fu (by fail "so") ?_;first|(apply L2.aj);(·fail "te");(·fail "te")|(apply L2.aN);(·fail "te")))
namespace K73
open PySem L2 L3 STP
def top (i:Nat):Th:=PySem.Challenge.pw_chordbed_k73_whole_no_row_is_shorter.main.body.getD i (.Pass ⟨0,0,0,0⟩)
def fb:Th->List Th
 | .For _ _ b _ _=>b
 | .If _ b _ _=>b
 |_=>[]
def av:Th->RM
 | .Assign _ v _=>v
 |_=> .Name "" ⟨0,0,0,0⟩
def ss:RM->RM
 | .Subscript _ v _=>v
 |e=>e
def sP:RM->Pos
 | .Subscript _ _ p=>p
 |_=>⟨0,0,0,0⟩
def lp:RM->Pos
 | .List _ p=>p
 |_=>⟨0,0,0,0⟩
def iT:Th->RM
 | .If c _ _ _=>c
 |_=> .Name "" ⟨0,0,0,0⟩
def fI:Th->RM
 | .For _ i _ _ _=>i
 |_=> .Name "" ⟨0,0,0,0⟩
def iP:Th->Pos
 | .If _ _ _ p=>p
 |_=>⟨0,0,0,0⟩
def aP:Th->Pos
 | .Assign _ _ p=>p
 |_=>⟨0,0,0,0⟩
def nP:Th->Pos
 | .Assign [.Name _ p] _ _=>p
 |_=>⟨0,0,0,0⟩
def sv:RM->RM
 | .Subscript v _ _=>v
 |e=>e
def le:RM->List RM
 | .List l _=>l
 |_=>[]
def QD:RM->Option RM
 | .Slice a _ _ _=>a
 |_=>Ld
def QE:RM->Option RM
 | .Slice _ a _ _=>a
 |_=>Ld
def QC:RM->Pos
 | .Slice _ _ _ p=>p
 |_=>⟨0,0,0,0⟩
def Qz:RM->List RM
 | .Tuple l _ _=>l
 |_=>[]
def QA:Th->RM
 | .Return (lD e) _=>e
 |_=> .Name "" ⟨0,0,0,0⟩
def rP:Th->Pos
 | .Return _ p=>p
 |_=>⟨0,0,0,0⟩
def bl:RM->RM
 | .BinOp a _ _ _=>a
 |e=>e
def br:RM->RM
 | .BinOp _ _ b _=>b
 |e=>e
def bP:RM->Pos
 | .BinOp _ _ _ p=>p
 |_=>⟨0,0,0,0⟩
def dK:RM->List (Option RM)
 | .Dict k _ _=>k
 |_=>[]
def dV:RM->List RM
 | .Dict _ v _=>v
 |_=>[]
def dP:RM->Pos
 | .Dict _ _ p=>p
 |_=>⟨0,0,0,0⟩
def DP:Th:= .Pass ⟨0,0,0,0⟩
def DE:RM:= .Name "" ⟨0,0,0,0⟩
theorem Pc {l p t n env}:Sy (.List l p) t n env=pure QQ:=rfl
theorem NX {l k p t n env}:Sy (.Tuple l k p) t n env=pure QQ:=rfl
theorem Pn {a b c p t n env}:Sy (.Call a b c p) t n env=pure QQ:=rfl
theorem N5 {a o b p t n env}:Sy (.BinOp a o b p) t n env=pure QQ:=rfl
theorem GZ {a b p t n env}:Sy (.Subscript a b p) t n env=pure QQ:=rfl
theorem Pq {a p t n env}:Sy (.Name a p) t n env=pure QQ:=rfl
theorem Ki {a b p t n env}:Sy (.Constant a b p) t n env=pure QQ:=rfl
theorem Lb {o a p t n env}:Sy (.UnaryOp o a p) t n env=pure QQ:=rfl
theorem LY {a b c p t n env}:Sy (.Compare a b c p) t n env=pure QQ:=rfl
theorem NH {a b p t n env}:Sy (.BoolOp a b p) t n env=pure QQ:=rfl
theorem OJ {a b c p t n env}:Sy (.IfExp a b c p) t n env=pure QQ:=rfl
section
variable {P:Rf} {w:RB} {K:QF} {mg:Str->Option QH} {base:Heap} {f:QN} {fd:RZ}
theorem w9 (F:T9 K "layer_of" "layer_of" (top 4) f fd) (e:mg "max"=Ld):FnOk P w K mg base dm 1 f fd ["standing"] (nY K 1 dI):=l9 (N:=["standing"]) (g:=lV) F (by fail "sc") rfl rfl rfl fun m A a s H E nd j b l h=>Fu (bG (by fail "so")
   (j3 (j0 L10.Ap (aG (d6 rfl rfl (hG (bF cg ar bu)) (tJ (jt bz (jt bz vh))) (cQ (bF jJ (bF cg ar bu) fW)) (bF cg ar bu)) bh)))) (aj (by fail "te")
   (aN (et (L10.AB rfl rfl e (am (eN ["key","act"] [] rfl (fK (cM b3 (pv 0) bv (fun _ _=>rfl))) (fun _ _ _ _=>(tU rfl (g7 (bM (i:=0) (show RQ (["key","act"]:List Str) by left) rfl (Or.inl rfl)) (g7 (bM (i:=1) (show RQ (["key","act"]:List Str) by left) rfl (Or.inl rfl)) pd)))) (fun _ _ _ _=>(iQ (d9 (jS b) (cM b3 (pv 1) bv (fun _ _=>rfl)) fU (fX _)))) (fun _ _ _ _=>(cM b3 (pv 1) bv (fun _ _=>rfl))) trivial rfl) aI)))))
theorem tX (F:T9 K "looked_up" "looked_up" (top 7) f fd):FnOk P w K mg base dm 1 f fd ["bed","layer","key"] (nY K 3 ib):=l9 (N:=["bed","layer","key","meaning"]) (g:=j9) F (by fail "sc") rfl rfl rfl fun j A a s H E nd h e i b=>Fu (bG (by fail "so")
   (bG (by fail "so")
   (j3 ar))) (aj (by fail "te")
   (aj (by fail "te")
   (aN (et (pv 3)))))
theorem qj (F:T9 K "chords_over" "chords_over" (top 8) f fd) (b:mg "all"=Ld):FnOk P w K mg base dm 1 f fd ["bed","keys"] (nY K 2 bE):=l9 (N:=["bed","keys"]) (g:=io) F (by fail "sc") rfl rfl rfl fun m A a s H E nd j h l e=>Fu (j3 (d6 rfl rfl (hG (bF cg ar bu)) bz (Kd (j0 FQ (aG (d6 rfl rfl (hG ar) bz eZ (bF uN ar (bF cg ar bu))) bh))) ar)) (aN (et (eN ["chord"] [("keys",1)] rfl (fK (cM b3 (pv 0) bv (fun _ _=>rfl))) (fun _ _ _ _=>(bM (i:=0) (show RQ (["chord","keys"]:List Str) by left) rfl (Or.inr rfl))) (fun _ _ _ _=>(iQ (FC (eG (xW rfl) rfl b JX (am (eN ["key"] [("chord",0)] rfl (fK (pv 1)) (fun _ _ _ _=>(bM (i:=0) (show RQ (["key","chord"]:List Str) by left) rfl (Or.inl rfl))) (fun _ _ _ _=>eA) (fun _ _ _ _=>(mK (uW e) (pv 0) (cM b3 (pv 1) bv (fun _ _=>rfl)) (by with_unfolding_all rfl))) ⟨⟨rfl,rfl,Or.inl rfl⟩,trivial⟩ rfl) aI))))) (fun _ _ _ _=>(pv 0)) ⟨⟨rfl,rfl,Or.inl rfl⟩,trivial⟩ rfl)))
theorem r9 (F:T9 K "chord_acts" "chord_acts" (top 9) f fd) (p:mg "list"=Ld) (o:mg "sorted"=Ld) (r:mg "len"=Ld) {b:QN} (l:mg "NONE"=lD (.ref b)) (m:∀O H,DV O K H (.ref b) (.tuple [(.str "none")])):FnOk P w K mg base dm 1 f fd ["bed","keys"] (nY K 2 fM):=l9 (N:=["bed","keys","chord"]) (g:=jh) F (by fail "sc") rfl rfl rfl fun q A a s H E nd j h n e=>Fu (bG (by fail "so")
   (j3 (d6 rfl rfl (hG ar) bz eZ (bF cg (bF cg (bF cg ar bu) bu) ar)))) (aj (by fail "te")
   (aN (et (eN ["key"] [("bed",0)] rfl (fK (pv 1)) (fun _ _ _ _=>(bM (i:=0) (show RQ (["key","bed"]:List Str) by left) rfl (Or.inl rfl))) (fun _ _ _ _=>eA) (fun _ _ _ _=>(cM b3 (cM b3 (cM b3 (pv 1) bv (fun _ _=>rfl)) bv (fun _ _=>rfl)) (pv 0) (fun _ _=>rfl))) ⟨⟨rfl,rfl,Or.inl rfl⟩,trivial⟩ rfl))))
theorem uB (F:T9 K "_law_cell" "_law_cell" (top 21) f fd) (b:mg "len"=Ld):FnOk P w K mg base dm 1 f fd ["_law_script","_law_k"] (nY K 2 cr):=l9 (N:=["_law_script","_law_k"]) (g:=og) F (by fail "sc") rfl rfl rfl fun l A a s H E nd i h j e=>Fu (j3 (KN (cQ (bF yX ar (j0 ky (aG ar bh)))) (bF cg ar ar) bu)) (aN (et (wL (d9 Dm (pv 1) (eG fH rfl b mG (am (pv 0) aI)) (fX _)) (cM b3 (pv 0) (pv 1) (fun _ _=>rfl)) bv)))
theorem tO (F:T9 K "_law_draw" "_law_draw" (top 22) f fd):FnOk P w K mg base dm 1 f fd ["_law_cell_here","_law_salt","_law_many"] (nY K 3 bA):=l9 (N:=["_law_cell_here","_law_salt","_law_many","_law_number"]) (g:=jH) F (by fail "sc") rfl rfl rfl (by delta jH;fail "os")
theorem oH (F:T9 K "_law_meaning" "_law_meaning" (top 23) f fd) (b:iV P w K mg base 1 "_law_draw" ["_law_cell_here","_law_salt","_law_many"] 3 bA) (a:mg "max"=Ld):FnOk P w K mg base dm 2 f fd ["_law_cell_here","_law_layer","_law_layers"] (nY K 3 eB):=l9 (N:=["_law_cell_here","_law_layer","_law_layers","_law_letter","_law_other","_law_kind"]) (g:=eC) F (by fail "sc") rfl rfl rfl (by delta eC;fail "os")
theorem xX (F:T9 K "_law_bed" "_law_bed" (top 24) f fd) (l:iV P w K mg base 1 "_law_cell" ["_law_script","_law_k"] 2 cr) (p:iV P w K mg base 1 "_law_draw" ["_law_cell_here","_law_salt","_law_many"] 3 bA) (m:iV P w K mg base 2 "_law_meaning" ["_law_cell_here","_law_layer","_law_layers"] 3 eB) (b:mg "range"=Ld) (h:mg "tuple"=Ld) (r:mg "len"=Ld):FnOk P w K mg base dm 3 f fd ["_law_script","_law_most"] (nY K 2 jd):=l9 (N:=["_law_script","_law_most","_law_cell_here","_law_keys","_law_layers","_law_rows","_law_layer","_law_cells","_law_some","_law_chords"]) (g:=i8) F (by fail "sc") rfl rfl rfl fun q A a s H E nd e j o n=>Fu (bG (by fail "so")
   (bG (by fail "so")
   (bG (by fail "so")
   (bG (ji (qW bh) bz)
   (bG (zq (gO (aG ar bh)) bz (bG (ji (d6 rfl rfl (gO (aG ar bh)) bz eZ (mY (aG ar (aG (bF mE (bF mE bu (bF rC ar ar)) ar) bh)))) bz)
   (An (Ed (j0 jY (aG (d6 rfl rfl (hG ar) bz eZ (mY (aG ar (aG ar (aG ar bh))))) bh))))))
   (bG (ji (j0 jY (aG (d6 rfl rfl (gO (aG ar bh)) bz (cQ (bF jJ (bF cg (bF cg (bF cg ar bu) ar) bu) fW)) ar) bh)) bz)
   (bG (ji (iH bh) bz)
   (bG (by fail "so")
   (by fail "so"))))))))) (aj (by fail "te")
   (aj (by fail "te")
   (aj (by fail "te")
   (aj (dB (i:=5) nd rfl (Or.inr rfl) (rJ aI))
   (aj (qX V2.never rfl (eJ rfl b (am (pv 4) aI)) (bM (i:=6) nd rfl (Or.inr rfl)) (aj (pH (i:=7) ["_law_key"] [("_law_script",0),("_law_keys",3),("_law_layer",6)] nd rfl rfl rfl (eJ rfl b (am (pv 3) aI)) (fun _ _ _ _=>(bM (i:=0) (show RQ (["_law_key","_law_script","_law_keys","_law_layer"]:List Str) by left) rfl (Or.inl rfl))) (fun _ _ _ _=>eA) (fun _ _ _ _=>(ke l e (am (pv 1) (am (mF mM (mF mM bv (mF vC (pv 2) (pv 3))) (pv 0)) aI)))) ⟨⟨rfl,rfl,Or.inl rfl⟩,⟨⟨rfl,rfl,Or.inl rfl⟩,⟨⟨rfl,rfl,Or.inl rfl⟩,trivial⟩⟩⟩ rfl)
   (aN (jf (xi Vd U0 U1 kG (pv 5) (am (gR eY rfl h mf (am (eN ["_law_one"] [("_law_layer",6),("_law_layers",4)] rfl (fK (pv 7)) (fun _ _ _ _=>(bM (i:=0) (show RQ (["_law_one","_law_layer","_law_layers"]:List Str) by left) rfl (Or.inl rfl))) (fun _ _ _ _=>eA) (fun _ _ _ _=>(ke m e (am (pv 0) (am (pv 1) (am (pv 2) aI))))) ⟨⟨rfl,rfl,Or.inl rfl⟩,⟨⟨rfl,rfl,Or.inl rfl⟩,trivial⟩⟩ rfl) aI)) aI))))))
   (aj (dB (i:=8) nd rfl (Or.inl rfl) (gR eY rfl h mf (am (eN ["_law_key"] [("_law_rows",5)] rfl (eJ rfl b (am (pv 3) aI)) (fun _ _ _ _=>(bM (i:=0) (show RQ (["_law_key","_law_rows"]:List Str) by left) rfl (Or.inl rfl))) (fun _ _ _ _=>(iQ (d9 (jS j) (cM b3 (cM b3 (cM b3 (pv 1) bv (fun _ _=>rfl)) (pv 0) (fun _ _=>rfl)) bv (fun _ _=>rfl)) fU (fX _)))) (fun _ _ _ _=>(pv 0)) ⟨⟨rfl,rfl,Or.inl rfl⟩,trivial⟩ rfl) aI)))
   (aj (dB (i:=9) nd rfl (Or.inl rfl) (gB aI))
   (aj (by fail "te")
   (aN (by fail "te"))))))))))
theorem jU (F:T9 K "_law_read_meaning" "_law_read_meaning" (top 25) f fd) (a:mg "max"=Ld):FnOk P w K mg base dm 1 f fd ["_law_number","_law_layer","_law_layers"] (nY K 3 c7):=l9 (N:=["_law_number","_law_layer","_law_layers","_law_letter","_law_other"]) (g:=cz) F (by fail "sc") rfl rfl rfl (by delta cz;fail "os")
theorem nV (F:T9 K "_law_read_bed" "_law_read_bed" (top 26) f fd) (o:iV P w K mg base 1 "_law_read_meaning" ["_law_number","_law_layer","_law_layers"] 3 c7) (e:mg "range"=Ld) (j:mg "tuple"=Ld) (l:mg "len"=Ld):FnOk P w K mg base dm 2 f fd ["_law_number","_law_most_keys","_law_most_layers","_law_most_wait"] (nY K 4 fw):=l9 (N:=["_law_number","_law_most_keys","_law_most_layers","_law_most_wait","_law_keys","_law_layers","_law_wait","_law_rows","_law_layer","_law_row","_law_key","_law_chords","_law_k","_law_some"]) (g:=fu) F (by fail "sc") rfl rfl rfl fun p A a s H E nd m b n h=>Fu (bG (by fail "so")
   (bG (by fail "so")
   (bG (by fail "so")
   (bG (by fail "so")
   (bG (by fail "so")
   (bG (by fail "so")
   (bG (by fail "so")
   (bG (by fail "so")
   (bG (zq (gO (aG bu bh)) bz (bG (ji (j0 jY (aG (d6 rfl rfl (gO (aG ar bh)) bz (vI (cQ (bF jJ (bF AQ (bF zS ar ar) bu) bu)) (cQ (bF jJ (bF cg (bF cg (bF cg ar bu) ar) bu) fW))) ar) bh)) bz)
   (bG (J1 (vI (cQ (bF Dp (j0 ky (aG ar bh)) bu)) (cQ (bF BO ar (wW rfl rfl wU bz eZ (bF cg ar bu))))) (by fail "so") BF)
   (by fail "so"))))
   (by fail "so")))))))))) (aj (by fail "te")
   (aj (by fail "te")
   (aj (by fail "te")
   (aj (by fail "te")
   (aj (by fail "te")
   (aj (by fail "te")
   (aj (by fail "te")
   (aj (by fail "te")
   (aj (qX V2.never rfl (eJ rfl e (am bv aI)) (bM (i:=12) nd rfl (Or.inl rfl)) (aj (dB (i:=13) nd rfl (Or.inl rfl) (gR eY rfl j mf (am (eN ["_law_key"] [("_law_number",0),("_law_rows",7)] rfl (eJ rfl e (am (pv 4) aI)) (fun _ _ _ _=>(bM (i:=0) (show RQ (["_law_key","_law_number","_law_rows"]:List Str) by left) rfl (Or.inl rfl))) (fun _ _ _ _=>(iQ (PW.pt (zu (d9 (jS b) (mF Gu (mF Dz (pv 1) (pv 0)) bv) bv (fX _)) (vD (d9 (jS b) (cM b3 (cM b3 (cM b3 (pv 2) bv (fun _ _=>rfl)) (pv 0) (fun _ _=>rfl)) bv (fun _ _=>rfl)) fU (fX _))))))) (fun _ _ _ _=>(pv 0)) ⟨⟨rfl,rfl,Or.inl rfl⟩,⟨⟨rfl,rfl,Or.inl rfl⟩,trivial⟩⟩ rfl) aI)))
   (aj (qV (PW.pt (zu (d9 Kz (eG fH rfl l mG (am (pv 13) aI)) bv (fX _)) (vD (d9 (zU h) (pv 13) (eN ["_law_chord"] [] rfl (fK (pv 11)) (fun _ _ _ _=>(bM (i:=0) (show RQ (["_law_chord"]:List Str) by left) rfl (Or.inl rfl))) (fun _ _ _ _=>eA) (fun _ _ _ _=>(cM b3 (pv 0) bv (fun _ _=>rfl))) trivial rfl) (by with_unfolding_all rfl))))) (aN (by fail "te")) je)
   (aN (by fail "te")))))
   (aN (by fail "te")))))))))))
theorem k6 (F:T9 K "_law_read_events" "_law_read_events" (top 27) f fd) (l:mg "range"=Ld):FnOk P w K mg base dm 1 f fd ["_law_number","_law_keys"] (nY K 2 dD):=l9 (N:=["_law_number","_law_keys","_law_found","_law_many","_law_k","_law_pick"]) (g:=dG) F (by fail "sc") rfl rfl rfl fun j A a s H E nd h e i b=>Fu (bG (by fail "so")
   (bG (by fail "so")
   (bG (by fail "so")
   (bG (by fail "so")
   (j3 ar))))) (aj (by fail "te")
   (aj (by fail "te")
   (aj (by fail "te")
   (aj (by fail "te")
   (aN (et (pv 2)))))))
theorem rR (F:T9 K "_law_event" "_law_event" (top 28) f fd) (a:iV P w K mg base 1 "_law_draw" ["_law_cell_here","_law_salt","_law_many"] 3 bA):FnOk P w K mg base dm 2 f fd ["_law_bed_here","_law_cell_here"] (nY K 2 fQ):=l9 (N:=["_law_bed_here","_law_cell_here","_law_pick"]) (g:=gH) F (by fail "sc") rfl rfl rfl (by delta gH;fail "os")
theorem uZ (F:T9 K "events_of" "events_of" (top 14) f fd) (b:mg "range"=Ld):FnOk P w K mg base dm 1 f fd ["bed"] (nY K 1 gy):=l9 (N:=["bed","downs","ups"]) (g:=kh) F (by fail "sc") rfl rfl rfl fun m A a s H E nd j h l e=>Fu (bG (ji (d6 rfl rfl (gO (aG (bF cg ar bu) bh)) bz eZ (iH (aG fW (aG ar bh)))) bz)
   (bG (ji (d6 rfl rfl (gO (aG (bF cg ar bu) bh)) bz eZ (iH (aG fW (aG ar bh)))) bz)
   (by fail "so"))) (aj (pH (i:=1) ["key"] [] nd rfl rfl rfl (eJ rfl b (am (cM b3 (pv 0) bv (fun _ _=>rfl)) aI)) (fun _ _ _ _=>(bM (i:=0) (show RQ (["key"]:List Str) by left) rfl (Or.inl rfl))) (fun _ _ _ _=>eA) (fun _ _ _ _=>(gB (am fU (am (pv 0) aI)))) trivial rfl)
   (aj (pH (i:=2) ["key"] [] nd rfl rfl rfl (eJ rfl b (am (cM b3 (pv 0) bv (fun _ _=>rfl)) aI)) (fun _ _ _ _=>(bM (i:=0) (show RQ (["key"]:List Str) by left) rfl (Or.inl rfl))) (fun _ _ _ _=>eA) (fun _ _ _ _=>(gB (am fU (am (pv 0) aI)))) trivial rfl)
   (aN (by fail "te"))))
theorem qk (F:T9 K "done_behind" "done_behind" (top 19) f fd) (m:mg "len"=Ld):FnOk P w K mg base dm 1 f fd ["text","done","sent"] (nY K 3 gp):=l9 (N:=["text","done","sent","downs","behind"]) (g:=iC) F (by fail "sc") rfl rfl rfl fun l A a s H E nd h b j e=>Fu (bG (ji (KA vF fW (aG (d6 rfl rfl (hG ar) (tJ (jt bz (jt bz vh))) (cQ (bF jJ ar fW)) ar) bh)) bz)
   (bG (by fail "so")
   (bG (by fail "so")
   (j3 ar)))) (aj (dB (i:=3) nd rfl (Or.inl rfl) (xi X9 Ys Yt Bq fU (am (eN ["letter","word"] [] rfl (fK (pv 2)) (fun _ _ _ _=>(tU rfl (g7 (bM (i:=0) (show RQ (["letter","word"]:List Str) by left) rfl (Or.inl rfl)) (g7 (bM (i:=1) (show RQ (["letter","word"]:List Str) by left) rfl (Or.inl rfl)) pd)))) (fun _ _ _ _=>(iQ (d9 (jS b) (pv 1) fU (fX _)))) (fun _ _ _ _=>(pv 0)) trivial rfl) aI)))
   (aj (by fail "te")
   (aj (by fail "te")
   (aN (et (pv 4))))))
end
end K73
namespace K73
open PySem L2 L3 L10 STP
section
variable {P:Rf} {w:RB} {K:QF} {mg:Str->Option QH} {base:Heap} {f:QN} {fd:RZ}
theorem nw (F:T9 K "__init__" "Hand.__init__" (aR (top 6) 0) f fd) (e:gm K "Hand" ["bed","acts","waiting","once","sent"]) (b:mg "dict"=Ld):FnOk P w K mg base dm 3 f fd ["self","bed","standing"] (dY K 3 dM):=jy (N:=["self","bed","standing"]) (g:=jx) F (by fail "sc") rfl rfl rfl fun m A a s H E nd j i l h=>Af (aL (kU e (.head _) bf (aB ar))
   (aL (by fail "so")
   (aL (by fail "so")
   (aL (by fail "so")
   (by fail "so"))))) (aj (na (pv 0) (pv 1) rfl)
   (aj (by fail "te")
   (aj (by fail "te")
   (aj (by fail "te")
   (aN (by fail "te"))))))
theorem rE (F:T9 K "stands" "Hand.stands" (aR (top 6) 1) f fd) (a:gm K "Hand" ["bed","acts","waiting","once","sent"]) (j:mg "tuple"=Ld) (h:mg "sorted"=Ld):FnOk P w K mg base dm 3 f fd ["self"] (dY K 1 bB):=jy (N:=["self"]) (g:=lf) F (by fail "sc") rfl rfl rfl fun o A b s H E nd n m e l=>Af (gu (uu (aY (qv jY (aY (vW rfl rfl (tM (xK (ci a (.tail _ (.head _)) bf))) bX vV (uu (aY (aB ar) (aY (wf (ci a (.tail _ (.head _)) bf) (aB ar)) c8)))) c8)) (aY (ci a (.tail _ (.tail _ (.head _))) bf) (aY (ci a (.tail _ (.tail _ (.tail _ (.head _)))) bf) c8))))) (aN (et (gB (am (gR eY rfl j mf (am (eN ["key"] [("self",0)] rfl (fK (eG (qA rfl) rfl h xy (am (cS (pv 0) rfl) aI))) (fun _ _ _ _=>(bM (i:=0) (show RQ (["key","self"]:List Str) by left) rfl (Or.inl rfl))) (fun _ _ _ _=>eA) (fun _ _ _ _=>(gB (am (pv 0) (am (A0 e (cS (pv 1) rfl) (pv 0) (fun _ _=>rfl)) aI)))) ⟨⟨rfl,rfl,Or.inl rfl⟩,trivial⟩ rfl) aI)) (am (cS (pv 0) rfl) (am (cS (pv 0) rfl) aI))))))
theorem lx (F:T9 K "is_waiting" "Hand.is_waiting" (aR (top 6) 2) f fd) (b:gm K "Hand" ["bed","acts","waiting","once","sent"]):FnOk P w K mg base dm 3 f fd ["self","key"] (dY K 2 bV):=jy (N:=["self","key"]) (g:=ia) F (by fail "sc") rfl rfl rfl fun l A a s H E nd i h j e=>Af (gu (A9 (kj uI (ci b (.tail _ (.tail _ (.head _))) bf) (aB lK)) (kj uN (aB ar) (uv (ci b (.tail _ (.tail _ (.head _))) bf) (aB bu))))) (aN (et (DW (mK uP (cS (pv 0) rfl) lC (fX _)) (EZ (mK (uW e) (pv 1) (cM b3 (cS (pv 0) rfl) bv (fun _ _=>rfl)) (by with_unfolding_all rfl))))))
theorem oE (F:T9 K "has_act" "Hand.has_act" (aR (top 6) 13) f fd) (h:gm K "Hand" ["bed","acts","waiting","once","sent"]) (e:mg "list"=Ld):FnOk P w K mg base dm 3 f fd ["self","act"] (dY K 2 bL):=jy (N:=["self","act"]) (g:=jE) F (by fail "sc") rfl rfl rfl fun m A a s H E nd j i l b=>Af (gu (kj uN (aB ar) (x4 (ci h (.tail _ (.head _)) bf)))) (aN (et (mK (uW b) (pv 1) (gR (rK rfl) rfl e yj (am (Ep Va UZ XT sj (cS (pv 0) rfl)) aI)) (by with_unfolding_all rfl))))
theorem uw (F:T9 K "come" "Hand.come" (aR (top 6) 11) f fd) (b:gm K "Hand" ["bed","acts","waiting","once","sent"]) (a:bZ P w K mg base dm 3 "Hand" "has_act" ["self","act"] (dY K 2 bL)):FnOk P w K mg base dm 4 f fd ["self","key","act"] (dY K 3 bq):=jy (N:=["self","key","act"]) (g:=jF) F (by fail "sc") rfl rfl rfl (by delta jF;fail "ok")
theorem yt (F:T9 K "go" "Hand.go" (aR (top 6) 12) f fd) (b:gm K "Hand" ["bed","acts","waiting","once","sent"]) (a:bZ P w K mg base dm 3 "Hand" "has_act" ["self","act"] (dY K 2 bL)):FnOk P w K mg base dm 4 f fd ["self","key"] (dY K 2 iY):=jy (N:=["self","key","act"]) (g:=nz) F (by fail "sc") rfl rfl rfl (by delta nz;fail "ok")
theorem rO (F:T9 K "decide" "Hand.decide" (aR (top 6) 10) f fd) (h:gm K "Hand" ["bed","acts","waiting","once","sent"]) (q:bZ P w K mg base dm 4 "Hand" "come" ["self","key","act"] (dY K 3 bq)) (n:iV P w K mg base 1 "chord_acts" ["bed","keys"] 2 fM) (e:mg "zip"=Ld) {b:QN} (o:mg "CHORD"=lD (.ref b)) (p:∀O H,L3.DV O K H (.ref b) (.tuple [(.str "chord")])):FnOk P w K mg base dm 5 f fd ["self"] (dY K 1 bT):=jy (N:=["self","keys","what","acts","key","act"]) (g:=k9) F (by fail "sc") rfl rfl rfl fun r A a s H E nd l j m i=>Af (aL (by fail "so")
   (aL (by fail "so")
   (aL (kU h (.tail _ (.tail _ (.head _))) bf (aB lK))
   (aL (by fail "so")
   (by fail "so"))))) (aj (by fail "te")
   (aj (by fail "te")
   (aj (na (pv 0) lC rfl)
   (aj (by fail "te")
   (aN (by fail "te"))))))
theorem kX (F:T9 K "makes_chord" "Hand.makes_chord" (aR (top 6) 4) f fd) (l:gm K "Hand" ["bed","acts","waiting","once","sent"]) (i:bZ P w K mg base dm 3 "Hand" "stands" ["self"] (dY K 1 bB)) (b:iV P w K mg base 1 "layer_of" ["standing"] 1 dI) (j:iV P w K mg base 1 "chords_over" ["bed","keys"] 2 bE) {a:QN} (e:mg "CHORD"=lD (.ref a)) (h:∀O H,L3.DV O K H (.ref a) (.tuple [(.str "chord")])):FnOk P w K mg base dm 4 f fd ["self","key"] (dY K 2 dE):=jy (N:=["self","key"]) (g:=fC) F (by fail "sc") rfl rfl rfl (by delta fC;fail "ok")
theorem jX (F:T9 K "put_to_chord" "Hand.put_to_chord" (aR (top 6) 5) f fd) (j:gm K "Hand" ["bed","acts","waiting","once","sent"]) (n:bZ P w K mg base dm 5 "Hand" "decide" ["self"] (dY K 1 bT)) (m:iV P w K mg base 1 "chords_over" ["bed","keys"] 2 bE) (h:mg "len"=Ld) {e:QN} (q:mg "CHORD"=lD (.ref e)) (r:∀O H,L3.DV O K H (.ref e) (.tuple [(.str "chord")])):FnOk P w K mg base dm 6 f fd ["self","key"] (dY K 2 c9):=jy (N:=["self","key","keys"]) (g:=gG) F (by fail "sc") rfl rfl rfl fun t A a s H E nd b l p o=>Af (aL (by fail "so")
   (aL (by fail "so")
   (nJ (iR (kj jJ (vW rfl rfl (tM (A8 (aY (ci j (.head _) bf) (aY (aB ar) c8)))) bX vV (aB (j0 ky (aG (bF cg ar bu) bh)))) (aB (qW (aG (j0 ky (aG ar bh)) bh))))) (jZ (tR j bf c8)) iZ))) (aj (by fail "te")
   (aj (by fail "te")
   (aN (qV (d9 (jS l) (eN ["chord"] [] rfl (fK (ke m b (am (cS (pv 0) rfl) (am (pv 2) aI)))) (fun _ _ _ _=>(bM (i:=0) (show RQ (["chord"]:List Str) by left) rfl (Or.inl rfl))) (fun _ _ _ _=>eA) (fun _ _ _ _=>(eG fH rfl h mG (am (cM b3 (pv 0) bv (fun _ _=>rfl)) aI))) trivial rfl) (rJ (am (eG fH rfl h mG (am (pv 2) aI)) aI)) (fX _)) (aN (jf (Ei n Aw b (pv 0)))) je))))
theorem sd (F:T9 K "begin" "Hand.begin" (aR (top 6) 6) f fd) (q:gm K "Hand" ["bed","acts","waiting","once","sent"]) (n:bZ P w K mg base dm 3 "Hand" "stands" ["self"] (dY K 1 bB)) (p:bZ P w K mg base dm 4 "Hand" "come" ["self","key","act"] (dY K 3 bq)) (j:iV P w K mg base 1 "layer_of" ["standing"] 1 dI) (i:iV P w K mg base 1 "looked_up" ["bed","layer","key"] 3 ib) (o:iV P w K mg base 1 "chords_over" ["bed","keys"] 2 bE) {b:QN} (l:mg "CHORD"=lD (.ref b)) (m:∀O H,L3.DV O K H (.ref b) (.tuple [(.str "chord")])) {a:QN} (e:mg "NONE"=lD (.ref a)) (h:∀O H,L3.DV O K H (.ref a) (.tuple [(.str "none")])):FnOk P w K mg base dm 5 f fd ["self","key"] (dY K 2 fG):=jy (N:=["self","key","layer","meaning","word"]) (g:=jb) F (by fail "sc") rfl rfl rfl (by delta jb;fail "ok")
theorem sf (F:T9 K "press" "Hand.press" (aR (top 6) 3) f fd) (j:gm K "Hand" ["bed","acts","waiting","once","sent"]) (h:bZ P w K mg base dm 3 "Hand" "is_waiting" ["self","key"] (dY K 2 bV)) (e:bZ P w K mg base dm 4 "Hand" "makes_chord" ["self","key"] (dY K 2 dE)) (b:bZ P w K mg base dm 6 "Hand" "put_to_chord" ["self","key"] (dY K 2 c9)) (i:bZ P w K mg base dm 5 "Hand" "decide" ["self"] (dY K 1 bT)) (a:bZ P w K mg base dm 5 "Hand" "begin" ["self","key"] (dY K 2 fG)):FnOk P w K mg base dm 7 f fd ["self","key"] (dY K 2 gM):=jy (N:=["self","key"]) (g:=jq) F (by fail "sc") rfl rfl rfl (by delta jq;fail "ok")
theorem rz (F:T9 K "settle" "Hand.settle" (aR (top 6) 8) f fd) (j:gm K "Hand" ["bed","acts","waiting","once","sent"]) (i:bZ P w K mg base dm 5 "Hand" "decide" ["self"] (dY K 1 bT)) (h:bZ P w K mg base dm 4 "Hand" "come" ["self","key","act"] (dY K 3 bq)) {a:QN} (b:mg "CHORD"=lD (.ref a)) (e:∀O H,L3.DV O K H (.ref a) (.tuple [(.str "chord")])):FnOk P w K mg base dm 6 f fd ["self","key"] (dY K 2 gr):=jy (N:=["self","key","what"]) (g:=iy) F (by fail "sc") rfl rfl rfl (by delta iy;fail "ok")
theorem uV (F:T9 K "lift" "Hand.lift" (aR (top 6) 7) f fd) (h:gm K "Hand" ["bed","acts","waiting","once","sent"]) (e:bZ P w K mg base dm 3 "Hand" "is_waiting" ["self","key"] (dY K 2 bV)) (b:bZ P w K mg base dm 6 "Hand" "settle" ["self","key"] (dY K 2 gr)) (a:bZ P w K mg base dm 4 "Hand" "go" ["self","key"] (dY K 2 iY)):FnOk P w K mg base dm 7 f fd ["self","key"] (dY K 2 ic):=jy (N:=["self","key"]) (g:=jD) F (by fail "sc") rfl rfl rfl (by delta jD;fail "ok")
theorem oB (F:T9 K "wait_on" "Hand.wait_on" (aR (top 6) 9) f fd) (b:gm K "Hand" ["bed","acts","waiting","once","sent"]) (a:bZ P w K mg base dm 5 "Hand" "decide" ["self"] (dY K 1 bT)):FnOk P w K mg base dm 6 f fd ["self"] (dY K 1 fJ):=jy (N:=["self","age"]) (g:=gZ) F (by fail "sc") rfl rfl rfl (by delta gZ;fail "ok")
theorem IW (F:T9 K "step" "step" (top 5) f fd) (j:gm K "Hand" ["bed","acts","waiting","once","sent"]) (a:wb P w K mg base dm 3 "Hand" ["self","bed","standing"] (dY K 3 dM)) (h:bZ P w K mg base dm 6 "Hand" "wait_on" ["self"] (dY K 1 fJ)) (b:bZ P w K mg base dm 7 "Hand" "press" ["self","key"] (dY K 2 gM)) (e:bZ P w K mg base dm 7 "Hand" "lift" ["self","key"] (dY K 2 ic)) (i:bZ P w K mg base dm 3 "Hand" "stands" ["self"] (dY K 1 bB)):FnOk P w K mg base dm 8 f fd ["bed","standing","event"] (dY K 3 STP.jT):=jy (N:=["bed","standing","event","hand"]) (g:=yq) F (by fail "sc") rfl rfl rfl (by delta yq;fail "ok")
theorem ou (F:T9 K "enter" "Places.enter" (aR (top 15) 1) f fd) (a:gm K "Places" ["most","found","numbers"]) {e o b:QN} {j:RZ} {v:Obj} (n:L9.XC K e o b) (t:K.lookup b=lD v) (u:TF K (.ref b)=QJ) (q:FnOk P w K mg base dm 1 b j ["self","most"] (L9.tS e "most")) (y:Binds K j ["self","most"] []) (r:Q9 K Q4 "TooMany"=lD (lD (.ref e))) (p:mg "TooMany"=lD (.ref e)) (l:mg "len"=Ld):FnOk P w K mg base (L4.lw P w) 3 f fd ["self","place","back","event"] (dY K 4 b6):=GJ (N:=["self","place","back","event"]) (g:=dg) F (by fail "sc") rfl rfl rfl fun G A h s H E nd m i C B=>Af (aL (nJ (Eb (xH (aB ar) (ci a (.tail _ (.tail _ (.head _))) bf))) (aL (nJ (iR (kj GF (qv ky (aY (ci a (.tail _ (.head _)) bf) c8)) (ci a (.head _) bf))) (yF r (ci a (.head _) bf)) iZ)
   (aL (Cs (ci a (.tail _ (.tail _ (.head _))) bf) (aB ar) (qv ky (aY (ci a (.tail _ (.head _)) bf) c8)))
   (jZ (zZ (ci a (.tail _ (.head _)) bf) (aB (iH (aG ar (aG ar (aG ar bh))))))))) iZ)
   (gu (sE (ci a (.tail _ (.tail _ (.head _))) bf) (aB ar)))) (aj (qV (yo (LD.YB i (pv 1) (cS (pv 0) rfl)) (by with_unfolding_all rfl)) (aj (qV (d9 Km (eG fH rfl l mG (am (cS (pv 0) rfl) aI)) (cS (pv 0) rfl) (fX _)) (aN (L9.CC n t u q y (m.mono (by decide)) rfl p (am (cS (pv 0) rfl) aI))) je)
   (aj (LD.aaG i (cS (pv 0) rfl) (pv 1) (eG fH rfl l mG (am (cS (pv 0) rfl) aI)) rfl)
   (aN (jf (xi Vd U0 U1 kG (cS (pv 0) rfl) (am (gB (am (pv 1) (am (pv 2) (am (pv 3) aI)))) aI)))))) je)
   (aN (et (LD.YC i (cS (pv 0) rfl) (pv 1) (fun _ _=>rfl)))))
theorem lP (F:T9 K "__init__" "Places.__init__" (aR (top 15) 0) f fd) (a:gm K "Places" ["most","found","numbers"]) (h:bZ P w K mg base (L4.lw P w) 3 "Places" "enter" ["self","place","back","event"] (dY K 4 b6)):FnOk P w K mg base (L4.lw P w) 4 f fd ["self","first","most"] (dY K 3 cO):=GJ (N:=["self","first","most"]) (g:=cP) F (by fail "sc") rfl rfl rfl fun m A b s H E nd e j l i=>Af (aL (kU a (.head _) bf (aB ar))
   (aL (kU a (.tail _ (.head _)) bf (aB (qW bh)))
   (aL (kU a (.tail _ (.tail _ (.head _))) bf Cq)
   (jZ (FZ a bf (aY (aB ar) (aY (aB lK) (aY (aB lK) c8)))))))) (aj (na (pv 0) (pv 2) rfl)
   (aj (na (pv 0) (rJ aI) rfl)
   (aj (na (pv 0) LD.aaF rfl)
   (aN (jf (Bk h L4.mh e (pv 0) (am (pv 1) (am lC (am lC aI)))))))))
theorem nA (F:T9 K "way_to" "Places.way_to" (aR (top 15) 2) f fd) (n:gm K "Places" ["most","found","numbers"]) (e:mg "list"=Ld) (b:mg "reversed"=Ld):FnOk P w K mg base dm 3 f fd ["self","number"] (dY K 2 cJ):=jy (N:=["self","number","row","place"]) (g:=gz) F (by fail "sc") rfl rfl rfl fun m A a s H E nd j i l h=>Af (aL (by fail "so")
   (aL (by fail "so")
   (aL (by fail "so")
   (gu (Ek bf))))) (aj (by fail "te")
   (aj (by fail "te")
   (aj (by fail "te")
   (aN (et (yR rfl rfl e rfl b (pv 2)))))))
theorem tN (F:T9 K "places_on" "places_on" (top 18) f fd) (b:gm K "Places" ["most","found","numbers"]) (l:wb P w K mg base (L4.lw P w) 4 "Places" ["self","first","most"] (dY K 3 cO)) (q:bZ P w K mg base (L4.lw P w) 3 "Places" "enter" ["self","place","back","event"] (dY K 4 b6)) (j:Mm P w K mg base 8 "step" ["bed","standing","event"] 3 STP.jT) (m:iV P w K mg base 1 "events_of" ["bed"] 1 gy) (p:iV P w K mg base 1 "done_behind" ["text","done","sent"] 3 gp) (r:mg "len"=Ld) {h:QN} (n:mg "AT_REST"=lD (.ref h)) (o:∀O H,L3.DV O K H (.ref h) (.tuple [(.tuple []),.none,.none])):FnOk P w K mg base (L4.lw P w) 9 f fd ["bed","text","most"] (dY K 3 gx):=GJ (N:=["bed","text","most","events","places","number","place","event","answer","done"]) (g:=kq) F (by fail "sc") rfl rfl rfl fun B A e s H E nd a u y t=>Af (aL (dH (kN (aB (mY (aG ar bh)))) bX)
   (aL (dH (Lw b (aY (aB (iH (aG (zE o) (aG bu bh)))) (aY (aB ar) c8))) bX)
   (aL (dH (aB bu) bX)
   (aL (sU (iR (kj yX (aB ar) (qv ky (aY (ci b (.tail _ (.head _)) bf) c8)))) (aL (dH (uv (uv (ci b (.tail _ (.head _)) bf) (aB ar)) (aB bu)) bX)
   (aL (vE (pY (hG ar)) bX (aL (dH (kN (tt (aY (aB ar) (aY (aB (bF cg ar bu)) (aY (aB ar) c8))))) bX)
   (aL (dH (aB (mY (aG ar (aG (bF cg ar bu) (aG (bF cg ar bu) bh))))) bX)
   (nJ (wY (cQ (bF uI ar lK))) (jZ (FZ b bf (aY (aB (iH (aG (bF cg ar bu) (aG ar bh)))) (aY (aB ar) (aY (aB ar) c8))))) iZ))))
   (Ha Cr (aB bu)))))
   (gu bf))))) (aj (dB (i:=3) nd rfl (Or.inl rfl) (ke m a (am (pv 0) aI)))
   (aj (dB (i:=4) nd rfl (Or.inl rfl) (KM l L4.mh a (am (gB (am (ve (v:= .ref _) rfl n rfl) (am bv aI))) (am (pv 2) aI))))
   (aj (dB (i:=5) nd rfl (Or.inl rfl) bv)
   (aj (wT V2.leaving (d9 Dm (pv 5) (eG fH rfl r mG (am (cS (pv 4) rfl) aI)) (fX _)) (aj (dB (i:=6) nd rfl (Or.inl rfl) (cM b3 (cM b3 (cS (pv 4) rfl) (pv 5) (fun _ _=>rfl)) bv (fun _ _=>rfl)))
   (aj (qX V2.leaving rfl (fK (pv 3)) (bM (i:=7) nd rfl (Or.inl rfl)) (aj (dB (i:=8) nd rfl (Or.inl rfl) (ke j a (am (pv 0) (am (cM b3 (pv 6) bv (fun _ _=>rfl)) (am (pv 7) aI)))))
   (aj (dB (i:=9) nd rfl (Or.inl rfl) (ke p a (am (pv 1) (am (cM b3 (pv 6) bv (fun _ _=>rfl)) (am (cM b3 (pv 8) bv (fun _ _=>rfl)) aI)))))
   (aN (qV (d9 uP (pv 9) lC (fX _)) (aN (jf (Bk q L4.mh a (pv 4) (am (gB (am (cM b3 (pv 8) bv (fun _ _=>rfl)) (am (pv 9) aI))) (am (pv 5) (am (pv 7) aI)))))) je)))))
   (aN (K3 (i:=5) nd rfl (Or.inl rfl) bv Hq)))))
   (aN (et (pv 4)))))))
theorem GK {q:QN} {b:Array QH} (F:Yc K "typed" "typed" (top 17) f fd q b) (e:gm K "Places" ["most","found","numbers"]) (p:xD P w K mg base (L4.lw P w) 9 "places_on" ["bed","text","most"] [] (dY K 3 gx)) (m:bZ P w K mg base dm 3 "Places" "way_to" ["self","number"] (dY K 2 cJ)) (r:mg "len"=Ld) {l:QN} (n:mg "AT_REST"=lD (.ref l)) (o:∀O H,L3.DV O K H (.ref l) (.tuple [(.tuple []),.none,.none])):FnOk P w K mg base (L4.lw P w) 10 f fd ["bed","text","most"] (dY K 3 kQ):=LH (N:=["bed","text","most","places","end"]) (g:=uX) F (by fail "sc") rfl rfl rfl fun y A a s H E nd j h u t=>Af (aL (dH (CG (fun _ _=> .nil) (aY (aB ar) (aY (aB ar) (aY (aB ar) c8)))) bX)
   (aL (dH (aB (iH (aG (zE o) (aG (j0 Az (aG ar bh)) bh)))) bX)
   (aL (nJ (Eb (xH (aB ar) (ci e (.tail _ (.tail _ (.head _))) bf))) (gu (aB lK)) iZ)
   (gu (tR e bf (aY (sE (ci e (.tail _ (.tail _ (.head _))) bf) (aB ar)) c8)))))) (aj (dB (i:=3) nd rfl (Or.inl rfl) (z8 p j L4.mh (am (pv 0) (am (pv 1) (am (pv 2) aI)))))
   (aj (dB (i:=4) nd rfl (Or.inl rfl) (gB (am (ve (v:= .ref _) rfl n rfl) (am (eG fH rfl r mG (am (pv 1) aI)) aI))))
   (aj (qV (yo (LD.YB h (pv 4) (cS (pv 3) rfl)) (by with_unfolding_all rfl)) (aN (et lC)) je)
   (aN (et (Bk m Aw j (pv 3) (am (LD.YC h (cS (pv 3) rfl) (pv 4) (fun _ _=>rfl)) aI)))))))
theorem sg (F:T9 K "_law_short" "_law_short" (top 29) f fd) (e:xD P w K mg base (L4.lw P w) 10 "typed" ["bed","text","most"] [.int 400] (dY K 3 kQ)) (n:mg "len"=Ld):FnOk P w K mg base dm 11 f fd ["_law_bed_here","_law_text","_law_many"] (dY K 3 gP):=jy (N:=["_law_bed_here","_law_text","_law_many","_law_found"]) (g:=l8) F (by fail "sc") rfl rfl rfl fun m A a s H E nd b j l h=>Af (aL (dH (kN (zx (fun _ _=>(.cons (.int _) .nil)) (aY (aB ar) (aY (aB ar) c8)))) bX)
   (by fail "so")) (aj (dB (i:=3) nd rfl (Or.inl rfl) (z8 e b MO (am (pv 0) (am (pv 1) aI))))
   (aN (by fail "te")))
theorem Nv (F:T9 K "law" "law" (top 30) f fd) (o:Mm P w K mg base 8 "step" ["bed","standing","event"] 3 STP.jT) (q:Mm P w K mg base 11 "_law_short" ["_law_bed_here","_law_text","_law_many"] 3 gP) (n:iV P w K mg base 3 "_law_bed" ["_law_script","_law_most"] 2 jd) (j:iV P w K mg base 2 "_law_event" ["_law_bed_here","_law_cell_here"] 2 fQ) (t:iV P w K mg base 1 "_law_cell" ["_law_script","_law_k"] 2 cr) (r:iV P w K mg base 2 "_law_read_bed" ["_law_number","_law_most_keys","_law_most_layers","_law_most_wait"] 4 fw) (u:iV P w K mg base 1 "_law_read_events" ["_law_number","_law_keys"] 2 dD) (h:mg "abs"=Ld) (l:mg "range"=Ld) (y:mg "len"=Ld):FnOk P w K mg base dm 12 f fd ["_law_script"] (dY K 1 F_law):=jy (N:=["_law_script","_law_bed_here","_law_events","_law_standing","_law_text","_law_many","_law_asked","_law_event_here","_law_sent","_law_there","_law_more"]) (g:=FM) F (by fail "sc") rfl rfl rfl fun v A a s H E nd e b p m=>Af (aL (by fail "so")
   (aL (dH (kN (aB (d6 rfl rfl (hG (J8 oW ar (rc bu) (rc bu))) bz eZ (mY (aG ar (aG ar bh)))))) bX)
   (aL (by fail "so")
   (aL (dH (kN (aB (bF mE (bF mE ar (d6 rfl rfl (gO (aG (bF cg ar bu) bh)) bz eZ (iH (aG fW (aG ar bh))))) (bF rC (qW (aG (iH (aG fW (aG bu bh))) bh)) (bF cg ar bu))))) bX)
   (aL (by fail "so")
   (aL (dH (aB fW) bX)
   (aL (dH (aB bu) bX)
   (aL (by fail "so")
   (aL (vE (pY (hG ar)) bX (aL (by fail "so")
   (aL (dH (aB (KA vF fW (aG (d6 rfl rfl (hG ar) (tJ (jt bz (jt bz vh))) (cQ (bF jJ ar fW)) ar) bh))) bX)
   (by fail "so"))))
   (gu (aB KO))))))))))) (aj (by fail "te")
   (aj (pH (i:=2) ["_law_cell_here"] [("_law_bed_here",1)] nd rfl rfl rfl (fK (wz zK (pv 0) (vA bv) (vA bv))) (fun _ _ _ _=>(bM (i:=0) (show RQ (["_law_cell_here","_law_bed_here"]:List Str) by left) rfl (Or.inl rfl))) (fun _ _ _ _=>eA) (fun _ _ _ _=>(ke j e (am (pv 1) (am (pv 0) aI)))) ⟨⟨rfl,rfl,Or.inl rfl⟩,trivial⟩ rfl)
   (aj (by fail "te")
   (aj (dB (i:=2) nd rfl (Or.inl rfl) (mF mM (mF mM (pv 2) (eN ["_law_key"] [] rfl (eJ rfl l (am (cM b3 (pv 1) bv (fun _ _=>rfl)) aI)) (fun _ _ _ _=>(bM (i:=0) (show RQ (["_law_key"]:List Str) by left) rfl (Or.inl rfl))) (fun _ _ _ _=>eA) (fun _ _ _ _=>(gB (am fU (am (pv 0) aI)))) trivial rfl)) (mF vC (rJ (am (gB (am fU (am bv aI))) aI)) (cM b3 (pv 1) bv (fun _ _=>rfl)))))
   (aj (by fail "te")
   (aj (dB (i:=4) nd rfl (Or.inl rfl) fU)
   (aj (dB (i:=5) nd rfl (Or.inl rfl) bv)
   (aj (by fail "te")
   (aj (qX V2.never rfl (fK (pv 2)) (bM (i:=7) nd rfl (Or.inl rfl)) (aj (by fail "te")
   (aj (dB (i:=10) nd rfl (Or.inl rfl) (xi X9 Ys Yt Bq fU (am (eN ["_law_letter","_law_word"] [] rfl (fK (pv 8)) (fun _ _ _ _=>(tU rfl (g7 (bM (i:=0) (show RQ (["_law_letter","_law_word"]:List Str) by left) rfl (Or.inl rfl)) (g7 (bM (i:=1) (show RQ (["_law_letter","_law_word"]:List Str) by left) rfl (Or.inl rfl)) pd)))) (fun _ _ _ _=>(iQ (d9 (jS b) (pv 1) fU (fX _)))) (fun _ _ _ _=>(pv 0)) trivial rfl) aI)))
   (aN (by fail "te")))))
   (aN (et JO)))))))))))
end
end K73
namespace L2
open PySem PySem.Spec PyProof.Rows
section
variable {Z:St} {H:Hp} {Q:VK} {D:Ends}
theorem JC {K:QF} {e b:TE} {f:Str} (h:b Z H fun y H1=>e Z H1 fun x H2=>∃a C dx fs,x= .ref a/\H2 a=lD (.ins C dx fs)/\Zp K C/\U4 K C f/\fs.length<1000/\D.nx Z (bC H2 a (.ins C dx (iq f y fs)))):LG K e b f D Z H:=h
theorem Lj {c:TT} {t u:TE} (h:c Z H fun b H1=>if b=QJ then t Z H1 Q else u Z H1 Q):Pj c t u Z H Q:=h
theorem Mb {K:QF} {b:TE} {f:Str} (h:b Z H fun x H1=>∃a C dx fs v,x= .ref a/\H1 a=lD (.ins C dx fs)/\Zp K C/\U4 K C f/\fs.lookup f=lD v/\Q v H1):KP K b f Z H Q:=h
theorem Js {C:QN} {m:Str} {sp:Sp} {E:XK} {b:TE} {t:TA} (h:b Z H fun x H1=>∃a dx fs,x= .ref a/\H1 a=lD (.ins C dx fs)/\fs.lookup m=Ld/\t Z H1 fun vs H2=>sp (x::(vs++[])) H2 Q E):sG C m sp [] E b t Z H Q:=h
theorem Jk {C:QN} {sp:Sp} {E:XK} {t:TA} (h:t Z H fun vs H1=>∀x dx,H1 x=Ld->H1 dx=Ld->dx≠x->sp (.ref x::(vs++[])) (bC (bC H1 dx (.own x)) x (.ins C dx [])) (fun v H2=>v= .TN/\Q (.ref x) H2) E):xt C sp [] E t Z H Q:=h
end
end L2
local macro_rules| `(tactic|fail "gh")=> `(tactic|repeat (first
 |specialize L2.Lk ?_
 |specialize L2.aha ?_
 |specialize L2.JC ?_
 |specialize L2.Lj ?_
 |specialize L2.Mb ?_
 |specialize L2.Js ?_
 |specialize L2.Jk ?_
 |specialize L2.afm ?_
 |((with_reducible show L2.zh _ _ _ _);refine⟨_,rfl,?_⟩)
 |specialize L2.akT ?_
 |specialize L2.aiM ?_
 |specialize L2.aio ?_
 |specialize L2.ahO ?_
 |specialize L2.alk ?_
 |((specialize L2.akR ?_ ?_);first|exact⟨by decide,by decide⟩|exact⟨by decide,by decide,by decide⟩|exact(show(0:Int)<_ by decide)|exact⟨by decide,by left⟩)
 |((specialize L2.ahM ?_ ?_);exact rfl)
 |((specialize L2.ahG ?_ ?_);exact rfl)
 |specialize L2.ahd ?_
 |specialize L2.JD ?_
 |specialize L2.agd ?_
 |specialize L2.aeG ?_
 |specialize L2.ad1 ?_
 |specialize L2.ae1 ?_
 |specialize L2.afi ?_
 |specialize L2.aju ?_
 |specialize L2.ah3 ?_
 |specialize L2.agm ?_
 |specialize L2.ahX ?_
 |specialize L2.afT ?_
 |specialize L2.aeU ?_
 |specialize L2.afH ?_
 |specialize L2.aeX ?_
 |specialize L2.agz ?_
 |specialize L2.aeN ?_
 |specialize L2.ahW ?_
 |specialize L2.aez ?_
 |specialize L2.agQ ?_
 |specialize L2.agq ?_
 |specialize L2.ain ?_
 |specialize L2.ahV ?_
 |specialize L2.ac9 ?_
 |specialize L2.afb ?_
 |specialize L2.afN ?_
 |specialize L2.ad5 ?_
 |specialize L2.adD ?_
 |specialize L2.afl ?_
 |specialize L2.aeu ?_
 |specialize L2.ahe ?_
 |specialize L2.aff ?_
 |specialize L2.aeP ?_
 |specialize L2.ad6 ?_
 |specialize L2.aeF ?_
 |specialize L2.aec ?_
 |specialize L2.aeK ?_
 |specialize L2.aet ?_))
namespace K73
open PySem L2
section
open L3 L4
variable {P:Rf} {w:RB} {K:QF} {mg:Str->Option QH} {base:Heap} {f:QN} {fd:RZ}
theorem k7:TK ["self","most"] ["self","most"] (ay (aR (top 12) 0)):=⟨rfl,rfl,rfl,by left,rfl,by left,by left⟩
theorem Ci {C B fI:QN} (F:T9 K "__init__" "TooMany.__init__" (aR (top 12) 0) f fd) (o:L9.XC K C B fI) (l:mg "BedError"=lD (.ref B)) (g:Xf K B (.type "type")=QJ) (m:Xg K (.ref B) (.type "type") "__init__"=lD (.val (.builtin "ValueError.__init__")))
  (b:T7 K (.ref B) "__getattribute__"=lD (lD (.builtin "type.__getattribute__"))) (j:RI K (.ref C) "most"=lD Ld):FnOk P w K mg base dm 1 f fd ["self","most"] (L9.tS C "most"):=by
 refine F.ok k7 (fun vs H Q E h=> ?_) (fun u A a s H vs Q E t h=> ?_)
 .obtain⟨_,_,rfl,_⟩:=h;rfl
 obtain⟨e,v,rfl,r,n,q⟩:=h;refine⟨_,(aj (jf (L9.D8 rfl l g m b o (am (pv 0) (am (L9.JE (L9.Ng (by decide) (L9.Ll (pv 1) L9.M8)) (by decide)) aI)))) (aN (L9.Jy o j (pv 0) (pv 1) rfl))),?_⟩;fail "gh";refine⟨V.ref e,rfl,v,rfl,r,fun y=>⟨e,y,rfl,n,?_⟩⟩;exact⟨v,rfl,V.ref e,rfl,e,rfl,n,fun p j i=>q p j i⟩
end
end K73
theorem Qj {α:Type}:∀{l:List α},l.length=1->∃a,l=[a]
 |[a],_=>⟨a,rfl⟩
theorem Qb {α:Type}:∀{l:List α},l.length=2->∃a b,l=[a,b]
 |[a,b],_=>⟨a,b,rfl⟩
theorem P9 {α:Type}:∀{l:List α},l.length=3->∃a b c,l=[a,b,c]
 |[a,b,c],_=>⟨a,b,c,rfl⟩
theorem Qr {α:Type}:∀{l:List α},l.length=4->∃a b c d,l=[a,b,c,d]
 |[a,b,c,d],_=>⟨a,b,c,d,rfl⟩
local macro_rules| `(tactic|fail "ba")=> `(tactic|(intro _ _ _ _ _ _ us hl;first|(obtain⟨_,h⟩:=Qj hl;subst h;rfl)|(obtain⟨_,_,h⟩:=Qb hl;subst h;rfl)|(obtain⟨_,_,_,h⟩:=P9 hl;subst h;rfl)|(obtain⟨_,_,_,_,h⟩:=Qr hl;subst h;rfl)|(match us,hl with|[_,_,_,_,_],_=>rfl)|(match us,hl with|[],_=>rfl)))| `(tactic|fail "bd")=> `(tactic|(intro _ _ _ _ _ _ us hl;first|((have h1:us.length=1:=by simpa using hl);obtain⟨_,h⟩:=Qj h1;subst h;exact⟨_,rfl,rfl⟩)|((have h1:us.length=2:=by simpa using hl);obtain⟨_,_,h⟩:=Qb h1;subst h;exact⟨_,rfl,rfl⟩)|((have h1:us.length=3:=by simpa using hl);obtain⟨_,_,_,h⟩:=P9 h1;subst h;exact⟨_,rfl,rfl⟩)|((have h1:us.length=4:=by simpa using hl);(match us,h1 with|[_,_,_,_],_=>exact⟨_,rfl,rfl⟩))))| `(tactic|fail "fl")=> `(tactic|first|exact List.forall_mem_nil _|(refine List.forall_mem_cons.mpr ⟨?_,?_⟩;(·(show RI _ _ _=_;k_is));fail "fl"))| `(tactic|fail "ki")=> `(tactic|first|(refine' L3.NI.mk ?a' ⟨_,L2.Ex ?b' ?c' ?d'⟩;(case a'=>k_is);(case b'=>k_is);(case c'=>k_is);(case d'=>k_is))|(refine' L3.MI.mk ?a' ?e' ⟨_,L2.Ex ?b' ?c' ?d'⟩;(case a'=>k_is);(case e'=>k_is);(case b'=>k_is);(case c'=>k_is);(case d'=>k_is))|(refine' L3.CI.mk ?a' ?b' ?c' ?d' ?e' ?f' ?g' ?i';(case a'=>k_is);(case b'=>k_is);(case c'=>k_is);(case d'=>k_is);(case e'=>k_is);(case f'=>k_is);(case g'=>k_is);(case i'=>fail "fl"))|(refine' L3.DI.mk ?a' ⟨_,L3.Hr ?b' ?c' ?d' ?e'⟩;(case a'=>k_is);(case b'=>k_is);(case c'=>k_is);(case d'=>k_is);(case e'=>k_is))|k_is|k_exc|rfl|left|(rw[<-aaq];rfl))
namespace K73
open PySem L2 L3
def F_lawH:FN:=L10.OV F_law
theorem all_mk {l:Z8} {w:RB} {K:QF} {h:Heap} {mg:Str->Option QH} {fa:QN}
  {aaD:Tok}
  {VS:QN} {abg:Nat} {abp:Array (Option QH)}
  {ZU:Tok}
  {S7:QN} {aaz:Nat} {aav:Array (Option QH)}
  {VU:QN} {Ym:Nat} {Ye:Array (Option QH)}
  {T2:QN} {Zj:Nat} {Y6:Array (Option QH)}
  {abn:QN} {XA:Tok}
  {f0 f1 f2 f3 f4 f5 f6 f7 f8 f9 f10 f11 f12 f13 f14 f15 f16 f17 f18 b f20 f21 f22 f23 f24 f25 f26 f27 f28 f29 f30 f31 f32 f33 m f35 f36 f37 q:QN}
  {o n:QN}
  {Y qR:Str} {E:QN} {bsR:List QH} {M:List Str} {agD:List QH} {abR:Bool} {agT:Option Bool} {ddR:Option QN} {k0R k1R k2R k3R Z:Option QH}
  {U:QH} {T:Option QN} {t:Array Um} {nN:Nat} {N:Array (Option QH)} (X:K.In h) (G:h.Ns Q4 mg) (hfa:mg "law"=lD (.ref fa))
  (h0:NI K f0 "layer_of" (top 4))
  (h1:NI K f1 "looked_up" (top 7))
  (h2:NI K f2 "chords_over" (top 8))
  (h3:NI K f3 "chord_acts" (top 9))
  (h4:NI K f4 "_law_cell" (top 21))
  (h5:NI K f5 "_law_draw" (top 22))
  (h6:NI K f6 "_law_meaning" (top 23))
  (h7:NI K f7 "_law_bed" (top 24))
  (h8:NI K f8 "_law_read_meaning" (top 25))
  (h9:NI K f9 "_law_read_bed" (top 26))
  (h10:NI K f10 "_law_read_events" (top 27))
  (h11:NI K f11 "_law_event" (top 28))
  (h12:NI K f12 "events_of" (top 14))
  (h13:NI K f13 "done_behind" (top 19))
  (h14:NI K f14 "step" (top 5))
  (h15:NI K f15 "places_on" (top 18))
  (h16:DI K f16 abn "typed" (top 17) #[.int 400 XA])
  (h17:NI K f17 "_law_short" (top 29))
  (h18:NI K f18 "law" (top 30))
  (a:CI K b "Hand" ["bed","acts","waiting","once","sent"])
  (h20:MI K b f20 "__init__" "Hand.__init__" (aR (top 6) 0))
  (h21:MI K b f21 "stands" "Hand.stands" (aR (top 6) 1))
  (h22:MI K b f22 "is_waiting" "Hand.is_waiting" (aR (top 6) 2))
  (h23:MI K b f23 "has_act" "Hand.has_act" (aR (top 6) 13))
  (h24:MI K b f24 "come" "Hand.come" (aR (top 6) 11))
  (h25:MI K b f25 "go" "Hand.go" (aR (top 6) 12))
  (h26:MI K b f26 "decide" "Hand.decide" (aR (top 6) 10))
  (h27:MI K b f27 "makes_chord" "Hand.makes_chord" (aR (top 6) 4))
  (h28:MI K b f28 "put_to_chord" "Hand.put_to_chord" (aR (top 6) 5))
  (h29:MI K b f29 "begin" "Hand.begin" (aR (top 6) 6))
  (h30:MI K b f30 "press" "Hand.press" (aR (top 6) 3))
  (h31:MI K b f31 "settle" "Hand.settle" (aR (top 6) 8))
  (h32:MI K b f32 "lift" "Hand.lift" (aR (top 6) 7))
  (h33:MI K b f33 "wait_on" "Hand.wait_on" (aR (top 6) 9))
  (j:CI K m "Places" ["most","found","numbers"])
  (h35:MI K m f35 "enter" "Places.enter" (aR (top 15) 1))
  (h36:MI K m f36 "__init__" "Places.__init__" (aR (top 15) 0))
  (h37:MI K m f37 "way_to" "Places.way_to" (aR (top 15) 2))
  (XG:Q9 K Q4 "TooMany"=lD (lD (.ref o)))
  (YJ:Q9 K Q4 "BedError"=lD (lD (.ref n)))
  (xR:K.lookup o=lD (excClassObj Y qR o E bsR (.ref n::[.type "ValueError",.type "Exception",.type "BaseException",.type "object"]) QJ M agD abR agT ddR k0R k1R k2R k3R Z "ValueError.__new__"))
  (eI:V9 K n [.type "ValueError",.type "Exception",.type "BaseException",.type "object"] "ValueError.__new__"=QJ)
  (lN:K.lookup E=lD ⟨U,T,.dict t nN,N⟩)
  (p:(t.all fun e=>match e.key with| .str _ _=>QJ|_=>QQ)=QJ)
  (inN:Q9 K E "__init__"=lD (lD (.ref q)))
  (Q:RI K (.ref o) "__setattr__"=lD (lD (.builtin "object.__setattr__")))
  (S:RI K (.ref o) "most"=lD Ld)
  (R:Xf K n (.type "type")=QJ)
  (fcB:Xg K (.ref n) (.type "type") "__init__"=lD (.val (.builtin "ValueError.__init__")))
  (L:T7 K (.ref n) "__getattribute__"=lD (lD (.builtin "type.__getattribute__")))
  (r:MI K o q "__init__" "TooMany.__init__" (aR (top 12) 0))
  (abk:Q9 K Q4 "NONE"=lD (lD (.ref VS)))
  (aay:Q9 K Q4 "CHORD"=lD (lD (.ref S7)))
  (Zi:Q9 K Q4 "AT_REST"=lD (lD (.ref T2)))
  (Zn:K.lookup T2=lD ⟨.type "tuple",Ld,.seq #[.ref VU,.none,.none] Zj,Y6⟩)
  (Yl:K.lookup VU=lD ⟨.type "tuple",Ld,.seq #[] Ym,Ye⟩)
  (aau:K.lookup S7=lD ⟨.type "tuple",Ld,.seq #[.str "chord" ZU] aaz,aav⟩)
  (abv:K.lookup VS=lD ⟨.type "tuple",Ld,.seq #[.str "none" aaD] abg,abp⟩)
  (y0:Q9 K Q4 "max"=lD Ld)
  (y1:Q9 K Q4 "all"=lD Ld)
  (y2:Q9 K Q4 "list"=lD Ld)
  (y3:Q9 K Q4 "sorted"=lD Ld)
  (y4:Q9 K Q4 "len"=lD Ld)
  (y5:Q9 K Q4 "range"=lD Ld)
  (y6:Q9 K Q4 "tuple"=lD Ld)
  (y7:Q9 K Q4 "dict"=lD Ld)
  (y8:Q9 K Q4 "zip"=lD Ld)
  (y9:Q9 K Q4 "reversed"=lD Ld)
  (J:Q9 K Q4 "abs"=lD Ld):
  ∃fd:RZ,(∀(s:QP) (v:QH),Wd s fd ⟨[v],[]⟩ [("_law_script",v)])/\∀base:Heap,K.In base->base.Ns Q4 mg->FnOk l.prog w K mg base dm 12 fa fd ["_law_script"] (L3.nY K 1 F_lawH):=by
 have Xx:=R0 X G y0;have aax:=R0 X G y1;have VT:=R0 X G y2;have VX:=R0 X G y3;have g:=R0 X G y4;have A:=R0 X G y5;have Us:=R0 X G y6;have aaO:=R0 X G y7;have abQ:=R0 X G y8;have Wn:=R0 X G y9;have abE:=R0 X G J;have Yh:=Iw (xs:=[.str "none"]) (ds:=[(.str "none")]) abv (by show 1<=QX;decide) (.cons ⟨_,rfl⟩ .nil) fun O H=>(.cons (.str _) .nil);have y:=Iw (xs:=[.str "chord"]) (ds:=[(.str "chord")]) aau (by show 1<=QX;decide) (.cons ⟨_,rfl⟩ .nil) fun O H=>(.cons (.str _) .nil);have YL:=Iw (xs:=[]) (ds:=[]) Yl (by show 0<=QX;decide) .nil fun O H=> .nil;have UI:=Iw (xs:=[.ref VU,.TN,.TN]) (ds:=[(.tuple []),.none,.none]) Zn (by show 3<=QX;decide) (.cons rfl (.cons rfl (.cons rfl .nil))) fun O H=>(.cons (YL O H) (.cons .TN (.cons .TN .nil)));have Yj:=SN X G abk;have u:=SN X G aay;have UJ:=SN X G Zi;refine h18.law X G hfa (by fail "ba") fun base fd acs=> ?_;have W:Tp l.prog w K mg base h:=⟨X,G⟩;have Vq:=h0.c W fun _ z=>w9 z Xx;have W9:=h1.c W fun _ z=>tX z;have Tb:=h2.c W fun _ z=>qj z aax;have WJ:=h3.c W fun _ z=>r9 z VT VX g Yj Yh;have Uw:=h4.c W fun _ z=>uB z g;have T3:=h5.c W fun _ z=>tO z;have UN:=h6.c W fun _ z=>oH z T3 Xx;have Xw:=h7.c W fun _ z=>xX z Uw T3 UN A Us g;have UG:=h8.c W fun _ z=>jU z Xx;have Vx:=h9.c W fun _ z=>nV z UG A Us g;have UM:=h10.c W fun _ z=>k6 z A;have Vt:=h11.c W fun _ z=>rR z T3;have VW:=h12.c W fun _ z=>uZ z A;have U2:=h13.c W fun _ z=>qk z g;have f:=a.cf;have B:=j.cf;have p:Xr K E=QJ:=by unfold Xr;rw[lN];exact p
 have XR:L4.Kh K o (.ref n::[.type "ValueError",.type "Exception",.type "BaseException",.type "object"]):=⟨_,_,_,_,_,_,_,_,_,_,_,_,_,_,_,_,xR⟩;have XD:L9.XC K o n q:=⟨⟨_,_,_,_,_,_,_,_,_,_,_,_,_,_,xR,p,inN⟩,eI,Q⟩;have ZX:=SN X G XG;have Ze:=SN X G YJ;obtain⟨fdI,I⟩:=r.F;obtain⟨_,_,_,_,_,_,_,_,_,rfl,Wo,_⟩:=I.ex;have Wm:=r.i;have Wl:=Ci (P:=l.prog) (w:=w) (mg:=mg) (base:=base) I XD Ze R fcB L S;have Wk:=I.binds (ps:=["self","most"]) (by fail "ba");have ZF:=h20.k a W fun _ z=>nw z f aaO;have Tg:=h21.mt a W fun _ z=>rE z f Us VX;have To:=h22.mt a W fun _ z=>lx z f;have TY:=h23.mt a W fun _ z=>oE z f VT;have TJ:=h24.mt a W fun _ z=>uw z f TY;have XH:=h25.mt a W fun _ z=>yt z f TY;have C:=h26.mt a W fun _ z=>rO z f TJ WJ abQ u y;have UE:=h27.mt a W fun _ z=>kX z f Tg Vq Tb u y;have Uv:=h28.mt a W fun _ z=>jX z f C Tb g u y;have Wb:=h29.mt a W fun _ z=>sd z f Tg TJ Vq W9 Tb u y Yj Yh;have Wc:=h30.mt a W fun _ z=>sf z f To UE Uv C Wb;have VR:=h31.mt a W fun _ z=>rz z f C TJ u y;have WL:=h32.mt a W fun _ z=>uV z f To VR XH;have Vw:=h33.mt a W fun _ z=>oB z f C;have XF:=h14.c W fun _ z=>IW z f ZF Vw Wc WL Tg;have S3:=h35.mt j W fun _ z=>ou z B XD Wo Wm Wl Wk XG ZX g;have W3:=h36.k j W fun _ z=>lP z B S3;have Ul:=h37.mt j W fun _ z=>nA z B VT Wn;have U5:=h15.d W fun _ z=>tN z B W3 S3 XF VW U2 g UJ UI;have W0:L3.xD l.prog w K mg base (L4.lw l.prog w) 10 "typed" ["bed","text","most"] [.int 400] (L10.dY K 3 kQ):=h16.c (ds:=[.int 400 XA]) (dvs:=[.int 400]) W (.cons ⟨_,rfl⟩ .nil) fun _ z=>GK z B U5 Ul g UJ UI;have WK:=h17.c W fun _ z=>sg z W0 g;exact(Nv acs XF WK Xw Vt Uw Vx UM abE A g).imp (fun _ _ _ _ h=>L10.MD h)
end K73
inductive PySem.W.Fast|tw18027075252917129908|tw13829490435763205513|tw6859548736116770660|tw16766961886889853433|tw5568452939931265342|tw17037669604464192220|tw6524165852348107470|tw8313017714754835597|tw3355224733801948174|tw5315448705224788073|tw5538287916869786955|tw7251101002887223285|tw2350845010395811668|tw14974302701226409082|tw11478801099664046525|tw15055887232568619401|tw357827721058455873|tw17265232527255078849|tw337933168327544678|tw5988703747550612536|tw10056607103545761770|tw5356947653869594357|tw14603337640183822532|tw13245263137276886344|tw6537228248835371768|tw3244566899653235996|tw15423616284785376259|tw16962510817520744161|tw11505397992581292368|tw4919457313692684554|tw18009616892117218159|tw4885260840305485193|tw10672614123399217124|tw15131786524349058624|tw18090658520901788241|tw9861896803764731477|tw497251133281568856|tw2973000127309746577|tw2505377602149514848|tw12008261247006621641|tw371895944179460872|tw4765951166203818254|tw17369700063131484073|tw16118526959700330684|tw7524808667571597418|tw6639583312155703595|tw2855776058781913487|tw15685012815175564299|tw102903587040533077|tw5387231073531397929|tw2108561799891229865|tw4723951734916766367|tw12294624185131771033|tw4457044825678849433|tw13978025840424150345|tw9618430327383392440|tw17787885902828943868|tw2831134442342605767|tw13038214273810117929|tw3280726112586211247|tw11761221750154732340|tw7012233392562642303|tw322693328242248977|tw11168397463148055794|tw2193310382307962352|tw15822291409648919284|tw17891430232688421508|tw15938434937725523030|tw11940751367959454218|tw13340868139388273111|tw16120713778842302591|tw12631653921728780321|tw10365220127238922289|tw8856746877520695040|tw5034229522705188507|tw2789892491053261681|tw15565714614215618852|tw11333081083181727335|tw5183140267141356604|tw1629669781462919484|tw17617103127519936821|tw16975768835508097073|tw554933424055124293|tw4212488659541865236|tw3104091402956643499|tw4718692566380344368|tw8685502047717534337|tw16937035294553454975|tw11718132118679264074|tw5866037412827264963|tw16309860160032460770|tw4447665659401276278|tw8192920042702851844|tw4902133144533409080|tw9603598537983170429|tw10751582056003841438|tw13326841684035600197|tw16516989953492972616|tw11484682060018145279|tw17805688166386621094|tw17218638323062766921|tw5366491477473435018|tw18303908603899798705|tw5998800217051068312|tw3225657912270337461|tw17712979229392389807
open PySem PySem.W PyProof.Rows
set_option maxRecDepth 100000 in
set_option maxHeartbeats 0 in
theorem PySem.Challenge.cw_chordbed_k73_whole_no_row_is_shorter_holds : PySem.Challenge.rw_chordbed_k73_whole_no_row_is_shorter.Holds := by
 w_on;o_law;k_head;(case hw=>w_witness2)
 k_fill
 refine L3.NY (l:=PySem.Challenge.rw_chordbed_k73_whole_no_row_is_shorter) (n:=63) (k:=12) (x:= "_law_script") (F:=K73.F_lawH) rfl (by decide) rfl ⟨rfl,by decide,by decide⟩ (fun w h Y=>PySem.W.kIn_of Y) ?F K73.main
 case F=>
  intro w e f h b G a
  apply K73.all_mk b G a
  all_goals fail "ki"
